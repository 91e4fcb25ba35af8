/- A region whose operations may come in more than one order, walked in one order that is laid down beforehand; whatever is taken yields the same in every world that keeps what stands now. -/
import Derived.Test.YteelnholmlabmaaPlan
namespace Go.Proofs.Yteelnholmlabmaa
open Go.RowKit
section
variable {P : Program} {ops : Array Oper} {Q : Exit → Act → World → Prop}

theorem wpAnyH_weaken {S S' : World → Prop} (h : ∀ W, S' W → S W) {md : Region.Mode} : ∀ (fuel : Nat) (listed : Array Bool) (a : Act) (w : World), wpAnyH P md ops Q S' fuel listed a w → wpAnyH P md ops Q S fuel listed a w
  | 0, _, _, _, hh => hh
  | fuel + 1, _, _, _, hh => ⟨hh.1, fun i hi => wpOp_mono (fun a' w' h' => ⟨h _ h'.1, wpAnyH_weaken h fuel _ a' w' h'.2⟩) (hh.2 i hi)⟩

def PlanB (P : Program) (ops : Array Oper) (Q : Exit → Act → World → Prop) : List (Bool × Nat) → Act → World → Prop
  | [], a, w => Q .normal a w
  | (true, i) :: r, a, w => ∃ o v, ops[i]? = some o ∧ YieldsIf P ops (fun W => Below w.heap.size w W) o v a ∧ PlanB P ops Q r (a.put o.dst v) w
  | (false, i) :: r, a, w => wpOp P ops Q i (fun a' w' => Below w.heap.size w w' ∧ PlanB P ops Q r a' w') a w

theorem PlanB.any (hs : Region.noSelect ops = true) (hQ : ∀ c a d v w, Q (.panic c) (Act.put a d v) w → Q (.panic c) a w) : ∀ (plan : List (Bool × Nat)) (fuel : Nat) (listed : Array Bool) (a : Act) (w : World),
    plan.length ≤ fuel → planOk ops plan listed = true → PlanB P ops Q plan a w → wpAnyH P .any ops Q (fun W => Below w.heap.size w W) fuel listed a w
  | [], fuel, listed, a, w, _, hp, h => wpAnyH_done (by simpa [planOk] using hp) h fuel
  | (true, i) :: r, fuel + 1, listed, a, w, hf, hp, h => by
    obtain ⟨o, v, ho, hy, hr⟩ := h
    simp only [planOk, Bool.and_eq_true] at hp
    exact wpAnyH_take ho hs hp.1.1 hp.1.2 (fun c a w => hQ c a _ _ w) hy (Below.refl _ _) (PlanB.any hs hQ r fuel _ _ _ (by simpa using hf) hp.2 hr)
  | (false, i) :: r, fuel + 1, listed, a, w, hf, hp, h => by
    simp only [planOk, Bool.and_eq_true, beq_iff_eq] at hp
    refine wpAnyH_all hp.1 (by simp) fun j hj => ?_
    obtain rfl : j = i := by simpa using hj
    refine wpOp_mono (fun a' w' h' => ⟨h'.1, ?_⟩) h
    exact wpAnyH_weaken (fun W hW => h'.1.trans (hW.mono h'.1.size)) _ _ _ _ (PlanB.any hs hQ r fuel _ _ _ (by simpa using hf) hp.2 h'.2)
  | (true, _) :: _, 0, _, _, _, hf, _, _ => by simp at hf
  | (false, _) :: _, 0, _, _, _, hf, _, _ => by simp at hf

theorem wp_region_planB (plan : List (Bool × Nat)) {id : Nat} {a : Act} {w : World} (hm : P.follows .mixedOrders = true) (hs : (Region.noSelect ops && planOk ops plan (Array.replicate ops.size false) && decide (plan.length ≤ ops.size)) = true)
    (hQ : ∀ c a d v w, Q (.panic c) (Act.put a d v) w → Q (.panic c) a w) (h : PlanB P ops Q plan a w.drew) : (Code.region id ops true).wp P Q a w := by
  simp only [Bool.and_eq_true, decide_eq_true_eq] at hs
  exact wp_region_held hm (PlanB.any hs.1.1 hQ plan _ _ _ _ hs.2 hs.1.2 h)

theorem PlanB.take {i : Nat} {o : Oper} {v : Value} {r : List (Bool × Nat)} {a : Act} {w : World} (hi : ops.toList[i]? = some o) (hw : Region.wanted o (yielded ops a.tmps) = true)
    (hy : ∀ W, Below w.heap.size w W → (execOp a.eval o).run P W = .ok (.value v) W) (h : PlanB P ops Q r (a.put o.dst v) w) : PlanB P ops Q ((true, i) :: r) a w :=
  ⟨o, v, by simpa using hi, .inl ⟨hw, hy⟩, h⟩
theorem PlanB.skip {i : Nat} {o : Oper} {r : List (Bool × Nat)} {a : Act} {w : World} (hi : ops.toList[i]? = some o) (hw : Region.wanted o (yielded ops a.tmps) = false)
    (h : PlanB P ops Q r (a.put o.dst undef) w) : PlanB P ops Q ((true, i) :: r) a w :=
  ⟨o, undef, by simpa using hi, .inr ⟨hw, rfl⟩, h⟩
theorem PlanB.step {i : Nat} {o : Oper} {r : List (Bool × Nat)} {a : Act} {w : World} (hi : ops.toList[i]? = some o) (hw : Region.wanted o (yielded ops a.tmps) = true)
    (h : ∀ K : Act → World → Prop, Shut (∀ a w', Below w.heap.size w w' → PlanB P ops Q r a w' → K a w') → Oper.wp P o a w K Q) : PlanB P ops Q ((false, i) :: r) a w := by
  show wpOp P ops Q i _ a w
  refine wpOp_step (o := o) (by simpa using hi) fun K' hK => ?_
  rw [if_pos hw]
  exact h K' fun a w h1 h2 => hK a w ⟨h1, h2⟩
end
end Go.Proofs.Yteelnholmlabmaa

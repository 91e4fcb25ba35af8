/- A region whose last operation waits for all others and may write what the others have read: an order laid down beforehand, as in Plan, where the condition on the worlds need not outlive that last operation. -/
import Derived.Test.YtjmojlhebjbgaaaFaa
namespace Go.Proofs.Ytjmojlhebjbgaaa
open Go.RowKit
section
variable {P : Program} {ops : Array Oper} {Q : Exit → Act → World → Prop} {S : World → Prop} {f : Nat}

/-- whatever order is picked: behind each operation but the last one S holds -/
def RestF (P : Program) (ops : Array Oper) (Q : Exit → Act → World → Prop) (S : World → Prop) (f : Nat) : Nat → Array Bool → Act → World → Prop
  | 0, L, a, w => Region.ready .any ops L = [] ∧ Q .normal a w
  | n + 1, L, a, w => (Region.ready .any ops L = [] → Q .normal a w) ∧ ∀ i ∈ Region.ready .any ops L, wpOp P ops Q i (fun a' w' => (i = f ∨ S w') ∧ RestF P ops Q S f n (L.setIfInBounds i true) a' w') a w
theorem RestF.plain : ∀ (n : Nat) (L : Array Bool) (a : Act) (w : World), RestF P ops Q S f n L a w → wpAny P .any ops Q n L a w
  | 0, _, _, _, h => h
  | n + 1, _, _, _, h => ⟨h.1, fun i hi => wpOp_mono (fun a' w' h' => RestF.plain n _ a' w' h'.2) (h.2 i hi)⟩
/-- the last operation waits for number i -/
def waits (ops : Array Oper) (f i : Nat) : Bool := ((ops[f]?).map fun o => o.after.any fun e => Region.binds .any e && e.on == i).getD false
theorem waits.of {i : Nat} (h1 : waits ops f i = true) : ∃ o, ops[f]? = some o ∧ ∃ e ∈ o.after, Region.binds .any e = true ∧ e.on = i := by
  unfold waits at h1
  cases ho : ops[f]? with
  | none => rw [ho] at h1; simp at h1
  | some o =>
    rw [ho] at h1
    simp only [Option.map_some, Option.getD_some] at h1
    obtain ⟨e, he, hb⟩ := Array.any_eq_true'.1 h1
    simp only [Bool.and_eq_true, beq_iff_eq] at hb
    exact ⟨o, rfl, e, he, hb.1, hb.2⟩

theorem RestF.early {i : Nat} {oi : Oper} {v : Value} (hi : ops[i]? = some oi) (hs : Region.noSelect ops = true) (hf : waits ops f i = true)
    (hQ : ∀ c a w, Q (.panic c) (a.put oi.dst v) w → Q (.panic c) a w) : ∀ (n : Nat) (L : Array Bool) (a : Act) (w : World), Region.free .any ops L i = true → i ∈ Region.ready .any ops L → YieldsIf P ops S oi v a → S w →
      RestF P ops Q S f n (L.setIfInBounds i true) (a.put oi.dst v) w → RestF P ops Q S f (n + 1) L a w := by
  have go : ∀ (n : Nat) (L : Array Bool) (a : Act) (w : World), (∀ j oj, ops[j]? = some oj → j ≠ i → L.getD j true = false → (∀ e ∈ oj.after, Region.binds .any e = true → e.on ≠ i) → oi.apart ops oj = true) →
      i ∈ Region.ready .any ops L → YieldsIf P ops S oi v a → S w → RestF P ops Q S f n (L.setIfInBounds i true) (a.put oi.dst v) w → RestF P ops Q S f (n + 1) L a w := by
    intro n
    induction n with
    | zero =>
      intro L a w _ hr hy hS H
      refine ⟨fun h0 => by (rw [h0] at hr; simp at hr), fun j hj => ?_⟩
      by_cases hji : j = i
      · rw [hji]
        exact hy.wpOp hi hS ⟨.inr hS, H⟩
      · have := ready_mono hj hji
        rw [H.1] at this
        simp at this
    | succ n ih =>
      intro L a w hfr hr hy hS H
      refine ⟨fun h0 => by (rw [h0] at hr; simp at hr), fun j hj => ?_⟩
      by_cases hji : j = i
      · rw [hji]
        exact hy.wpOp hi hS ⟨.inr hS, H⟩
      · obtain ⟨hun, oj, hoj, hall⟩ := mem_ready.1 hj
        have hi0 := (mem_ready.1 hr).1
        have hno : ∀ e ∈ oj.after, Region.binds .any e = true → e.on ≠ i := fun e he hb heq => by
          have h1 := hall e he hb
          rw [heq] at h1
          by_cases hL : i < L.size
          · simp [hL] at hi0 h1; rw [hi0] at h1; cases h1
          · simp [Array.getElem?_eq_none (Nat.le_of_not_lt hL)] at h1
        have hjf : j ≠ f := fun e => by
          subst e
          obtain ⟨o, ho, e, he, hb, hon⟩ := waits.of hf
          rw [hoj] at ho
          cases ho
          exact hno e he hb hon
        have h2 := wpOp_putIf hoj (hfr j oj hoj hji hun hno) (fun cs b => Region.noSelect_spec hs i oi cs b hi) (fun cs b => Region.noSelect_spec hs j oj cs b hoj) hQ hy (H.2 j (ready_mono hj hji))
        refine wpOp_mono (fun a' w' h3 => ?_) h2
        obtain ⟨hy', hS', H'⟩ := h3
        have hSw : S w' := hS'.resolve_left hjf
        refine ⟨.inr hSw, ih _ a' w' (fun k ok hk hki hku hkn => hfr k ok hk hki ?_ hkn) (ready_mono hr (Ne.symm hji)) hy' hSw ?_⟩
        · by_cases hjk : j = k
          · subst hjk; exact hun
          · rwa [getD_set_ne true hjk] at hku
        · rw [Array.setIfInBounds_comm _ _ hji]
          exact H'
  intro n L a w hfree hr hy hS H
  exact go n L a w (Region.free_spec hi hfree) hr hy hS H

/-- true: number i is taken; false: number i comes up alone, and is carried out -/
def planOkF (ops : Array Oper) (f : Nat) : List (Bool × Nat) → Array Bool → Bool
  | [], L => (Region.ready .any ops L).isEmpty
  | (true, i) :: r, L => waits ops f i && Region.free .any ops L i && (Region.ready .any ops L).contains i && planOkF ops f r (L.setIfInBounds i true)
  | (false, i) :: r, L => Region.ready .any ops L == [i] && (i != f || r.isEmpty) && planOkF ops f r (L.setIfInBounds i true)
def PlanF (P : Program) (ops : Array Oper) (S : World → Prop) (f : Nat) (Q : Exit → Act → World → Prop) : List (Bool × Nat) → Act → World → Prop
  | [], a, w => Q .normal a w
  | (true, i) :: r, a, w => ∃ o v, ops[i]? = some o ∧ YieldsIf P ops S o v a ∧ PlanF P ops S f Q r (a.put o.dst v) w
  | (false, i) :: r, a, w => wpOp P ops Q i (fun a' w' => (i = f ∨ S w') ∧ PlanF P ops S f Q r a' w') a w
theorem PlanF.any (hs : Region.noSelect ops = true) (hQ : ∀ c a d v w, Q (.panic c) (Act.put a d v) w → Q (.panic c) a w) : ∀ (plan : List (Bool × Nat)) (n : Nat) (L : Array Bool) (a : Act) (w : World),
    plan.length ≤ n → planOkF ops f plan L = true → (plan = [] ∨ S w) → PlanF P ops S f Q plan a w → RestF P ops Q S f n L a w
  | [], n, L, a, w, _, hp, _, h => by
    have hr : Region.ready .any ops L = [] := by simpa [planOkF] using hp
    cases n with
    | zero => exact ⟨hr, h⟩
    | succ n => exact ⟨fun _ => h, by rw [hr]; simp⟩
  | (true, i) :: r, n + 1, L, a, w, hn, hp, hS, h => by
    obtain ⟨o, v, ho, hy, hr⟩ := h
    simp only [planOkF, Bool.and_eq_true] at hp
    obtain ⟨⟨⟨h1, h2⟩, h3⟩, h4⟩ := hp
    have hSw := hS.resolve_left (by simp)
    exact RestF.early ho hs h1 (fun c a w => hQ c a _ _ w) n L a w h2 (by simpa using h3) hy hSw (PlanF.any hs hQ r n _ _ _ (by simpa using hn) h4 (.inr hSw) hr)
  | (false, i) :: r, n + 1, L, a, w, hn, hp, _, h => by
    simp only [planOkF, Bool.and_eq_true, beq_iff_eq, Bool.or_eq_true, bne_iff_ne, List.isEmpty_iff] at hp
    obtain ⟨⟨h1, h2⟩, h3⟩ := hp
    refine ⟨fun h0 => by rw [h1] at h0; simp at h0, fun j hj => ?_⟩
    rw [h1] at hj
    obtain rfl : j = i := by simpa using hj
    refine wpOp_mono (fun a' w' h' => ⟨h'.1, PlanF.any hs hQ r n _ _ _ (by simpa using hn) h3 (h'.1.imp (fun e => h2.resolve_left (fun hne => hne e)) id) h'.2⟩) h
  | (true, _) :: _, 0, _, _, _, hn, _, _, _ => by simp at hn
  | (false, _) :: _, 0, _, _, _, hn, _, _, _ => by simp at hn

theorem wp_region_planF (S : World → Prop) (f : Nat) (plan : List (Bool × Nat)) {id : Nat} {a : Act} {w : World} (hm : P.follows .mixedOrders = true) (hs : (Region.noSelect ops && planOkF ops f plan (Array.replicate ops.size false) && decide (plan.length ≤ ops.size)) = true)
    (hQ : ∀ c a d v w, Q (.panic c) (Act.put a d v) w → Q (.panic c) a w) (hS : S w.drew) (h : PlanF P ops S f Q plan a w.drew) : (Code.region id ops true).wp P Q a w := by
  simp only [Bool.and_eq_true, decide_eq_true_eq] at hs
  exact wp_region_any hm (RestF.plain _ _ _ _ (PlanF.any hs.1.1 hQ plan _ _ _ _ hs.2 hs.1.2 (.inr hS) h))

theorem PlanF.take {i : Nat} {o : Oper} {v : Value} {r : List (Bool × Nat)} {a : Act} {w : World} (hi : ops.toList[i]? = some o) (hw : Region.wanted o (yielded ops a.tmps) = true)
    (hy : ∀ W, S W → (execOp a.eval o).run P W = .ok (.value v) W) (h : PlanF P ops S f Q r (a.put o.dst v) w) : PlanF P ops S f Q ((true, i) :: r) a w :=
  ⟨o, v, by simpa using hi, .inl ⟨hw, hy⟩, h⟩
theorem PlanF.step {i : Nat} {o : Oper} {r : List (Bool × Nat)} {a : Act} {w : World} (hi : ops.toList[i]? = some o) (hw : Region.wanted o (yielded ops a.tmps) = true)
    (h : ∀ K : Act → World → Prop, Shut (∀ a w, S w → PlanF P ops S f Q r a w → K a w) → Oper.wp P o a w K Q) : PlanF P ops S f Q ((false, i) :: r) a w := by
  show wpOp P ops Q i _ a w
  refine wpOp_step (o := o) (by simpa using hi) fun K' hK => ?_
  rw [if_pos hw]
  exact h K' fun a w h1 h2 => hK a w ⟨.inr h1, h2⟩
/-- the last one: nothing is asked of the world behind it -/
theorem PlanF.last {o : Oper} {a : Act} {w : World} (hi : ops.toList[f]? = some o) (hw : Region.wanted o (yielded ops a.tmps) = true)
    (h : ∀ K : Act → World → Prop, Shut (∀ a w, Q .normal a w → K a w) → Oper.wp P o a w K Q) : PlanF P ops S f Q [(false, f)] a w := by
  show wpOp P ops Q f _ a w
  refine wpOp_step (o := o) (by simpa using hi) fun K' hK => ?_
  rw [if_pos hw]
  exact h K' fun a w h2 => hK a w ⟨.inl rfl, h2⟩
end
end Go.Proofs.Ytjmojlhebjbgaaa

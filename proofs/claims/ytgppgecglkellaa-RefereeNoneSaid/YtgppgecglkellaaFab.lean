/- A region whose operations may come in more than one order, walked in one order that is laid down beforehand: whatever yields the same in every world of a kind is taken when it comes up, and whatever else can come up alone is carried out. The reference's ends of spans. Slices of spans that a call makes itself: what they own, how they are read, what a sort leaves. Two spans held against each other; what two lists of spans the same means for the reference. What the reference builds of the ends: the fewest spans of some keys. What the reference builds are the fewest spans of just those keys: plain. Same, Join and Without of the reference. A region whose operations may come in more than one order, walked in one order that is laid down beforehand; whatever is taken yields the same in every world that keeps what stands now. (For seats without pairs.) Changes: their cells, slices of them; what the reference's Check, All and Span answer. What the reference's Span, All and Sound answer. A region whose operations may come in more than one order, walked along a tree of orders that is laid down beforehand. Transactions: what is known of them, and whether the reference finds them sound (for seats that have no more of frame). -/
import Derived.Test.YtgppgecglkellaaRows
import Derived.Test.YtgppgecglkellaaFaa
import Derived.WalkKit
import Derived.Deep.RegionHeld3
import Derived.OneCell
import Derived.OwnWalk
import Derived.Laws.OwnMore
import Derived.Laws.StructEq
import Derived.BigQuiet
import Derived.Deep.QuietTactic
namespace Go.Proofs.Ytgppgecglkellaa
section
variable {P : Program} {ops : Array Oper} {Q : Exit → Act → World → Prop} {S : World → Prop}

/-- the order: true: number i is taken; false: number i comes up alone, and is carried out -/
def planOk (ops : Array Oper) : List (Bool × Nat) → Array Bool → Bool
  | [], listed => (Region.ready .any ops listed).isEmpty
  | (true, i) :: r, listed => Region.free .any ops listed i && (Region.ready .any ops listed).contains i && planOk ops r (listed.setIfInBounds i true)
  | (false, i) :: r, listed => Region.ready .any ops listed == [i] && planOk ops r (listed.setIfInBounds i true)

def Plan (P : Program) (ops : Array Oper) (S : World → Prop) (Q : Exit → Act → World → Prop) : List (Bool × Nat) → Act → World → Prop
  | [], a, w => Q .normal a w
  | (true, i) :: r, a, w => ∃ o v, ops[i]? = some o ∧ YieldsIf P ops S o v a ∧ Plan P ops S Q r (a.put o.dst v) w
  | (false, i) :: r, a, w => wpOp P ops Q i (fun a' w' => S w' ∧ Plan P ops S Q r a' w') a w

theorem Plan.any (hs : Region.noSelect ops = true) (hQ : ∀ c a d v w, Q (.panic c) (Act.put a d v) w → Q (.panic c) a w) : ∀ (plan : List (Bool × Nat)) (fuel : Nat) (listed : Array Bool) (a : Act) (w : World),
    plan.length ≤ fuel → planOk ops plan listed = true → S w → Plan P ops S Q plan a w → wpAnyH P .any ops Q S fuel listed a w
  | [], fuel, listed, a, w, _, hp, _, h => wpAnyH_done (by simpa [planOk] using hp) h fuel
  | (true, i) :: r, fuel + 1, listed, a, w, hf, hp, hS, h => by
    obtain ⟨o, v, ho, hy, hr⟩ := h
    simp only [planOk, Bool.and_eq_true] at hp
    exact wpAnyH_take ho hs hp.1.1 hp.1.2 (fun c a w => hQ c a _ _ w) hy hS (Plan.any hs hQ r fuel _ _ _ (by simpa using hf) hp.2 hS hr)
  | (false, i) :: r, fuel + 1, listed, a, w, hf, hp, _, h => by
    simp only [planOk, Bool.and_eq_true, beq_iff_eq] at hp
    refine wpAnyH_all hp.1 (by simp) fun j hj => ?_
    obtain rfl : j = i := by simpa using hj
    exact wpOp_mono (fun a' w' h' => ⟨h'.1, Plan.any hs hQ r fuel _ _ _ (by simpa using hf) hp.2 h'.1 h'.2⟩) h
  | (true, _) :: _, 0, _, _, _, hf, _, _, _ => by simp at hf
  | (false, _) :: _, 0, _, _, _, hf, _, _, _ => by simp at hf

theorem wp_region_plan (plan : List (Bool × Nat)) {id : Nat} {a : Act} {w : World} (hm : P.follows .mixedOrders = true) (hs : (Region.noSelect ops && planOk ops plan (Array.replicate ops.size false) && decide (plan.length ≤ ops.size)) = true)
    (hQ : ∀ c a d v w, Q (.panic c) (Act.put a d v) w → Q (.panic c) a w) (hS : S w.drew) (h : Plan P ops S Q plan a w.drew) : (Code.region id ops true).wp P Q a w := by
  simp only [Bool.and_eq_true, decide_eq_true_eq] at hs
  exact wp_region_held hm (Plan.any hs.1.1 hQ plan _ _ _ _ hs.2 hs.1.2 hS h)

theorem Plan.take {i : Nat} {o : Oper} {v : Value} {r : List (Bool × Nat)} {a : Act} {w : World} (hi : ops.toList[i]? = some o) (hw : Region.wanted o (yielded ops a.tmps) = true)
    (hy : ∀ W, S W → (execOp a.eval o).run P W = .ok (.value v) W) (h : Plan P ops S Q r (a.put o.dst v) w) : Plan P ops S Q ((true, i) :: r) a w :=
  ⟨o, v, by simpa using hi, .inl ⟨hw, hy⟩, h⟩
theorem Plan.skip {i : Nat} {o : Oper} {r : List (Bool × Nat)} {a : Act} {w : World} (hi : ops.toList[i]? = some o) (hw : Region.wanted o (yielded ops a.tmps) = false)
    (h : Plan P ops S Q r (a.put o.dst undef) w) : Plan P ops S Q ((true, i) :: r) a w :=
  ⟨o, undef, by simpa using hi, .inr ⟨hw, rfl⟩, h⟩
theorem Plan.step {i : Nat} {o : Oper} {r : List (Bool × Nat)} {a : Act} {w : World} (hi : ops.toList[i]? = some o) (hw : Region.wanted o (yielded ops a.tmps) = true)
    (h : ∀ K : Act → World → Prop, Shut (∀ a w, S w → Plan P ops S Q r a w → K a w) → Oper.wp P o a w K Q) : Plan P ops S Q ((false, i) :: r) a w := by
  show wpOp P ops Q i _ a w
  refine wpOp_step (o := o) (by simpa using hi) fun K' hK => ?_
  rw [if_pos hw]
  exact h K' fun a w h1 h2 => hK a w ⟨h1, h2⟩
theorem Plan.pass {i : Nat} {o : Oper} {r : List (Bool × Nat)} {a : Act} {w : World} (hi : ops.toList[i]? = some o) (hw : Region.wanted o (yielded ops a.tmps) = false) (hS : S w)
    (h : Plan P ops S Q r (a.put o.dst undef) w) : Plan P ops S Q ((false, i) :: r) a w := by
  show wpOp P ops Q i _ a w
  unfold wpOp
  have hi' : ops[i]? = some o := by simpa using hi
  simp only [hi', hw, Bool.false_eq_true, if_false]
  exact ⟨hS, h⟩
end
end Go.Proofs.Ytgppgecglkellaa
namespace Go.Proofs.Ytgppgecglkellaa
open Go.RowKit
attribute [local go_sem] less_eq same_eq le_eq ge_eq gt_eq

def ends2 (E : List K) (s : K × K) : List K := ins (ins E s.1) s.2
theorem ins_len (l : List K) (s : K) : (ins l s).length ≤ l.length + 1 := by
  unfold ins
  split
  · omega
  · simp; omega

/-- the two cells of one span, in whatever world the statement comes to -/
def HeldE (w : World) (B b o : Nat) (s : K × K) (W : World) : Prop := W.cell? ⟨b, o, none⟩ = some (.string s.1) ∧ W.cell? ⟨b, o + 1, none⟩ = some (.string s.2) ∧ Below B w W ∧ b < W.heap.size ∧ B ≤ W.heap.size
theorem HeldE.below {w : World} {B b o : Nat} {s : K × K} {W W' : World} (h : HeldE w B b o s W) (hb : Below W.heap.size W W') : HeldE w B b o s W' :=
  ⟨(hb.cell (p := ⟨b, o, none⟩) h.2.2.2.1).trans h.1, (hb.cell (p := ⟨b, o + 1, none⟩) h.2.2.2.1).trans h.2.1, h.2.2.1.trans (hb.mono h.2.2.2.2), Nat.lt_of_lt_of_le h.2.2.2.1 hb.size, Nat.le_trans h.2.2.2.2 hb.size⟩

end Go.Proofs.Ytgppgecglkellaa
namespace Go.Proofs.Ytgppgecglkellaa
open Go.RowKit Go.Sort

def cellsS (s : K × K) : List Value := [.string s.1, .string s.2]
def flat (l : List (K × K)) : List Value := l.flatMap cellsS
theorem flat_nil : flat [] = [] := rfl
theorem flat_append (a b : List (K × K)) : flat (a ++ b) = flat a ++ flat b := by simp [flat]
theorem flat_one (s : K × K) : flat [s] = [.string s.1, .string s.2] := rfl
theorem flat_length (l : List (K × K)) : (flat l).length = l.length * 2 := by
  induction l with
  | nil => rfl
  | cons s r ih => rw [show s :: r = [s] ++ r from rfl, flat_append, List.length_append, ih, flat_one]; simp; omega
theorem flat_get : ∀ (l : List (K × K)) (i : Nat) (s : K × K), l[i]? = some s → (flat l)[i * 2]? = some (.string s.1) ∧ (flat l)[i * 2 + 1]? = some (.string s.2)
  | [], i, s, h => by simp at h
  | t :: r, 0, s, h => by
    simp only [List.getElem?_cons_zero, Option.some.injEq] at h
    subst h
    exact ⟨rfl, rfl⟩
  | t :: r, i + 1, s, h => by
    have h' : r[i]? = some s := by simpa using h
    have := flat_get r i s h'
    rw [show t :: r = [t] ++ r from rfl, flat_append, flat_one]
    exact ⟨by rw [show (i + 1) * 2 = i * 2 + 1 + 1 by omega]; simpa using this.1, by rw [show (i + 1) * 2 + 1 = i * 2 + 1 + 1 + 1 by omega]; simpa using this.2⟩
theorem flat_one_cell (l : List (K × K)) : ∀ u ∈ flat l, u.oneCell' = true := by
  intro u hu
  simp only [flat, List.mem_flatMap, cellsS, List.mem_cons, List.not_mem_nil, or_false] at hu
  obtain ⟨s, _, rfl | rfl⟩ := hu <;> rfl
/-- the last span's end stored anew -/
theorem flat_set (p : List (K × K)) (l : K × K) (t : K) : (flat (p ++ [l])).set (p.length * 2 + 1) (.string t) = flat (p ++ [(l.1, t)]) := by
  rw [flat_append, flat_append, List.set_append, flat_length, if_neg (by omega)]
  simp [flat_one]

/-- a slice of the call's own, no block of it below base, that holds a list of spans -/
def OwnS (w : World) (base : Nat) (v : Value) (l : List (K × K)) : Prop := w.ownsRow base 58 2 v l.length (flat l)
section
variable {w w' : World} {base : Nat} {v : Value} {l : List (K × K)}
theorem OwnS.nil (w : World) (base : Nat) : OwnS w base (.slice none 0 0) [] := World.ownsRow_nil w base _ 2
theorem OwnS.form (h : OwnS w base v l) : (v = .slice none 0 0 ∧ l = []) ∨ ∃ g cap, v = .slice (some ⟨g, 0, none⟩) l.length cap ∧ base ≤ g ∧ g < w.heap.size ∧ l.length ≤ cap := by
  rcases h.2 with ⟨hv, h0⟩ | ⟨g, cap, cur, hv, hg, hh, hc, _⟩
  · exact .inl ⟨hv, List.eq_nil_of_length_eq_zero h0⟩
  · exact .inr ⟨g, cap, hv, hg, (Array.getElem?_eq_some_iff.1 hh).1, hc⟩
theorem OwnS.rd (h : OwnS w base v l) : RdS w w.heap.size v l := by
  rcases h.form with ⟨hv, rfl⟩ | ⟨g, cap, hv, hg, hlt, hc⟩
  · exact ⟨none, 0, hv, Nat.le_refl _, fun i s hs => by simp at hs⟩
  · refine ⟨_, cap, hv, hc, fun i s hs => ⟨g, 0, rfl, hlt, ?_, ?_⟩⟩
    all_goals
      have hi : i < l.length := by rcases Nat.lt_or_ge i l.length with h' | h'; · exact h'
                                   · rw [List.getElem?_eq_none h'] at hs; cases hs
      subst hv
      have hf := flat_get l i s hs
      unfold OwnS at h
    · rw [Nat.zero_add, h.cellAt _ (by omega)]; exact hf.1
    · rw [Nat.zero_add, h.cellAt _ (by omega)]; exact hf.2
theorem OwnS.drewN (h : OwnS w base v l) (n : Nat) : OwnS (w.drewN n) base v l := h
theorem OwnS.alloc (h : OwnS w base v l) (o : Obj) : OwnS (w.alloc o) base v l := World.ownsRow.alloc h o
theorem OwnS.kept {row : Option Nat} (h : OwnS w base v l) (hg : w.grownBy w' row) (hne : v.ownBlock = none ∨ v.ownBlock ≠ row) : OwnS w' base v l := World.ownsRow.kept h hg hne
theorem OwnS.below {B : Nat} (h : OwnS w base v l) (hb : Below B w w') (hB : w.heap.size ≤ B) : OwnS w' base v l :=
  h.kept (row := none) ⟨hb.os, hb.tape, hb.output, hb.size, fun k hk _ => hb.block k (Nat.lt_of_lt_of_le hk hB)⟩ (by cases v.ownBlock <;> simp)
theorem OwnS.lower {base' : Nat} (h : OwnS w base v l) (hb : base' ≤ base) : OwnS w base' v l := by
  refine ⟨h.1, ?_⟩
  rcases h.2 with h2 | ⟨g, cap, cur, hv, hg, r⟩
  · exact .inl h2
  · exact .inr ⟨g, cap, cur, hv, Nat.le_trans hb hg, r⟩
end

/-- what has turned between two worlds, one block aside: steps on -/
theorem grow_trans {a b c : World} {row row' : Option Nat} (h : a.grownBy b row) (g : b.grownBy c row') (hr : ∀ k, row' = some k → a.heap.size ≤ k ∨ some k = row) : a.grownBy c row :=
  ⟨g.os.trans h.os, g.tape.trans h.tape, g.output.trans h.output, Nat.le_trans h.size g.size, fun k hk hne => by
    rw [g.block k (Nat.lt_of_lt_of_le hk h.size) (fun e => by
      rcases hr k e.symm with h1 | h1
      · omega
      · exact hne h1)]
    exact h.block k hk hne⟩
theorem grow_below {a b c : World} {row : Option Nat} {B : Nat} (h : a.grownBy b row) (g : Below B b c) (hB : a.heap.size ≤ B) : a.grownBy c row :=
  ⟨g.os.trans h.os, g.tape.trans h.tape, g.output.trans h.output, Nat.le_trans h.size g.size, fun k hk hne => (g.block k (Nat.lt_of_lt_of_le hk hB)).trans (h.block k hk hne)⟩
theorem grow_drewN {a w : World} {row : Option Nat} (h : a.grownBy w row) (n : Nat) : a.grownBy (w.drewN n) row := ⟨h.os, h.tape, h.output, h.size, h.block⟩
theorem grow_alloc {a w : World} {row : Option Nat} (h : a.grownBy w row) (o : Obj) : a.grownBy (w.alloc o) row :=
  grow_trans h (World.grownBy_alloc w o none) (fun k hk => by cases hk)
theorem grow_set {a w : World} {g : Nat} (h : a.grownBy w (some g)) (j : Nat) (u : Value) : a.grownBy (w.setCell ⟨g, j, none⟩ u) (some g) :=
  ⟨h.os, h.tape, h.output, by simpa [World.setCell] using h.size, fun k hk hne => (Below.heap_setCell w _ u k (fun e => hne (by rw [e]))).trans (h.block k hk hne)⟩
theorem grow_setNew {a w : World} {row : Option Nat} (h : a.grownBy w row) {g : Nat} (hg : a.heap.size ≤ g) (j : Nat) (u : Value) : a.grownBy (w.setCell ⟨g, j, none⟩ u) row :=
  ⟨h.os, h.tape, h.output, by simpa [World.setCell] using h.size, fun k hk hne => (Below.heap_setCell w _ u k (fun e => by simp only at e; omega)).trans (h.block k hk hne)⟩
theorem OwnS.setLast {w : World} {base g cap : Nat} {p : List (K × K)} {l : K × K} (h : OwnS w base (.slice (some ⟨g, 0, none⟩) (p ++ [l]).length cap) (p ++ [l])) (t : K) :
    OwnS (w.setCell ⟨g, p.length * 2 + 1, none⟩ (.string t)) base (.slice (some ⟨g, 0, none⟩) (p ++ [l]).length cap) (p ++ [(l.1, t)]) := by
  unfold OwnS at h ⊢
  have h1 := (h.stored (p.length * 2 + 1) (.string t)).1
  rw [flat_set] at h1
  simpa using h1
theorem OwnS.setOther {w : World} {base : Nat} {v : Value} {l : List (K × K)} (h : OwnS w base v l) {g : Nat} (hg : g < base) (j : Nat) (u : Value) : OwnS (w.setCell ⟨g, j, none⟩ u) base v l :=
  ownsRow_setCell_other h (a := ⟨g, j, none⟩) (fun e => by have := (h.lt g e).1; omega) u

theorem OwnS.read {w : World} {base : Nat} {v : Value} {l : List (K × K)} (h : OwnS w base v l) : ∃ A c, v = .slice A l.length c ∧ ∀ i (_ : i < l.length), ∃ g, A = some ⟨g, 0, none⟩ ∧ base ≤ g ∧ g < w.heap.size ∧
    w.cell? ⟨g, i * 2, none⟩ = some (.string l[i].1) ∧ w.cell? ⟨g, i * 2 + 1, none⟩ = some (.string l[i].2) := by
  rcases h.form with ⟨hv, rfl⟩ | ⟨g, cap, rfl, hg, hlt, hc⟩
  · exact ⟨none, 0, hv, fun i hi => by simp at hi⟩
  · refine ⟨_, cap, rfl, fun i hi => ⟨g, rfl, hg, hlt, ?_, ?_⟩⟩
    all_goals
      have hf := flat_get l i l[i] (List.getElem?_eq_getElem hi)
      unfold OwnS at h
    · rw [h.cellAt _ (by omega)]; exact hf.1
    · rw [h.cellAt _ (by omega)]; exact hf.2
theorem RdS.mono {w : World} {B C : Nat} {v : Value} {l : List (K × K)} (h : RdS w B v l) (hC : B ≤ C) : RdS w C v l := by
  obtain ⟨A, c, hv, hc, hi⟩ := h
  refine ⟨A, c, hv, hc, fun i s hs => ?_⟩
  obtain ⟨b, o, hA, hB, h1, h2⟩ := hi i s hs
  exact ⟨b, o, hA, Nat.lt_of_lt_of_le hB hC, h1, h2⟩

theorem info_spans : (Try.prog.info? 58).map (fun i => (i.zero, i.size, i.bytes)) = some (some (.agg #[.string ⟨#[]⟩, .string ⟨#[]⟩]), 2, 32) := by kernel_rfl

/-- append of one span that lies in a block of its own, in a region that goes by the text's order -/
theorem wpList_addS {ops : Array Oper} {rest : List Oper} {o : Oper} {a : Act} {Q : Exit → Act → World → Prop} {w : World} (hgd : o.guard = none) (s x : Operand)
    (ho : o.op = .call { callee := .builtin .append, args := #[s, x], argTypes := #[42, 42] })
    (base : Nat) (v : Value) (l : List (K × K)) (hs : a.eval s = v) (hown : OwnS w base v l) (ad : Addr) (c : Nat) (p : List (K × K))
    (hx : a.eval x = .slice (some ad) p.length c) (hc : ∀ j u, (flat p)[j]? = some u → w.cell? (ad.add j) = some u) (hn : l.length + p.length ≤ 4000000) (hbase : base ≤ w.heap.size)
    (h : ∀ A' c' w', OwnS w' base (.slice A' (l ++ p).length c') (l ++ p) → w.grownBy w' v.ownBlock → wpList Try.prog ops Q rest (a.put o.dst (.slice A' (l ++ p).length c')) w') : wpList Try.prog ops Q (o :: rest) a w := by
  obtain ⟨i0, hi, hz0, hz1, hz2⟩ := info_parts info_spans
  refine wpList_append_own w hgd s x 42 ho base 58 i0 _ 2 32 Try.underlying42 hi hz0 hz1 hz2 rfl (by decide) v l.length (flat l) hs hown ad p.length c (flat p) hx (flat_length p) hc (flat_one_cell p) (by unfold maxLen; omega) (by omega) hbase ?_
  intro v' w' h1 h2 _
  have h3 : OwnS w' base v' (l ++ p) := by unfold OwnS; rw [List.length_append, flat_append]; exact h1
  have hv : ∃ A' c', v' = .slice A' (l ++ p).length c' := by
    rcases h3.form with ⟨hv, h0⟩ | ⟨g, cap, hv, _⟩
    · exact ⟨none, 0, by rw [h0]; exact hv⟩
    · exact ⟨_, _, hv⟩
  obtain ⟨A', c', rfl⟩ := hv
  exact h A' c' w' h3 h2

/-- the two cells of a new block are those of one span -/
theorem new_cells (w : World) (s : K × K) (t : TypeId) : ∀ j u, (flat [s])[j]? = some u → (w.alloc (.cells #[.string s.1, .string s.2] t)).cell? ((⟨w.heap.size, 0, none⟩ : Addr).add j) = some u := by
  intro j u hu
  rw [flat_one] at hu
  have hadd : ∀ j, (⟨w.heap.size, 0, none⟩ : Addr).add j = ⟨w.heap.size, j, none⟩ := fun j => by unfold Addr.add; split <;> simp_all
  rw [hadd, World.cell?_alloc_at _ _ _ j rfl, ← hu]
  rw [← Array.getElem?_toList]
end Go.Proofs.Ytgppgecglkellaa
namespace Go.Proofs.Ytgppgecglkellaa
open Go.RowKit
attribute [local go_sem] less_eq same_eq le_eq ge_eq gt_eq

theorem span_guard : Try.prog.eqGuardType Try.prog.depth 58 = false := by kernel_rfl
set_option maxRecDepth 100000 in
theorem eql_span (a b c d : K) (W : World) : (binOp .eql 58 (.agg #[.string a, .string b]) (.agg #[.string c, .string d])).run Try.prog W = .ok (.bool (decide (a = c) && decide (b = d))) W := by
  have hS : Try.prog.underlying 58 = some (.struct (Try.prog.fieldsOf 58)) := by kernel_rfl
  have hp : Try.prog.stoodInHeld 58 = false := by kernel_rfl
  have u := Try.underlying9
  have ag := Try.isAgg9
  have sz := Try.sizeOf9
  rw [run_eql_struct, show (10000 : Nat) = 9999 + 1 from rfl, run_equalIn_agg W 9999 58 _ _ hS hp]
  simp only [Program.fieldsOf, Try.underlying58]
  go_simp
  by_cases h1 : a = c <;> by_cases h2 : b = d <;> simp [h1, h2]
set_option maxRecDepth 100000 in
theorem neq_span (a b c d : K) (W : World) : (binOp .neq 58 (.agg #[.string a, .string b]) (.agg #[.string c, .string d])).run Try.prog W = .ok (.bool (!(decide (a = c) && decide (b = d)))) W := by
  have h := eql_span a b c d W
  rw [run_eql_struct] at h
  rw [run_neq_struct]
  cases hr : (Op.equalIn 10000 58 (.agg #[.string a, .string b]) (.agg #[.string c, .string d])).run Try.prog W with
  | ok x w' => rw [hr] at h; simp only [Result.andThen] at h ⊢; injection h with h1 h2; subst h2; injection h1 with h1; rw [h1]
  | halt x w' => rw [hr] at h; simp [Result.andThen] at h
end Go.Proofs.Ytgppgecglkellaa
namespace Go.Proofs.Ytgppgecglkellaa
open Go.RowKit
attribute [local go_sem] less_eq same_eq le_eq ge_eq gt_eq

theorem cellsS_len (x : K × K) : (cellsS x).length = 2 := rfl
theorem cellsS_one (x : K × K) : ∀ u ∈ cellsS x, u.oneCell' = true := by intro u hu; simp [cellsS] at hu; rcases hu with rfl | rfl <;> rfl
theorem RdS.gen {w : World} {B : Nat} {v : Value} {l : List (K × K)} (h : RdS w B v l) : Rd cellsS 2 w B v l := by
  obtain ⟨A, c, hv, hc, hi⟩ := h
  refine ⟨A, c, hv, hc, fun i hl => ?_⟩
  obtain ⟨b, o, hA, hB, h1, h2⟩ := hi i l[i] (List.getElem?_eq_getElem hl)
  refine ⟨b, o, hA, hB, fun j u hu => ?_⟩
  match j, hu with
  | 0, hu => simp [cellsS] at hu; subst hu; exact h1
  | 1, hu => simp [cellsS] at hu; subst hu; exact h2

def bstep (hv gn : List (K × K)) (out : List (K × K)) (a b : K) : List (K × K) :=
  if (hv.any fun s => hasB s a) = false ∨ (gn.any fun s => hasB s a) = true then out else
    match out.getLast? with
    | none => out ++ [(a, b)]
    | some l => if l.2 = a then out.dropLast ++ [(l.1, b)] else out ++ [(a, b)]
def bgo (hv gn : List (K × K)) : List (K × K) → List K → List (K × K)
  | out, a :: b :: r => bgo hv gn (bstep hv gn out a b) (b :: r)
  | out, [_] => out
  | out, [] => out
theorem bstep_out (hv gn out : List (K × K)) (a b : K) (h : (hv.any fun s => hasB s a) = false ∨ (gn.any fun s => hasB s a) = true) : bstep hv gn out a b = out := by rw [bstep, if_pos h]
theorem bstep_new (hv gn : List (K × K)) (a b : K) (h1 : (hv.any fun s => hasB s a) = true) (h2 : (gn.any fun s => hasB s a) = false) : bstep hv gn [] a b = [(a, b)] := by simp [bstep, h1, h2]
theorem bstep_snoc (hv gn p : List (K × K)) (l : K × K) (a b : K) (h1 : (hv.any fun s => hasB s a) = true) (h2 : (gn.any fun s => hasB s a) = false) : bstep hv gn (p ++ [l]) a b = if l.2 = a then p ++ [(l.1, b)] else p ++ [l] ++ [(a, b)] := by
  simp [bstep, h1, h2]

theorem RdS.one (w : World) (s : K × K) : Rd cellsS 2 (w.alloc (.cells #[.string s.1, .string s.2] 58)) (w.heap.size + 1) (.slice (some ⟨w.heap.size, 0, none⟩) 1 1) [s] := by
  refine ⟨_, 1, rfl, Nat.le_refl _, fun i hi => ⟨w.heap.size, 0, rfl, by omega, fun j u hu => ?_⟩⟩
  obtain rfl : i = 0 := by simpa using hi
  rw [World.cell?_alloc_at _ _ _ _ rfl]
  match j, hu with
  | 0, hu => simpa [cellsS] using hu
  | 1, hu => simpa [cellsS] using hu
/-- two ends that stand in memory, in whatever world the statement comes to -/
def HeldB (z : World) (b o1 o2 : Nat) (x y : K) (W : World) : Prop := W.cell? ⟨b, o1, none⟩ = some (.string x) ∧ W.cell? ⟨b, o2, none⟩ = some (.string y) ∧ Below z.heap.size z W ∧ b < z.heap.size
theorem HeldB.alloc {z : World} {b o1 o2 : Nat} {x y : K} {W : World} (h : HeldB z b o1 o2 x y W) (o : Obj) : HeldB z b o1 o2 x y (W.alloc o) :=
  ⟨(World.cell?_alloc_past _ _ _ (Nat.lt_of_lt_of_le h.2.2.2 h.2.2.1.size)).trans h.1, (World.cell?_alloc_past _ _ _ (Nat.lt_of_lt_of_le h.2.2.2 h.2.2.1.size)).trans h.2.1, h.2.2.1.alloc h.2.2.1.size _, h.2.2.2⟩
theorem HeldB.grown {z : World} {b o1 o2 : Nat} {x y : K} {W W' : World} {row : Option Nat} (h : HeldB z b o1 o2 x y W) (hg : W.grownBy W' row) (hr : ∀ k, row = some k → z.heap.size ≤ k) : HeldB z b o1 o2 x y W' := by
  have hb := h.2.2.1.grown hg h.2.2.1.size hr
  have hs : W'.heap[b]? = W.heap[b]? := (hb.block b h.2.2.2).trans (h.2.2.1.block b h.2.2.2).symm
  exact ⟨(World.cell?_of_block (a := ⟨b, o1, none⟩) hs).trans h.1, (World.cell?_of_block (a := ⟨b, o2, none⟩) hs).trans h.2.1, hb, h.2.2.2⟩

end Go.Proofs.Ytgppgecglkellaa
namespace Go.Proofs.Ytgppgecglkellaa

theorem lead_le (s : K) : ∀ l : List K, lead s l ≤ l.length
  | [] => Nat.le_refl _
  | x :: r => by rw [lead]; split <;> simp [lead_le s r]
theorem lead_below (s : K) : ∀ (l : List K) (x : K), x ∈ l.take (lead s l) → x < s
  | [], x, h => by simp at h
  | y :: r, x, h => by
    rw [lead] at h
    split at h
    · rename_i hy
      simp only [List.take_succ_cons, List.mem_cons] at h
      rcases h with rfl | h
      · exact hy
      · exact lead_below s r x h
    · simp at h
theorem lead_above (s : K) : ∀ (l : List K), l.Pairwise (· < ·) → ∀ x ∈ l.drop (lead s l), s ≤ x
  | [], _, x, h => by simp at h
  | y :: r, hp, x, h => by
    rw [List.pairwise_cons] at hp
    rw [lead] at h
    split at h
    · exact lead_above s r hp.2 x (by simpa using h)
    · rename_i hy
      simp only [List.drop_zero, List.mem_cons] at h
      rcases h with rfl | h
      · grind
      · have := hp.1 x h; grind
theorem ins_ok (l : List K) (s : K) (hp : l.Pairwise (· < ·)) : (ins l s).Pairwise (· < ·) ∧ ∀ x, x ∈ ins l s ↔ x ∈ l ∨ x = s := by
  have e0 := List.take_append_drop (lead s l) l
  unfold ins
  split
  · rename_i h
    have hs : s ∈ l := List.mem_of_getElem? h
    exact ⟨hp, fun x => ⟨.inl, fun h => by rcases h with h | rfl; · exact h
                                           · exact hs⟩⟩
  · rename_i h
    have hne : ∀ x ∈ l.drop (lead s l), s < x := by
      intro x hx
      have h1 := lead_above s l hp x hx
      have h2 : x ≠ s := by
        rintro rfl
        rcases hd : l.drop (lead x l) with _ | ⟨y, r⟩
        · rw [hd] at hx; cases hx
        · have hy : l[lead x l]? = some y := by rw [← List.head?_drop, hd]; rfl
          rw [hd] at hx
          rcases List.mem_cons.1 hx with rfl | hx
          · exact h hy
          · have hpd : (y :: r).Pairwise (· < ·) := by rw [← hd]; exact hp.sublist (List.drop_sublist _ _)
            have h3 := (List.pairwise_cons.1 hpd).1 x hx
            have h4 := lead_above x l hp y (by rw [hd]; simp)
            grind
      grind
    constructor
    · rw [List.pairwise_append]
      refine ⟨hp.sublist (List.take_sublist _ _), List.pairwise_cons.2 ⟨hne, hp.sublist (List.drop_sublist _ _)⟩, fun x hx y hy => ?_⟩
      have h1 := lead_below s l x hx
      rcases List.mem_cons.1 hy with rfl | hy
      · exact h1
      · have := hne y hy; grind
    · intro x
      rw [List.mem_append, List.mem_cons]
      constructor
      · rintro (h1 | rfl | h1)
        · exact .inl (List.mem_of_mem_take h1)
        · exact .inr rfl
        · exact .inl (List.mem_of_mem_drop h1)
      · rintro (h1 | rfl)
        · rw [← e0, List.mem_append] at h1
          rcases h1 with h1 | h1
          · exact .inl h1
          · exact .inr (.inr h1)
        · exact .inr (.inl rfl)
theorem ends_ok : ∀ (l : List (K × K)) (E : List K), E.Pairwise (· < ·) → (l.foldl ends2 E).Pairwise (· < ·) ∧ ∀ x, x ∈ l.foldl ends2 E ↔ x ∈ E ∨ ∃ s ∈ l, x = s.1 ∨ x = s.2
  | [], E, h => ⟨h, fun x => by simp⟩
  | s :: r, E, h => by
    obtain ⟨a1, a2⟩ := ins_ok E s.1 h
    obtain ⟨b1, b2⟩ := ins_ok (ins E s.1) s.2 a1
    obtain ⟨c1, c2⟩ := ends_ok r (ends2 E s) b1
    refine ⟨c1, fun x => ?_⟩
    rw [List.foldl_cons, c2, show ends2 E s = ins (ins E s.1) s.2 from rfl, b2, a2]
    simp only [List.mem_cons, exists_eq_or_imp]
    constructor
    · intro h; rcases h with ((h | h) | h) | h
      · exact .inl h
      · exact .inr (.inl (.inl h))
      · exact .inr (.inl (.inr h))
      · exact .inr (.inr h)
    · intro h; rcases h with h | (h | h) | h
      · exact .inl (.inl (.inl h))
      · exact .inl (.inl (.inr h))
      · exact .inl (.inr h)
      · exact .inr h

theorem any_mem (l : List (K × K)) (k : K) : (l.any fun s => hasB s k) = true ↔ mem l k := by
  simp [List.any_eq_true, mem, has, hasB]
/-- nothing turns between two ends that follow each other -/
theorem any_same (l : List (K × K)) (a b k : K) (he : ∀ s ∈ l, (s.1 ≤ a ∨ b ≤ s.1) ∧ (s.2 ≤ a ∨ b ≤ s.2)) (h1 : a ≤ k) (h2 : k < b) : (l.any fun s => hasB s k) = (l.any fun s => hasB s a) := by
  rw [Bool.eq_iff_iff, any_mem, any_mem]
  constructor
  · rintro ⟨s, hs, h3, h4⟩
    have := he s hs
    exact ⟨s, hs, by unfold has; grind⟩
  · rintro ⟨s, hs, h3, h4⟩
    have := he s hs
    exact ⟨s, hs, by unfold has; grind⟩

theorem bgo_ok (hv gn : List (K × K)) : ∀ (r : List K) (a : K) (out : List (K × K)), (a :: r).Pairwise (· < ·) → (∀ s ∈ hv ++ gn, (s.1 ≤ a ∨ s.1 ∈ r) ∧ (s.2 ≤ a ∨ s.2 ∈ r)) → Normal out → (∀ s ∈ out, s.2 ≤ a) →
    (∀ k, mem out k ↔ k < a ∧ mem hv k ∧ ¬ mem gn k) → Normal (bgo hv gn out (a :: r)) ∧ ∀ k, mem (bgo hv gn out (a :: r)) k ↔ mem hv k ∧ ¬ mem gn k
  | [], a, out, _, he, hn, _, hm => by
    refine ⟨hn, fun k => ?_⟩
    rw [bgo, hm]
    constructor
    · rintro ⟨_, h⟩; exact h
    · intro h
      refine ⟨?_, h⟩
      obtain ⟨⟨s, hs, h1, h2⟩, _⟩ := h
      have := (he s (by simp [hs])).2
      simp at this
      grind
  | b :: r, a, out, hp, he, hn, hlast, hm => by
    rw [bgo]
    have hab : a < b := (List.pairwise_cons.1 hp).1 b (by simp)
    have hbr := (List.pairwise_cons.1 (List.pairwise_cons.1 hp).2).1
    have hgap : ∀ s ∈ hv ++ gn, (s.1 ≤ a ∨ b ≤ s.1) ∧ (s.2 ≤ a ∨ b ≤ s.2) := by
      intro s hs
      obtain ⟨h1, h2⟩ := he s hs
      constructor
      · rcases h1 with h1 | h1
        · exact .inl h1
        · rcases List.mem_cons.1 h1 with h1 | h1
          · exact .inr (by rw [h1]; exact Std.IsPreorder.le_refl _)
          · have := hbr _ h1; exact .inr (by grind)
      · rcases h2 with h2 | h2
        · exact .inl h2
        · rcases List.mem_cons.1 h2 with h2 | h2
          · exact .inr (by rw [h2]; exact Std.IsPreorder.le_refl _)
          · have := hbr _ h2; exact .inr (by grind)
    have he' : ∀ s ∈ hv ++ gn, (s.1 ≤ b ∨ s.1 ∈ r) ∧ (s.2 ≤ b ∨ s.2 ∈ r) := by
      intro s hs
      obtain ⟨h1, h2⟩ := he s hs
      simp only [List.mem_cons] at h1 h2
      constructor
      · rcases h1 with h1 | h1 | h1
        · exact .inl (by grind)
        · exact .inl (by rw [h1]; exact Std.IsPreorder.le_refl _)
        · exact .inr h1
      · rcases h2 with h2 | h2 | h2
        · exact .inl (by grind)
        · exact .inl (by rw [h2]; exact Std.IsPreorder.le_refl _)
        · exact .inr h2
    have hH : ∀ k, a ≤ k → k < b → (mem hv k ↔ mem hv a) := fun k h1 h2 => by rw [← any_mem, ← any_mem, any_same hv a b k (fun s hs => hgap s (by simp [hs])) h1 h2]
    have hG : ∀ k, a ≤ k → k < b → (mem gn k ↔ mem gn a) := fun k h1 h2 => by rw [← any_mem, ← any_mem, any_same gn a b k (fun s hs => hgap s (by simp [hs])) h1 h2]
    by_cases hc : (hv.any fun s => hasB s a) = false ∨ (gn.any fun s => hasB s a) = true
    · rw [bstep_out hv gn out a b hc]
      refine bgo_ok hv gn r b out (List.pairwise_cons.1 hp).2 he' hn (fun s hs => by have := hlast s hs; grind) fun k => ?_
      have hno : ¬ (mem hv a ∧ ¬ mem gn a) := by
        rw [← any_mem, ← any_mem]
        rcases hc with h | h <;> simp [h]
      rw [hm k]
      constructor
      · rintro ⟨h1, h2⟩; exact ⟨by grind, h2⟩
      · rintro ⟨h1, h2⟩
        refine ⟨?_, h2⟩
        rcases Std.le_total (a := a) (b := k) with h3 | h3
        · exact absurd ⟨(hH k h3 h1).1 h2.1, fun h => h2.2 ((hG k h3 h1).2 h)⟩ hno
        · by_cases h4 : k = a
          · subst h4; exact absurd h2 hno
          · grind
    · have hh : (hv.any fun s => hasB s a) = true := by
        cases h : (hv.any fun s => hasB s a)
        · exact absurd (.inl h) hc
        · rfl
      have hg : (gn.any fun s => hasB s a) = false := by
        cases h : (gn.any fun s => hasB s a)
        · rfl
        · exact absurd (.inr h) hc
      have hin : mem hv a ∧ ¬ mem gn a := ⟨(any_mem _ _).1 hh, fun h => by rw [(any_mem _ _).2 h] at hg; cases hg⟩
      have hkey : ∀ k, (k < b ∧ mem hv k ∧ ¬ mem gn k) ↔ (mem out k ∨ (a ≤ k ∧ k < b)) := fun k => by
        rw [hm k]
        constructor
        · rintro ⟨h1, h2⟩
          rcases Std.le_total (a := a) (b := k) with h3 | h3
          · exact .inr ⟨h3, h1⟩
          · by_cases h4 : k = a
            · exact .inr ⟨by rw [h4]; exact Std.IsPreorder.le_refl _, h1⟩
            · exact .inl ⟨by grind, h2⟩
        · rintro (⟨h1, h2⟩ | ⟨h1, h2⟩)
          · exact ⟨by grind, h2⟩
          · exact ⟨h2, (hH k h1 h2).2 hin.1, fun h => hin.2 ((hG k h1 h2).1 h)⟩
      rcases List.eq_nil_or_concat out with rfl | ⟨p, l, rfl⟩
      · rw [bstep_new hv gn a b hh hg]
        refine bgo_ok hv gn r b _ (List.pairwise_cons.1 hp).2 he' ⟨hab, by simp, trivial⟩ (by simp) fun k => ?_
        rw [hkey k]
        simp [mem, has]
      · rw [List.concat_eq_append] at *
        rw [bstep_snoc hv gn p l a b hh hg]
        obtain ⟨n1, n2, n3⟩ := normal_append.1 hn
        have hl0 : l.2 ≤ a := hlast l (by simp)
        have hl1 : l.1 < l.2 := n2.1
        by_cases hla : l.2 = a
        · rw [if_pos hla]
          refine bgo_ok hv gn r b _ (List.pairwise_cons.1 hp).2 he' (normal_append.2 ⟨n1, ⟨by show l.1 < b; grind, by simp, trivial⟩, fun u hu t ht => ?_⟩) (fun s hs => ?_) fun k => ?_
          · simp only [List.mem_singleton] at ht; subst ht; exact n3 u hu l (by simp)
          · rcases List.mem_append.1 hs with hs | hs
            · have := hlast s (by simp [hs]); grind
            · simp only [List.mem_singleton] at hs; subst hs; exact Std.IsPreorder.le_refl _
          · rw [hkey k]
            simp only [mem_append, mem_cons, mem_nil, or_false, has]
            have e : (l.1 ≤ k ∧ k < l.2 ∨ a ≤ k ∧ k < b) ↔ (l.1 ≤ k ∧ k < b) := by grind
            constructor
            · rintro (h | h)
              · exact .inl (.inl h)
              · rcases e.2 h with h | h
                · exact .inl (.inr h)
                · exact .inr h
            · rintro ((h | h) | h)
              · exact .inl h
              · exact .inr (e.1 (.inl h))
              · exact .inr (e.1 (.inr h))
        · rw [if_neg hla]
          refine bgo_ok hv gn r b _ (List.pairwise_cons.1 hp).2 he' (normal_append.2 ⟨hn, ⟨hab, by simp, trivial⟩, fun u hu t ht => ?_⟩) (fun s hs => ?_) fun k => ?_
          · simp only [List.mem_singleton] at ht; subst ht
            rcases List.mem_append.1 hu with hu | hu
            · have := n3 u hu l (by simp); show u.2 < a; grind
            · simp only [List.mem_singleton] at hu; subst hu; show u.2 < a; grind
          · rcases List.mem_append.1 hs with hs | hs
            · have := hlast s hs; grind
            · simp only [List.mem_singleton] at hs; subst hs; exact Std.IsPreorder.le_refl _
          · rw [hkey k]
            simp only [mem_append, mem_cons, mem_nil, or_false, has]
theorem build_ok (hv gn : List (K × K)) : Normal (bgo hv gn [] ((hv ++ gn).foldl ends2 [])) ∧ ∀ k, mem (bgo hv gn [] ((hv ++ gn).foldl ends2 [])) k ↔ mem hv k ∧ ¬ mem gn k := by
  obtain ⟨h1, h2⟩ := ends_ok (hv ++ gn) [] .nil
  rcases hE : (hv ++ gn).foldl ends2 [] with _ | ⟨a, r⟩
  · refine ⟨trivial, fun k => ?_⟩
    rw [bgo]
    refine ⟨fun h => absurd h (mem_nil k), fun h => ?_⟩
    obtain ⟨⟨s, hs, _⟩, _⟩ := h
    have := (h2 s.1).2 (.inr ⟨s, by simp [hs], .inl rfl⟩)
    rw [hE] at this; cases this
  · rw [hE] at h1 h2
    have hall : ∀ s ∈ hv ++ gn, (s.1 = a ∨ s.1 ∈ r) ∧ (s.2 = a ∨ s.2 ∈ r) := fun s hs =>
      ⟨List.mem_cons.1 ((h2 s.1).2 (.inr ⟨s, hs, .inl rfl⟩)), List.mem_cons.1 ((h2 s.2).2 (.inr ⟨s, hs, .inr rfl⟩))⟩
    refine bgo_ok hv gn r a [] h1 (fun s hs => ?_) trivial (by simp) fun k => ?_
    · obtain ⟨q1, q2⟩ := hall s hs
      exact ⟨q1.imp (fun h => by rw [h]; exact Std.IsPreorder.le_refl _) id, q2.imp (fun h => by rw [h]; exact Std.IsPreorder.le_refl _) id⟩
    · refine ⟨fun h => absurd h (mem_nil k), fun h => ?_⟩
      obtain ⟨hk, ⟨s, hs, h3, _⟩, _⟩ := h
      have hge : a ≤ s.1 := by
        rcases (hall s (by simp [hs])).1 with h | h
        · rw [h]; exact Std.IsPreorder.le_refl _
        · have := (List.pairwise_cons.1 h1).1 _ h; grind
      grind
end Go.Proofs.Ytgppgecglkellaa
namespace Go.Proofs.Ytgppgecglkellaa
open Go.RowKit
attribute [local go_sem] less_eq same_eq le_eq ge_eq gt_eq

def Fits (l : List (K × K)) (P : K → Prop) : Prop := Normal l ∧ ∀ k, mem l k ↔ P k
theorem Fits.eq {a b : List (K × K)} {P : K → Prop} (h1 : Fits a P) (h2 : Fits b P) : a = b := normal_ext a b h1.1 h2.1 fun k => (h1.2 k).trans (h2.2 k).symm

end Go.Proofs.Ytgppgecglkellaa
namespace Go.Proofs.Ytgppgecglkellaa
open Go.RowKit
section
variable {P : Program} {ops : Array Oper} {Q : Exit → Act → World → Prop}

theorem wpAnyH_weaken {S S' : World → Prop} (h : ∀ W, S' W → S W) {md : Region.Mode} : ∀ (fuel : Nat) (listed : Array Bool) (a : Act) (w : World), wpAnyH P md ops Q S' fuel listed a w → wpAnyH P md ops Q S fuel listed a w
  | 0, _, _, _, hh => hh
  | fuel + 1, _, _, _, hh => ⟨hh.1, fun i hi => wpOp_mono (fun a' w' h' => ⟨h _ h'.1, wpAnyH_weaken h fuel _ a' w' h'.2⟩) (hh.2 i hi)⟩

def PlanB (P : Program) (ops : Array Oper) (Q : Exit → Act → World → Prop) : List (Bool × Nat) → Act → World → Prop
  | [], a, w => Q .normal a w
  | (true, i) :: r, a, w => ∃ o v, ops[i]? = some o ∧ YieldsIf P ops (fun W => Below w.heap.size w W) o v a ∧ PlanB P ops Q r (a.put o.dst v) w
  | (false, i) :: r, a, w => wpOp P ops Q i (fun a' w' => Below w.heap.size w w' ∧ PlanB P ops Q r a' w') a w

theorem PlanB.any (hs : Region.noSelect ops = true) (hQ : ∀ c a d v w, Q (.panic c) (Act.put a d v) w → Q (.panic c) a w) : ∀ (plan : List (Bool × Nat)) (fuel : Nat) (listed : Array Bool) (a : Act) (w : World),
    plan.length ≤ fuel → planOk ops plan listed = true → PlanB P ops Q plan a w → wpAnyH P .any ops Q (fun W => Below w.heap.size w W) fuel listed a w
  | [], fuel, listed, a, w, _, hp, h => wpAnyH_done (by simpa [planOk] using hp) h fuel
  | (true, i) :: r, fuel + 1, listed, a, w, hf, hp, h => by
    obtain ⟨o, v, ho, hy, hr⟩ := h
    simp only [planOk, Bool.and_eq_true] at hp
    exact wpAnyH_take ho hs hp.1.1 hp.1.2 (fun c a w => hQ c a _ _ w) hy (Below.refl _ _) (PlanB.any hs hQ r fuel _ _ _ (by simpa using hf) hp.2 hr)
  | (false, i) :: r, fuel + 1, listed, a, w, hf, hp, h => by
    simp only [planOk, Bool.and_eq_true, beq_iff_eq] at hp
    refine wpAnyH_all hp.1 (by simp) fun j hj => ?_
    obtain rfl : j = i := by simpa using hj
    refine wpOp_mono (fun a' w' h' => ⟨h'.1, ?_⟩) h
    exact wpAnyH_weaken (fun W hW => h'.1.trans (hW.mono h'.1.size)) _ _ _ _ (PlanB.any hs hQ r fuel _ _ _ (by simpa using hf) hp.2 h'.2)
  | (true, _) :: _, 0, _, _, _, hf, _, _ => by simp at hf
  | (false, _) :: _, 0, _, _, _, hf, _, _ => by simp at hf

theorem wp_region_planB (plan : List (Bool × Nat)) {id : Nat} {a : Act} {w : World} (hm : P.follows .mixedOrders = true) (hs : (Region.noSelect ops && planOk ops plan (Array.replicate ops.size false) && decide (plan.length ≤ ops.size)) = true)
    (hQ : ∀ c a d v w, Q (.panic c) (Act.put a d v) w → Q (.panic c) a w) (h : PlanB P ops Q plan a w.drew) : (Code.region id ops true).wp P Q a w := by
  simp only [Bool.and_eq_true, decide_eq_true_eq] at hs
  exact wp_region_held hm (PlanB.any hs.1.1 hQ plan _ _ _ _ hs.2 hs.1.2 h)

theorem PlanB.take {i : Nat} {o : Oper} {v : Value} {r : List (Bool × Nat)} {a : Act} {w : World} (hi : ops.toList[i]? = some o) (hw : Region.wanted o (yielded ops a.tmps) = true)
    (hy : ∀ W, Below w.heap.size w W → (execOp a.eval o).run P W = .ok (.value v) W) (h : PlanB P ops Q r (a.put o.dst v) w) : PlanB P ops Q ((true, i) :: r) a w :=
  ⟨o, v, by simpa using hi, .inl ⟨hw, hy⟩, h⟩
theorem PlanB.skip {i : Nat} {o : Oper} {r : List (Bool × Nat)} {a : Act} {w : World} (hi : ops.toList[i]? = some o) (hw : Region.wanted o (yielded ops a.tmps) = false)
    (h : PlanB P ops Q r (a.put o.dst undef) w) : PlanB P ops Q ((true, i) :: r) a w :=
  ⟨o, undef, by simpa using hi, .inr ⟨hw, rfl⟩, h⟩
theorem PlanB.step {i : Nat} {o : Oper} {r : List (Bool × Nat)} {a : Act} {w : World} (hi : ops.toList[i]? = some o) (hw : Region.wanted o (yielded ops a.tmps) = true)
    (h : ∀ K : Act → World → Prop, Shut (∀ a w', Below w.heap.size w w' → PlanB P ops Q r a w' → K a w') → Oper.wp P o a w K Q) : PlanB P ops Q ((false, i) :: r) a w := by
  show wpOp P ops Q i _ a w
  refine wpOp_step (o := o) (by simpa using hi) fun K' hK => ?_
  rw [if_pos hw]
  exact h K' fun a w h1 h2 => hK a w ⟨h1, h2⟩
end
end Go.Proofs.Ytgppgecglkellaa
namespace Go.Proofs.Ytgppgecglkellaa
open Go.RowKit
attribute [local go_sem] less_eq same_eq le_eq ge_eq gt_eq

structure Chg where
  kind : Int
  key : K
  val : K
instance : DecidableEq Chg := fun a b => decidable_of_iff (a.kind = b.kind ∧ a.key = b.key ∧ a.val = b.val) ⟨fun h => by cases a; cases b; simp only at h; obtain ⟨rfl, rfl, rfl⟩ := h; rfl, fun h => by subst h; exact ⟨rfl, rfl, rfl⟩⟩
def cval (c : Chg) : Value := .agg #[.int .i64 c.kind, .string c.key, .string c.val]
def encC (c : Chg) : List Value := [.int .i64 c.kind, .string c.key, .string c.val]
theorem encC_len (c : Chg) : (encC c).length = 3 := rfl
theorem encC_one (c : Chg) : ∀ u ∈ encC c, u.oneCell' = true := by
  intro u hu
  simp [encC] at hu
  rcases hu with rfl | rfl | rfl <;> rfl
abbrev RdC (w : World) (B : Nat) (v : Value) (l : List Chg) : Prop := Rd encC 3 w B v l
abbrev OwnC (w : World) (base : Nat) (v : Value) (l : List Chg) : Prop := Own encC 3 40 w base v l
abbrev RdP (w : World) (B : Nat) (v : Value) (l : List (K × K)) : Prop := Rd cellsS 2 w B v l
theorem info_chg : (Try.prog.info? 40).map (fun i => (i.zero, i.size, i.bytes)) = some (some (.agg #[.int .i64 0, .string ⟨#[]⟩, .string ⟨#[]⟩]), 3, 40) := by kernel_rfl

theorem RdC.at {w : World} {B : Nat} {v : Value} {l : List Chg} (h : RdC w B v l) : ∃ A c, v = .slice A l.length c ∧ l.length ≤ c ∧ ∀ i (_ : i < l.length), ∃ b o, A = some ⟨b, o, none⟩ ∧ b < B ∧
    w.cell? ⟨b, o + i * 3, none⟩ = some (.int .i64 l[i].kind) ∧ w.cell? ⟨b, o + i * 3 + 1, none⟩ = some (.string l[i].key) ∧ w.cell? ⟨b, o + i * 3 + 2, none⟩ = some (.string l[i].val) := by
  obtain ⟨A, c, hv, hc, hi⟩ := h
  refine ⟨A, c, hv, hc, fun i hs => ?_⟩
  obtain ⟨b, o, hA, hB, h1⟩ := hi i hs
  exact ⟨b, o, hA, hB, h1 0 _ rfl, h1 1 _ rfl, h1 2 _ rfl⟩
theorem RdP.at {w : World} {B : Nat} {v : Value} {l : List (K × K)} (h : RdP w B v l) : ∃ A c, v = .slice A l.length c ∧ l.length ≤ c ∧ ∀ i (_ : i < l.length), ∃ b o, A = some ⟨b, o, none⟩ ∧ b < B ∧
    w.cell? ⟨b, o + i * 2, none⟩ = some (.string l[i].1) ∧ w.cell? ⟨b, o + i * 2 + 1, none⟩ = some (.string l[i].2) := by
  obtain ⟨A, c, hv, hc, hi⟩ := h
  refine ⟨A, c, hv, hc, fun i hs => ?_⟩
  obtain ⟨b, o, hA, hB, h1⟩ := hi i hs
  exact ⟨b, o, hA, hB, h1 0 _ rfl, h1 1 _ rfl⟩

/-- what Check answers -/
def checkAns (c : Chg) : Int :=
  if c.kind = 1 then (if c.key.size > 16 ∨ c.val.size > 64 then 6 else 0)
  else if c.kind = 2 then (if c.key.size > 16 ∨ c.val.size > 0 then 6 else 0)
  else if c.kind = 3 then (if c.key.size > 17 ∨ c.val.size > 17 then 6 else if c.val < c.key then 5 else 0)
  else 1
/-- the keys that a change names -/
def cspan (c : Chg) : K × K := if c.kind = 3 then (c.key, c.val) else (c.key, c.key ++ ⟨#[0]⟩)

end Go.Proofs.Ytgppgecglkellaa
namespace Go.Proofs.Ytgppgecglkellaa
open Go.RowKit
attribute [local go_sem] less_eq same_eq le_eq ge_eq gt_eq

def smallC (c : Chg) : Prop := c.key.size < 4611686018427387904 ∧ c.val.size < 4611686018427387904
/-- the first error -/
def allAns : List Chg → Int
  | [] => 0
  | c :: r => if checkAns c = 0 then allAns r else checkAns c

end Go.Proofs.Ytgppgecglkellaa
namespace Go.Proofs.Ytgppgecglkellaa
open Go.RowKit

/-- take i: number i yields the same whenever it comes up; step i: it comes up alone; fork: one of two comes up -/
inductive PT
  | done
  | take (i : Nat) (n : PT)
  | step (i : Nat) (n : PT)
  | fork (i : Nat) (n : PT) (j : Nat) (m : PT)
  | fork3 (i : Nat) (n : PT) (j : Nat) (m : PT) (k : Nat) (q : PT)
def PT.depth : PT → Nat
  | .done => 0
  | .take _ n => n.depth + 1
  | .step _ n => n.depth + 1
  | .fork _ n _ m => max n.depth m.depth + 1
  | .fork3 _ n _ m _ q => max n.depth (max m.depth q.depth) + 1
def ptOk (ops : Array Oper) : PT → Array Bool → Bool
  | .done, listed => (Region.ready .any ops listed).isEmpty
  | .take i n, listed => Region.free .any ops listed i && (Region.ready .any ops listed).contains i && ptOk ops n (listed.setIfInBounds i true)
  | .step i n, listed => Region.ready .any ops listed == [i] && ptOk ops n (listed.setIfInBounds i true)
  | .fork i n j m, listed => Region.ready .any ops listed == [i, j] && (ptOk ops n (listed.setIfInBounds i true) && ptOk ops m (listed.setIfInBounds j true))
  | .fork3 i n j m k q, listed => Region.ready .any ops listed == [i, j, k] && (ptOk ops n (listed.setIfInBounds i true) && (ptOk ops m (listed.setIfInBounds j true) && ptOk ops q (listed.setIfInBounds k true)))
section
variable {P : Program} {ops : Array Oper} {Q : Exit → Act → World → Prop} {S : World → Prop}
def PlanT (P : Program) (ops : Array Oper) (S : World → Prop) (Q : Exit → Act → World → Prop) : PT → Act → World → Prop
  | .done, a, w => Q .normal a w
  | .take i n, a, w => ∃ o v, ops[i]? = some o ∧ YieldsIf P ops S o v a ∧ PlanT P ops S Q n (a.put o.dst v) w
  | .step i n, a, w => wpOp P ops Q i (fun a' w' => S w' ∧ PlanT P ops S Q n a' w') a w
  | .fork i n j m, a, w => wpOp P ops Q i (fun a' w' => S w' ∧ PlanT P ops S Q n a' w') a w ∧ wpOp P ops Q j (fun a' w' => S w' ∧ PlanT P ops S Q m a' w') a w
  | .fork3 i n j m k q, a, w => wpOp P ops Q i (fun a' w' => S w' ∧ PlanT P ops S Q n a' w') a w ∧ wpOp P ops Q j (fun a' w' => S w' ∧ PlanT P ops S Q m a' w') a w ∧ wpOp P ops Q k (fun a' w' => S w' ∧ PlanT P ops S Q q a' w') a w

theorem PlanT.any (hs : Region.noSelect ops = true) (hQ : ∀ c a d v w, Q (.panic c) (Act.put a d v) w → Q (.panic c) a w) : ∀ (plan : PT) (fuel : Nat) (listed : Array Bool) (a : Act) (w : World),
    plan.depth ≤ fuel → ptOk ops plan listed = true → S w → PlanT P ops S Q plan a w → wpAnyH P .any ops Q S fuel listed a w
  | .done, fuel, listed, a, w, _, hp, _, h => wpAnyH_done (by simpa [ptOk] using hp) h fuel
  | .take i r, fuel + 1, listed, a, w, hf, hp, hS, h => by
    obtain ⟨o, v, ho, hy, hr⟩ := h
    simp only [ptOk, Bool.and_eq_true] at hp
    exact wpAnyH_take ho hs hp.1.1 hp.1.2 (fun c a w => hQ c a _ _ w) hy hS (PlanT.any hs hQ r fuel _ _ _ (by simpa [PT.depth] using hf) hp.2 hS hr)
  | .step i r, fuel + 1, listed, a, w, hf, hp, _, h => by
    simp only [ptOk, Bool.and_eq_true, beq_iff_eq] at hp
    refine wpAnyH_all hp.1 (by simp) fun j hj => ?_
    obtain rfl : j = i := by simpa using hj
    exact wpOp_mono (fun a' w' h' => ⟨h'.1, PlanT.any hs hQ r fuel _ _ _ (by simpa [PT.depth] using hf) hp.2 h'.1 h'.2⟩) h
  | .fork i r j m, fuel + 1, listed, a, w, hf, hp, _, h => by
    simp only [ptOk, Bool.and_eq_true, beq_iff_eq] at hp
    simp only [PT.depth] at hf
    refine wpAnyH_all hp.1 (by simp) fun k hk => ?_
    rcases (by simpa using hk : k = i ∨ k = j) with rfl | rfl
    · exact wpOp_mono (fun a' w' h' => ⟨h'.1, PlanT.any hs hQ r fuel _ _ _ (by omega) hp.2.1 h'.1 h'.2⟩) h.1
    · exact wpOp_mono (fun a' w' h' => ⟨h'.1, PlanT.any hs hQ m fuel _ _ _ (by omega) hp.2.2 h'.1 h'.2⟩) h.2
  | .fork3 i r j m l q, fuel + 1, listed, a, w, hf, hp, _, h => by
    simp only [ptOk, Bool.and_eq_true, beq_iff_eq] at hp
    simp only [PT.depth] at hf
    refine wpAnyH_all hp.1 (by simp) fun k hk => ?_
    rcases (by simpa using hk : k = i ∨ k = j ∨ k = l) with rfl | rfl | rfl
    · exact wpOp_mono (fun a' w' h' => ⟨h'.1, PlanT.any hs hQ r fuel _ _ _ (by omega) hp.2.1 h'.1 h'.2⟩) h.1
    · exact wpOp_mono (fun a' w' h' => ⟨h'.1, PlanT.any hs hQ m fuel _ _ _ (by omega) hp.2.2.1 h'.1 h'.2⟩) h.2.1
    · exact wpOp_mono (fun a' w' h' => ⟨h'.1, PlanT.any hs hQ q fuel _ _ _ (by omega) hp.2.2.2 h'.1 h'.2⟩) h.2.2
  | .take _ _, 0, _, _, _, hf, _, _, _ => by simp [PT.depth] at hf
  | .step _ _, 0, _, _, _, hf, _, _, _ => by simp [PT.depth] at hf
  | .fork _ _ _ _, 0, _, _, _, hf, _, _, _ => by simp [PT.depth] at hf
  | .fork3 _ _ _ _ _ _, 0, _, _, _, hf, _, _, _ => by simp [PT.depth] at hf

theorem wp_region_planT (S : World → Prop) (plan : PT) {id : Nat} {a : Act} {w : World} (hm : P.follows .mixedOrders = true) (hs : (Region.noSelect ops && ptOk ops plan (Array.replicate ops.size false) && decide (plan.depth ≤ ops.size)) = true)
    (hQ : ∀ c a d v w, Q (.panic c) (Act.put a d v) w → Q (.panic c) a w) (hS : S w.drew) (h : PlanT P ops S Q plan a w.drew) : (Code.region id ops true).wp P Q a w := by
  simp only [Bool.and_eq_true, decide_eq_true_eq] at hs
  exact wp_region_held hm (PlanT.any hs.1.1 hQ plan _ _ _ _ hs.2 hs.1.2 hS h)

theorem PlanT.takeI {i : Nat} {o : Oper} {v : Value} {r : PT} {a : Act} {w : World} (hi : ops.toList[i]? = some o) (hw : Region.wanted o (yielded ops a.tmps) = true)
    (hy : ∀ W, S W → (execOp a.eval o).run P W = .ok (.value v) W) (h : PlanT P ops S Q r (a.put o.dst v) w) : PlanT P ops S Q (.take i r) a w :=
  ⟨o, v, by simpa using hi, .inl ⟨hw, hy⟩, h⟩
theorem PlanT.skip {i : Nat} {o : Oper} {r : PT} {a : Act} {w : World} (hi : ops.toList[i]? = some o) (hw : Region.wanted o (yielded ops a.tmps) = false)
    (h : PlanT P ops S Q r (a.put o.dst undef) w) : PlanT P ops S Q (.take i r) a w :=
  ⟨o, undef, by simpa using hi, .inr ⟨hw, rfl⟩, h⟩
theorem wpOp_stepT {i : Nat} {o : Oper} {r : PT} {a : Act} {w : World} (hi : ops.toList[i]? = some o) (hw : Region.wanted o (yielded ops a.tmps) = true)
    (h : ∀ K : Act → World → Prop, Shut (∀ a w, S w → PlanT P ops S Q r a w → K a w) → Oper.wp P o a w K Q) : wpOp P ops Q i (fun a' w' => S w' ∧ PlanT P ops S Q r a' w') a w := by
  refine wpOp_step (o := o) (by simpa using hi) fun K' hK => ?_
  rw [if_pos hw]
  exact h K' fun a w h1 h2 => hK a w ⟨h1, h2⟩
end
end Go.Proofs.Ytgppgecglkellaa
namespace Go.Proofs.Ytgppgecglkellaa
open Go.RowKit
attribute [local go_sem] less_eq same_eq le_eq ge_eq gt_eq

structure Txn where
  read : Int
  reads : List (K × K)
  chgs : List Chg
instance : DecidableEq Txn := fun x y => decidable_of_iff (x.read = y.read ∧ x.reads = y.reads ∧ x.chgs = y.chgs) ⟨fun h => by cases x; cases y; simp only at h; obtain ⟨rfl, rfl, rfl⟩ := h; rfl, fun h => by subst h; simp⟩
def zeroT : Txn := ⟨0, [], []⟩
def okSpan (s : K × K) : Prop := s.1.size ≤ 17 ∧ s.2.size ≤ 17 ∧ ¬ s.2 < s.1
instance (s : K × K) : Decidable (okSpan s) := by unfold okSpan; exact inferInstance
def soundT (t : Txn) : Prop := 0 ≤ t.read ∧ t.reads.length ≤ 24 ∧ (∀ s ∈ t.reads, okSpan s) ∧ t.chgs.length ≤ 24 ∧ allAns t.chgs = 0
instance (t : Txn) : Decidable (soundT t) := by unfold soundT; exact inferInstance
def tval (t : Txn) (v1 v2 : Value) : Value := .agg #[.int .i64 t.read, v1, v2]
/-- lengths that a walk needs -/
def fitT (t : Txn) : Prop := t.reads.length < 4611686018427387904 ∧ (∀ s ∈ t.reads, s.1.size < 4611686018427387904 ∧ s.2.size < 4611686018427387904) ∧ t.chgs.length < 4611686018427387904 ∧ ∀ c ∈ t.chgs, smallC c
theorem box_cell {w W : World} {cs : List Value} {t : TypeId} (h : Below (w.heap.size + 1) (w.alloc (.cells cs.toArray t)) W) (i : Nat) (v : Value) (hv : cs[i]? = some v) : W.cell? ⟨w.heap.size, i, none⟩ = some v :=
  (h.cell (p := ⟨w.heap.size, i, none⟩) (Nat.lt_succ_self _)).trans ((Whole.fresh w t cs).cell i v hv)


end Go.Proofs.Ytgppgecglkellaa

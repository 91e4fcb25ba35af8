/- Slices of spans that a call makes itself: what they own, how they are read, what a sort leaves. -/
import Derived.Test.YtdkdolcocblhkaaSeq
import Derived.OneCell
import Derived.OwnWalk
import Derived.Laws.OwnMore
namespace Go.Proofs.Ytdkdolcocblhkaa
open Go.RowKit Go.Sort

def cellsS (s : K × K) : List Value := [.string s.1, .string s.2]
def flat (l : List (K × K)) : List Value := l.flatMap cellsS
theorem flat_nil : flat [] = [] := rfl
theorem flat_append (a b : List (K × K)) : flat (a ++ b) = flat a ++ flat b := by simp [flat]
theorem flat_one (s : K × K) : flat [s] = [.string s.1, .string s.2] := rfl
theorem flat_length (l : List (K × K)) : (flat l).length = l.length * 2 := by
  induction l with
  | nil => rfl
  | cons s r ih => rw [show s :: r = [s] ++ r from rfl, flat_append, List.length_append, ih, flat_one]; simp; omega
theorem flat_get : ∀ (l : List (K × K)) (i : Nat) (s : K × K), l[i]? = some s → (flat l)[i * 2]? = some (.string s.1) ∧ (flat l)[i * 2 + 1]? = some (.string s.2)
  | [], i, s, h => by simp at h
  | t :: r, 0, s, h => by
    simp only [List.getElem?_cons_zero, Option.some.injEq] at h
    subst h
    exact ⟨rfl, rfl⟩
  | t :: r, i + 1, s, h => by
    have h' : r[i]? = some s := by simpa using h
    have := flat_get r i s h'
    rw [show t :: r = [t] ++ r from rfl, flat_append, flat_one]
    exact ⟨by rw [show (i + 1) * 2 = i * 2 + 1 + 1 by omega]; simpa using this.1, by rw [show (i + 1) * 2 + 1 = i * 2 + 1 + 1 + 1 by omega]; simpa using this.2⟩
theorem flat_one_cell (l : List (K × K)) : ∀ u ∈ flat l, u.oneCell' = true := by
  intro u hu
  simp only [flat, List.mem_flatMap, cellsS, List.mem_cons, List.not_mem_nil, or_false] at hu
  obtain ⟨s, _, rfl | rfl⟩ := hu <;> rfl
/-- the last span's end stored anew -/
theorem flat_set (p : List (K × K)) (l : K × K) (t : K) : (flat (p ++ [l])).set (p.length * 2 + 1) (.string t) = flat (p ++ [(l.1, t)]) := by
  rw [flat_append, flat_append, List.set_append, flat_length, if_neg (by omega)]
  simp [flat_one]

/-- a slice of the call's own, no block of it below base, that holds a list of spans -/
def OwnS (w : World) (base : Nat) (v : Value) (l : List (K × K)) : Prop := w.ownsRow base 48 2 v l.length (flat l)
section
variable {w w' : World} {base : Nat} {v : Value} {l : List (K × K)}
theorem OwnS.nil (w : World) (base : Nat) : OwnS w base (.slice none 0 0) [] := World.ownsRow_nil w base _ 2
theorem OwnS.form (h : OwnS w base v l) : (v = .slice none 0 0 ∧ l = []) ∨ ∃ g cap, v = .slice (some ⟨g, 0, none⟩) l.length cap ∧ base ≤ g ∧ g < w.heap.size ∧ l.length ≤ cap := by
  rcases h.2 with ⟨hv, h0⟩ | ⟨g, cap, cur, hv, hg, hh, hc, _⟩
  · exact .inl ⟨hv, List.eq_nil_of_length_eq_zero h0⟩
  · exact .inr ⟨g, cap, hv, hg, (Array.getElem?_eq_some_iff.1 hh).1, hc⟩
theorem OwnS.rd (h : OwnS w base v l) : RdS w w.heap.size v l := by
  rcases h.form with ⟨hv, rfl⟩ | ⟨g, cap, hv, hg, hlt, hc⟩
  · exact ⟨none, 0, hv, Nat.le_refl _, fun i s hs => by simp at hs⟩
  · refine ⟨_, cap, hv, hc, fun i s hs => ⟨g, 0, rfl, hlt, ?_, ?_⟩⟩
    all_goals
      have hi : i < l.length := by rcases Nat.lt_or_ge i l.length with h' | h'; · exact h'
                                   · rw [List.getElem?_eq_none h'] at hs; cases hs
      subst hv
      have hf := flat_get l i s hs
      unfold OwnS at h
    · rw [Nat.zero_add, h.cellAt _ (by omega)]; exact hf.1
    · rw [Nat.zero_add, h.cellAt _ (by omega)]; exact hf.2
theorem OwnS.drewN (h : OwnS w base v l) (n : Nat) : OwnS (w.drewN n) base v l := h
theorem OwnS.alloc (h : OwnS w base v l) (o : Obj) : OwnS (w.alloc o) base v l := World.ownsRow.alloc h o
theorem OwnS.kept {row : Option Nat} (h : OwnS w base v l) (hg : w.grownBy w' row) (hne : v.ownBlock = none ∨ v.ownBlock ≠ row) : OwnS w' base v l := World.ownsRow.kept h hg hne
theorem OwnS.below {B : Nat} (h : OwnS w base v l) (hb : Below B w w') (hB : w.heap.size ≤ B) : OwnS w' base v l :=
  h.kept (row := none) ⟨hb.os, hb.tape, hb.output, hb.size, fun k hk _ => hb.block k (Nat.lt_of_lt_of_le hk hB)⟩ (by cases v.ownBlock <;> simp)
theorem OwnS.lower {base' : Nat} (h : OwnS w base v l) (hb : base' ≤ base) : OwnS w base' v l := by
  refine ⟨h.1, ?_⟩
  rcases h.2 with h2 | ⟨g, cap, cur, hv, hg, r⟩
  · exact .inl h2
  · exact .inr ⟨g, cap, cur, hv, Nat.le_trans hb hg, r⟩
end

/-- what has turned between two worlds, one block aside: steps on -/
theorem grow_trans {a b c : World} {row row' : Option Nat} (h : a.grownBy b row) (g : b.grownBy c row') (hr : ∀ k, row' = some k → a.heap.size ≤ k ∨ some k = row) : a.grownBy c row :=
  ⟨g.os.trans h.os, g.tape.trans h.tape, g.output.trans h.output, Nat.le_trans h.size g.size, fun k hk hne => by
    rw [g.block k (Nat.lt_of_lt_of_le hk h.size) (fun e => by
      rcases hr k e.symm with h1 | h1
      · omega
      · exact hne h1)]
    exact h.block k hk hne⟩
theorem grow_below {a b c : World} {row : Option Nat} {B : Nat} (h : a.grownBy b row) (g : Below B b c) (hB : a.heap.size ≤ B) : a.grownBy c row :=
  ⟨g.os.trans h.os, g.tape.trans h.tape, g.output.trans h.output, Nat.le_trans h.size g.size, fun k hk hne => (g.block k (Nat.lt_of_lt_of_le hk hB)).trans (h.block k hk hne)⟩
theorem grow_drewN {a w : World} {row : Option Nat} (h : a.grownBy w row) (n : Nat) : a.grownBy (w.drewN n) row := ⟨h.os, h.tape, h.output, h.size, h.block⟩
theorem grow_alloc {a w : World} {row : Option Nat} (h : a.grownBy w row) (o : Obj) : a.grownBy (w.alloc o) row :=
  grow_trans h (World.grownBy_alloc w o none) (fun k hk => by cases hk)
theorem grow_set {a w : World} {g : Nat} (h : a.grownBy w (some g)) (j : Nat) (u : Value) : a.grownBy (w.setCell ⟨g, j, none⟩ u) (some g) :=
  ⟨h.os, h.tape, h.output, by simpa [World.setCell] using h.size, fun k hk hne => (Below.heap_setCell w _ u k (fun e => hne (by rw [e]))).trans (h.block k hk hne)⟩
theorem grow_setNew {a w : World} {row : Option Nat} (h : a.grownBy w row) {g : Nat} (hg : a.heap.size ≤ g) (j : Nat) (u : Value) : a.grownBy (w.setCell ⟨g, j, none⟩ u) row :=
  ⟨h.os, h.tape, h.output, by simpa [World.setCell] using h.size, fun k hk hne => (Below.heap_setCell w _ u k (fun e => by simp only at e; omega)).trans (h.block k hk hne)⟩
theorem OwnS.setLast {w : World} {base g cap : Nat} {p : List (K × K)} {l : K × K} (h : OwnS w base (.slice (some ⟨g, 0, none⟩) (p ++ [l]).length cap) (p ++ [l])) (t : K) :
    OwnS (w.setCell ⟨g, p.length * 2 + 1, none⟩ (.string t)) base (.slice (some ⟨g, 0, none⟩) (p ++ [l]).length cap) (p ++ [(l.1, t)]) := by
  unfold OwnS at h ⊢
  have h1 := (h.stored (p.length * 2 + 1) (.string t)).1
  rw [flat_set] at h1
  simpa using h1
theorem OwnS.setOther {w : World} {base : Nat} {v : Value} {l : List (K × K)} (h : OwnS w base v l) {g : Nat} (hg : g < base) (j : Nat) (u : Value) : OwnS (w.setCell ⟨g, j, none⟩ u) base v l :=
  ownsRow_setCell_other h (a := ⟨g, j, none⟩) (fun e => by have := (h.lt g e).1; omega) u

theorem OwnS.read {w : World} {base : Nat} {v : Value} {l : List (K × K)} (h : OwnS w base v l) : ∃ A c, v = .slice A l.length c ∧ ∀ i (_ : i < l.length), ∃ g, A = some ⟨g, 0, none⟩ ∧ base ≤ g ∧ g < w.heap.size ∧
    w.cell? ⟨g, i * 2, none⟩ = some (.string l[i].1) ∧ w.cell? ⟨g, i * 2 + 1, none⟩ = some (.string l[i].2) := by
  rcases h.form with ⟨hv, rfl⟩ | ⟨g, cap, rfl, hg, hlt, hc⟩
  · exact ⟨none, 0, hv, fun i hi => by simp at hi⟩
  · refine ⟨_, cap, rfl, fun i hi => ⟨g, rfl, hg, hlt, ?_, ?_⟩⟩
    all_goals
      have hf := flat_get l i l[i] (List.getElem?_eq_getElem hi)
      unfold OwnS at h
    · rw [h.cellAt _ (by omega)]; exact hf.1
    · rw [h.cellAt _ (by omega)]; exact hf.2
theorem RdS.mono {w : World} {B C : Nat} {v : Value} {l : List (K × K)} (h : RdS w B v l) (hC : B ≤ C) : RdS w C v l := by
  obtain ⟨A, c, hv, hc, hi⟩ := h
  refine ⟨A, c, hv, hc, fun i s hs => ?_⟩
  obtain ⟨b, o, hA, hB, h1, h2⟩ := hi i s hs
  exact ⟨b, o, hA, Nat.lt_of_lt_of_le hB hC, h1, h2⟩

theorem info_spans : (Try.prog.info? 48).map (fun i => (i.zero, i.size, i.bytes)) = some (some (.agg #[.string ⟨#[]⟩, .string ⟨#[]⟩]), 2, 32) := by kernel_rfl

/-- append of one span that lies in a block of its own, in a region that goes by the text's order -/
theorem wpList_addS {ops : Array Oper} {rest : List Oper} {o : Oper} {a : Act} {Q : Exit → Act → World → Prop} {w : World} (hgd : o.guard = none) (s x : Operand)
    (ho : o.op = .call { callee := .builtin .append, args := #[s, x], argTypes := #[36, 36] })
    (base : Nat) (v : Value) (l : List (K × K)) (hs : a.eval s = v) (hown : OwnS w base v l) (ad : Addr) (c : Nat) (p : List (K × K))
    (hx : a.eval x = .slice (some ad) p.length c) (hc : ∀ j u, (flat p)[j]? = some u → w.cell? (ad.add j) = some u) (hn : l.length + p.length ≤ 4000000) (hbase : base ≤ w.heap.size)
    (h : ∀ A' c' w', OwnS w' base (.slice A' (l ++ p).length c') (l ++ p) → w.grownBy w' v.ownBlock → wpList Try.prog ops Q rest (a.put o.dst (.slice A' (l ++ p).length c')) w') : wpList Try.prog ops Q (o :: rest) a w := by
  obtain ⟨i0, hi, hz0, hz1, hz2⟩ := info_parts info_spans
  refine wpList_append_own w hgd s x 36 ho base 48 i0 _ 2 32 Try.underlying36 hi hz0 hz1 hz2 rfl (by decide) v l.length (flat l) hs hown ad p.length c (flat p) hx (flat_length p) hc (flat_one_cell p) (by unfold maxLen; omega) (by omega) hbase ?_
  intro v' w' h1 h2 _
  have h3 : OwnS w' base v' (l ++ p) := by unfold OwnS; rw [List.length_append, flat_append]; exact h1
  have hv : ∃ A' c', v' = .slice A' (l ++ p).length c' := by
    rcases h3.form with ⟨hv, h0⟩ | ⟨g, cap, hv, _⟩
    · exact ⟨none, 0, by rw [h0]; exact hv⟩
    · exact ⟨_, _, hv⟩
  obtain ⟨A', c', rfl⟩ := hv
  exact h A' c' w' h3 h2

/-- the two cells of a new block are those of one span -/
theorem new_cells (w : World) (s : K × K) (t : TypeId) : ∀ j u, (flat [s])[j]? = some u → (w.alloc (.cells #[.string s.1, .string s.2] t)).cell? ((⟨w.heap.size, 0, none⟩ : Addr).add j) = some u := by
  intro j u hu
  rw [flat_one] at hu
  have hadd : ∀ j, (⟨w.heap.size, 0, none⟩ : Addr).add j = ⟨w.heap.size, j, none⟩ := fun j => by unfold Addr.add; split <;> simp_all
  rw [hadd, World.cell?_alloc_at _ _ _ j rfl, ← hu]
  rw [← Array.getElem?_toList]
end Go.Proofs.Ytdkdolcocblhkaa

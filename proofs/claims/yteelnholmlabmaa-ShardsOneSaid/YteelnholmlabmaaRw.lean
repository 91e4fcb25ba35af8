/- Rows of changes: what Spread answers. -/
import Derived.Test.YteelnholmlabmaaRSh
import Derived.Test.YteelnholmlabmaaRAll
import Derived.Test.YteelnholmlabmaaRdG
import Derived.Test.YteelnholmlabmaaGenN
import Derived.Test.YteelnholmlabmaaRCut
namespace Go.Proofs.Yteelnholmlabmaa
open Go.RowKit

/-- one row of changes, and where it is -/
structure Rw where
  A : Option Addr
  c : Nat
  l : List Chg
def Rw.v (r : Rw) : Value := .slice r.A r.l.length r.c
def encRw (r : Rw) : List Value := [r.v]
theorem encRw_len (r : Rw) : (encRw r).length = 1 := rfl
theorem encRw_one (r : Rw) : ∀ u ∈ encRw r, u.oneCell' = true := by
  intro u hu
  simp [encRw] at hu
  subst hu
  rfl
abbrev RdW (w : World) (B : Nat) (v : Value) (l : List Rw) : Prop := Rd encRw 1 w B v l
abbrev OwnRw (w : World) (base : Nat) (v : Value) (l : List Rw) : Prop := Own encRw 1 36 w base v l
theorem info_row : (Try.prog.info? 36).map (fun i => (i.zero, i.size, i.bytes)) = some (some (.slice none 0 0), 1, 24) := by kernel_rfl
theorem RdW.at {w : World} {B : Nat} {v : Value} {l : List Rw} (h : RdW w B v l) : ∃ A c, v = .slice A l.length c ∧ l.length ≤ c ∧ ∀ i (_ : i < l.length), ∃ b o, A = some ⟨b, o, none⟩ ∧ b < B ∧ w.cell? ⟨b, o + i, none⟩ = some l[i].v := by
  obtain ⟨A, c, hv, hc, hi⟩ := h
  refine ⟨A, c, hv, hc, fun i hs => ?_⟩
  obtain ⟨b, o, hA, hB, h1⟩ := hi i hs
  have := h1 0 _ rfl
  simp only [Nat.mul_one, Nat.add_zero] at this
  exact ⟨b, o, hA, hB, this⟩
theorem RdW.one (w : World) (r : Rw) : RdW (w.alloc (.cells #[r.v] 36)) (w.heap.size + 1) (.slice (some ⟨w.heap.size, 0, none⟩) 1 1) [r] := by
  refine ⟨_, 1, rfl, Nat.le_refl _, fun i hi => ⟨w.heap.size, 0, rfl, Nat.lt_succ_self _, fun j u hu => ?_⟩⟩
  obtain rfl : i = 0 := by simp at hi; omega
  match j, hu with
  | 0, hu =>
    simp only [encRw, List.getElem_cons_zero, List.getElem?_cons_zero, Option.some.injEq] at hu
    subst hu
    exact World.cell?_alloc_at _ _ _ _ rfl
  | j + 1, hu => simp [encRw] at hu
theorem OwnC.form {w : World} {base : Nat} {v : Value} {l : List Chg} (h : OwnC w base v l) : ∃ r : Rw, r.l = l ∧ v = r.v := by
  rcases Own.form h with ⟨h1, h2⟩ | ⟨g, cap, h1, _⟩
  · exact ⟨⟨none, 0, l⟩, rfl, by rw [h1, h2]; rfl⟩
  · exact ⟨⟨_, _, l⟩, rfl, h1⟩
section
variable {ops : Array Oper} {rest : List Oper} {o : Oper} {a : Act} {Q : Exit → Act → World → Prop} {w : World}
theorem wpList_addRw (hgd : Region.wanted o (yielded ops a.tmps) = true) (s x : Operand) (ho : o.op = .call { callee := .builtin .append, args := #[s, x], argTypes := #[37, 37] })
    (base : Nat) (v : Value) (l : List Rw) (hs : a.eval s = v) (hown : OwnRw w base v l) (B : Nat) (v2 : Value) (p : List Rw) (hx : a.eval x = v2) (hp : RdW w B v2 p) (hl : l.length + p.length ≤ 1000) (hbase : base ≤ w.heap.size)
    (h : ∀ A' c' w', Hid (OwnRw w' base (.slice A' (l ++ p).length c') (l ++ p)) → Hid (w.grownBy w' v.ownBlock) → Hid (NewRow w v.ownBlock (Value.ownBlock (.slice A' (l ++ p).length c'))) → wpList Try.prog ops Q rest (a.put o.dst (.slice A' (l ++ p).length c')) w') : wpList Try.prog ops Q (o :: rest) a w := by
  obtain ⟨i0, hi, hz0, hz1, hz2⟩ := info_parts info_row
  exact BigFrame.wpList_want hgd fun K2 hK => wp_addAnyN (enc := encRw) (k := 1) 37 36 24 i0 _ Try.underlying37 hi hz0 hz1 hz2 rfl (by decide) encRw_len encRw_one s x ho base v l hs hown B v2 p hx hp (by unfold maxLen; omega) (by omega) hbase fun A' c' w' h1 h2 h3 => hK _ _ (h A' c' w' (Lib.hid h1) (Lib.hid h2) (Lib.hid h3))
end

/-- the changes of the first n pieces -/
def rowsOf (b : List K) (l : List Chg) (n : Nat) : List (List Chg) := (List.range n).map fun i => cutP (pieceB b i) l
theorem rowsOf_succ (b : List K) (l : List Chg) (n : Nat) : rowsOf b l (n + 1) = rowsOf b l n ++ [cutP (pieceB b n) l] := by simp [rowsOf, List.range_succ]
/-- what Spread answers -/
def SpreadIs (w : World) (v : Value) (q : Int) (b : List K) (l : List Chg) : Prop :=
  (¬ okB b ∧ q = 2 ∧ ∃ A c, v = .slice A 0 c) ∨ (okB b ∧ allAns l ≠ 0 ∧ q = allAns l ∧ ∃ A c, v = .slice A 0 c) ∨
  (okB b ∧ allAns l = 0 ∧ q = 0 ∧ ∃ rows, RdW w w.heap.size v rows ∧ rows.map (·.l) = rowsOf b l (b.length + 1) ∧ ∀ r ∈ rows, RdC w w.heap.size r.v r.l)
theorem SpreadIs.next {w w' : World} {v : Value} {q : Int} {b : List K} {l : List Chg} (h : SpreadIs w v q b l) (hb : Below w.heap.size w w') : SpreadIs w' v q b l := by
  rcases h with h | h | ⟨h1, h2, h3, rows, h4, h5, h6⟩
  · exact .inl h
  · exact .inr (.inl h)
  · exact .inr (.inr ⟨h1, h2, h3, rows, h4.next hb, h5, fun r hr => (h6 r hr).next hb⟩)
end Go.Proofs.Yteelnholmlabmaa

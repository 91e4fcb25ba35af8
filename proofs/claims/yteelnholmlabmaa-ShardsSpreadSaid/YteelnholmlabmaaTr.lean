/- Transactions carved to pieces: what Carve answers. -/
import Derived.Test.YteelnholmlabmaaRw
import Derived.Test.YteelnholmlabmaaTx
namespace Go.Proofs.Yteelnholmlabmaa
open Go.RowKit

/-- a transaction, and where its spans and changes are -/
structure Tr where
  read : Int
  A1 : Option Addr
  c1 : Nat
  reads : List (K × K)
  A2 : Option Addr
  c2 : Nat
  chgs : List Chg
def Tr.t (x : Tr) : Txn := ⟨x.read, x.reads, x.chgs⟩
def Tr.v1 (x : Tr) : Value := .slice x.A1 x.reads.length x.c1
def Tr.v2 (x : Tr) : Value := .slice x.A2 x.chgs.length x.c2
def encTr (x : Tr) : List Value := [.int .i64 x.read, x.v1, x.v2]
theorem encTr_len (x : Tr) : (encTr x).length = 3 := rfl
theorem encTr_one (x : Tr) : ∀ u ∈ encTr x, u.oneCell' = true := by
  intro u hu
  simp [encTr] at hu
  rcases hu with rfl | rfl | rfl <;> rfl
abbrev RdTr (w : World) (B : Nat) (v : Value) (l : List Tr) : Prop := Rd encTr 3 w B v l
abbrev OwnTr (w : World) (base : Nat) (v : Value) (l : List Tr) : Prop := Own encTr 3 45 w base v l
abbrev OwnSp (w : World) (base : Nat) (v : Value) (l : List (K × K)) : Prop := Own cellsS 2 31 w base v l
theorem info_txn : (Try.prog.info? 45).map (fun i => (i.zero, i.size, i.bytes)) = some (some (.agg #[.int .i64 0, .slice none 0 0, .slice none 0 0]), 3, 56) := by kernel_rfl
theorem info_span : (Try.prog.info? 31).map (fun i => (i.zero, i.size, i.bytes)) = some (some (.agg #[.string ⟨#[]⟩, .string ⟨#[]⟩]), 2, 32) := by kernel_rfl
theorem RdTr.at {w : World} {B : Nat} {v : Value} {l : List Tr} (h : RdTr w B v l) : ∃ A c, v = .slice A l.length c ∧ l.length ≤ c ∧ ∀ i (_ : i < l.length), ∃ b o, A = some ⟨b, o, none⟩ ∧ b < B ∧ w.cell? ⟨b, o + i * 3, none⟩ = some (.int .i64 l[i].read) ∧ w.cell? ⟨b, o + i * 3 + 1, none⟩ = some l[i].v1 ∧ w.cell? ⟨b, o + i * 3 + 2, none⟩ = some l[i].v2 := by
  obtain ⟨A, c, hv, hc, hi⟩ := h
  refine ⟨A, c, hv, hc, fun i hs => ?_⟩
  obtain ⟨b, o, hA, hB, h1⟩ := hi i hs
  exact ⟨b, o, hA, hB, h1 0 _ rfl, h1 1 _ rfl, h1 2 _ rfl⟩
theorem RdTr.one (w : World) (x : Tr) : RdTr (w.alloc (.cells #[.int .i64 x.read, x.v1, x.v2] 45)) (w.heap.size + 1) (.slice (some ⟨w.heap.size, 0, none⟩) 1 1) [x] := by
  refine ⟨_, 1, rfl, Nat.le_refl _, fun i hi => ⟨w.heap.size, 0, rfl, Nat.lt_succ_self _, fun j u hu => ?_⟩⟩
  obtain rfl : i = 0 := by simp at hi; omega
  match j, hu with
  | 0, hu =>
    simp only [encTr, List.getElem_cons_zero, List.getElem?_cons_zero, Option.some.injEq] at hu
    subst hu
    exact World.cell?_alloc_at _ _ _ _ rfl
  | 1, hu =>
    simp only [encTr, List.getElem_cons_zero, List.getElem?_cons_succ, List.getElem?_cons_zero, Option.some.injEq] at hu
    subst hu
    exact World.cell?_alloc_at _ _ _ _ rfl
  | 2, hu =>
    simp only [encTr, List.getElem_cons_zero, List.getElem?_cons_succ, List.getElem?_cons_zero, Option.some.injEq] at hu
    subst hu
    exact World.cell?_alloc_at _ _ _ _ rfl
  | j + 3, hu => simp [encTr] at hu
theorem RdSp.one (w : World) (s : K × K) : RdP (w.alloc (.cells #[.string s.1, .string s.2] 31)) (w.heap.size + 1) (.slice (some ⟨w.heap.size, 0, none⟩) 1 1) [s] := by
  refine ⟨_, 1, rfl, Nat.le_refl _, fun i hi => ⟨w.heap.size, 0, rfl, Nat.lt_succ_self _, fun j u hu => ?_⟩⟩
  obtain rfl : i = 0 := by simp at hi; omega
  match j, hu with
  | 0, hu =>
    simp only [cellsS, List.getElem_cons_zero, List.getElem?_cons_zero, Option.some.injEq] at hu
    subst hu
    exact World.cell?_alloc_at _ _ _ _ rfl
  | 1, hu =>
    simp only [cellsS, List.getElem_cons_zero, List.getElem?_cons_succ, List.getElem?_cons_zero, Option.some.injEq] at hu
    subst hu
    exact World.cell?_alloc_at _ _ _ _ rfl
  | j + 2, hu => simp [cellsS] at hu
theorem Own.two {α β : Type} {enc : α → List Value} {enc' : β → List Value} {k k' : Nat} {e e' : TypeId} {w : World} {b b' : Nat} {v v' : Value} {l : List α} {l' : List β} (h : Own enc k e w b v l) (h' : Own enc' k' e' w b' v' l') (hne : e' ≠ e) : v.ownBlock = none ∨ v.ownBlock ≠ v'.ownBlock := by
  rcases h.row with ⟨rfl, _⟩ | ⟨g, cap, cur, rfl, _, hg, _⟩
  · exact .inl rfl
  · exact .inr (h'.apart hg hne)
section
variable {ops : Array Oper} {rest : List Oper} {o : Oper} {a : Act} {Q : Exit → Act → World → Prop} {w : World}
theorem wpList_addTr (hgd : Region.wanted o (yielded ops a.tmps) = true) (s x : Operand) (ho : o.op = .call { callee := .builtin .append, args := #[s, x], argTypes := #[46, 46] })
    (base : Nat) (v : Value) (l : List Tr) (hs : a.eval s = v) (hown : OwnTr w base v l) (B : Nat) (v2 : Value) (p : List Tr) (hx : a.eval x = v2) (hp : RdTr w B v2 p) (hl : l.length + p.length ≤ 1000) (hbase : base ≤ w.heap.size)
    (h : ∀ A' c' w', Hid (OwnTr w' base (.slice A' (l ++ p).length c') (l ++ p)) → Hid (w.grownBy w' v.ownBlock) → Hid (NewRow w v.ownBlock (Value.ownBlock (.slice A' (l ++ p).length c'))) → wpList Try.prog ops Q rest (a.put o.dst (.slice A' (l ++ p).length c')) w') : wpList Try.prog ops Q (o :: rest) a w := by
  obtain ⟨i0, hi, hz0, hz1, hz2⟩ := info_parts info_txn
  exact BigFrame.wpList_want hgd fun K2 hK => wp_addAnyN (enc := encTr) (k := 3) 46 45 56 i0 _ Try.underlying46 hi hz0 hz1 hz2 rfl (by decide) encTr_len encTr_one s x ho base v l hs hown B v2 p hx hp (by unfold maxLen; omega) (by omega) hbase fun A' c' w' h1 h2 h3 => hK _ _ (h A' c' w' (Lib.hid h1) (Lib.hid h2) (Lib.hid h3))
theorem cellsS_one2 (s : K × K) : ∀ u ∈ cellsS s, u.oneCell' = true := cellsS_one s
theorem wpList_addSp (hgd : Region.wanted o (yielded ops a.tmps) = true) (s x : Operand) (ho : o.op = .call { callee := .builtin .append, args := #[s, x], argTypes := #[43, 43] })
    (base : Nat) (v : Value) (l : List (K × K)) (hs : a.eval s = v) (hown : OwnSp w base v l) (B : Nat) (v2 : Value) (p : List (K × K)) (hx : a.eval x = v2) (hp : RdP w B v2 p) (hl : l.length + p.length ≤ 1000) (hbase : base ≤ w.heap.size)
    (h : ∀ A' c' w', Hid (OwnSp w' base (.slice A' (l ++ p).length c') (l ++ p)) → Hid (w.grownBy w' v.ownBlock) → wpList Try.prog ops Q rest (a.put o.dst (.slice A' (l ++ p).length c')) w') : wpList Try.prog ops Q (o :: rest) a w := by
  obtain ⟨i0, hi, hz0, hz1, hz2⟩ := info_parts info_span
  exact BigFrame.wpList_want hgd fun K2 hK => wp_addAny (enc := cellsS) (k := 2) 43 31 32 i0 _ Try.underlying43 hi hz0 hz1 hz2 rfl (by decide) cellsS_len cellsS_one s x ho base v l hs hown B v2 p hx hp (by unfold maxLen; omega) (by omega) hbase fun A' c' w' h1 h2 => hK _ _ (h A' c' w' (Lib.hid h1) (Lib.hid h2))
end
/-- the spans of a list that have keys in common with one, cut to them -/
def meetP (s : K × K) (l : List (K × K)) : List (K × K) := l.flatMap fun r => if (meet r s).1 < (meet r s).2 then [meet r s] else []
theorem meetP_take (s : K × K) (l : List (K × K)) (i : Nat) (h : i < l.length) : meetP s (l.take (i + 1)) = meetP s (l.take i) ++ (if (meet l[i] s).1 < (meet l[i] s).2 then [meet l[i] s] else []) := by
  unfold meetP
  rw [List.take_succ_eq_append_getElem h, List.flatMap_append]
  simp
theorem meetP_len (s : K × K) : ∀ l : List (K × K), (meetP s l).length ≤ l.length
  | [] => by simp [meetP]
  | r :: l => by
    have h2 := meetP_len s l
    have e : meetP s (r :: l) = (if (meet r s).1 < (meet r s).2 then [meet r s] else []) ++ meetP s l := by simp [meetP]
    rw [e, List.length_append]
    split <;> simp <;> omega
/-- a transaction's part in a piece -/
def carveT (b : List K) (t : Txn) (n : Nat) : Txn := ⟨t.read, meetP (pieceB b n) t.reads, cutP (pieceB b n) t.chgs⟩
def carvesOf (b : List K) (t : Txn) (n : Nat) : List Txn := (List.range n).map (carveT b t)
theorem carvesOf_succ (b : List K) (t : Txn) (n : Nat) : carvesOf b t (n + 1) = carvesOf b t n ++ [carveT b t n] := by simp [carvesOf, List.range_succ]
/-- what Carve answers -/
def CarveIs (w : World) (v : Value) (q : Int) (b : List K) (t : Txn) : Prop :=
  (¬ (okB b ∧ soundT t) ∧ q = 2 ∧ ∃ A c, v = .slice A 0 c) ∨
  (okB b ∧ soundT t ∧ q = 0 ∧ ∃ rows, RdTr w w.heap.size v rows ∧ rows.map Tr.t = carvesOf b t (b.length + 1) ∧ ∀ x ∈ rows, RdP w w.heap.size x.v1 x.reads ∧ RdC w w.heap.size x.v2 x.chgs)
theorem CarveIs.next {w w' : World} {v : Value} {q : Int} {b : List K} {t : Txn} (h : CarveIs w v q b t) (hb : Below w.heap.size w w') : CarveIs w' v q b t := by
  rcases h with h | ⟨h1, h2, h3, rows, h4, h5, h6⟩
  · exact .inl h
  · exact .inr ⟨h1, h2, h3, rows, h4.next hb, h5, fun r hr => ⟨(h6 r hr).1.next hb, (h6 r hr).2.next hb⟩⟩
end Go.Proofs.Yteelnholmlabmaa

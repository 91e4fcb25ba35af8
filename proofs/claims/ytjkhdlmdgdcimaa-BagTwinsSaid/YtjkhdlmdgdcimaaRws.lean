/- Rows of bytes: a slice of slices, read and owned; which blocks they do not lie in. -/
import Derived.Test.YtjkhdlmdgdcimaaHold
namespace Go.Proofs.Ytjkhdlmdgdcimaa
open Go.RowKit

/-- one row of bytes: its value and what it holds -/
structure Row where
  a : Option Addr
  c : Nat
  l : List UInt8
def Row.v (r : Row) : Value := .slice r.a r.l.length r.c
def encR (r : Row) : List Value := [r.v]
theorem encR_one (r : Row) : ∀ u ∈ encR r, u.oneCell' = true := by
  intro u hu
  simp only [encR, List.mem_cons, List.not_mem_nil, or_false] at hu
  subst hu
  rfl
theorem encR_len (r : Row) : (encR r).length = 1 := rfl
set_option maxRecDepth 100000 in
theorem info_row : (Try.prog.info? 32).map (fun i => (i.zero, i.size, i.bytes)) = some (some (.slice none 0 0), 1, 24) := by kernel_rfl
abbrev OwnR (w : World) (base : Nat) (v : Value) (l : List Row) : Prop := Own encR 1 32 w base v l

/-- bytes below block B, in no block of G -/
def RdBG (w : World) (B : Nat) (G : Nat → Prop) (v : Value) (l : List UInt8) : Prop :=
  ∃ A c, v = .slice A l.length c ∧ l.length ≤ c ∧ ∀ i (_ : i < l.length), ∃ b o, A = some ⟨b, o, none⟩ ∧ b < B ∧ ¬ G b ∧ w.cell? ⟨b, o + i, none⟩ = some (.int .u8 (l[i].toNat : Int))
section
variable {w w' : World} {B B' : Nat} {G G' : Nat → Prop} {v : Value} {l : List UInt8}
theorem RdBG.rdB (h : RdBG w B G v l) : RdB w B v l := by
  obtain ⟨A, c, rfl, hc, hi⟩ := h
  refine ⟨A, c, rfl, hc, fun i hs => ?_⟩
  obtain ⟨b, o, hA, hb, _, h1⟩ := hi i hs
  refine ⟨b, o, hA, hb, fun j u hu => ?_⟩
  match j, hu with
  | 0, hu =>
    simp only [byteEnc, List.getElem?_cons_zero, Option.some.injEq] at hu
    subst hu
    simpa using h1
  | j + 1, hu => simp [byteEnc] at hu
theorem RdBG.of (h : RdB w B v l) (hG : ∀ b, b < B → ¬ G b) : RdBG w B G v l := by
  obtain ⟨A, c, rfl, hc, hi⟩ := h.at
  exact ⟨A, c, rfl, hc, fun i hs => by obtain ⟨b, o, hA, hb, h1⟩ := hi i hs; exact ⟨b, o, hA, hb, hG b hb, h1⟩⟩
theorem RdBG.mv {D : Nat → Prop} (h : RdBG w B G v l) (hm : Mv D w w') (hB : B ≤ w.heap.size) (hD : ∀ b, b < B → D b → G b) : RdBG w' B G v l := by
  obtain ⟨A, c, rfl, hc, hi⟩ := h
  refine ⟨A, c, rfl, hc, fun i hs => ?_⟩
  obtain ⟨b, o, hA, hb, hg, h1⟩ := hi i hs
  exact ⟨b, o, hA, hb, hg, by rw [World.cell?_of_block (w := w) (hm.block b (by omega) (fun h => hg (hD b hb h)))]; exact h1⟩
theorem RdBG.mono (h : RdBG w B G v l) (hB : B ≤ B') (hG : ∀ b, b < B → G' b → G b) : RdBG w B' G' v l := by
  obtain ⟨A, c, rfl, hc, hi⟩ := h
  refine ⟨A, c, rfl, hc, fun i hs => ?_⟩
  obtain ⟨b, o, hA, hb, hg, h1⟩ := hi i hs
  exact ⟨b, o, hA, by omega, fun h => hg (hG b hb h), h1⟩
end
/-- rows, each of their blocks below block B and none of G -/
def RdRs (w : World) (B : Nat) (G : Nat → Prop) (v : Value) (rows : List Row) : Prop :=
  (∃ A c, v = .slice A rows.length c ∧ rows.length ≤ c ∧ ∀ i (_ : i < rows.length), ∃ b o, A = some ⟨b, o, none⟩ ∧ b < B ∧ ¬ G b ∧ w.cell? ⟨b, o + i, none⟩ = some rows[i].v) ∧ ∀ r ∈ rows, RdBG w B G r.v r.l
def texts (rows : List Row) : List (List UInt8) := rows.map (·.l)
section
variable {w w' : World} {B B' : Nat} {G G' : Nat → Prop} {v : Value} {rows : List Row}
theorem RdRs.mv {D : Nat → Prop} (h : RdRs w B G v rows) (hm : Mv D w w') (hB : B ≤ w.heap.size) (hD : ∀ b, b < B → D b → G b) : RdRs w' B G v rows := by
  obtain ⟨⟨A, c, rfl, hc, hi⟩, hr⟩ := h
  refine ⟨⟨A, c, rfl, hc, fun i hs => ?_⟩, fun r hx => (hr r hx).mv hm hB hD⟩
  obtain ⟨b, o, hA, hb, hg, h1⟩ := hi i hs
  exact ⟨b, o, hA, hb, hg, by rw [World.cell?_of_block (w := w) (hm.block b (by omega) (fun h => hg (hD b hb h)))]; exact h1⟩
theorem RdRs.mono (h : RdRs w B G v rows) (hB : B ≤ B') (hG : ∀ b, b < B → G' b → G b) : RdRs w B' G' v rows := by
  obtain ⟨⟨A, c, rfl, hc, hi⟩, hr⟩ := h
  refine ⟨⟨A, c, rfl, hc, fun i hs => ?_⟩, fun r hx => (hr r hx).mono hB hG⟩
  obtain ⟨b, o, hA, hb, hg, h1⟩ := hi i hs
  exact ⟨b, o, hA, by omega, fun h => hg (hG b hb h), h1⟩
theorem RdRs.rd (h : RdRs w B G v rows) : Rd encR 1 w B v rows := by
  obtain ⟨⟨A, c, rfl, hc, hi⟩, _⟩ := h
  refine ⟨A, c, rfl, hc, fun i hs => ?_⟩
  obtain ⟨b, o, hA, hb, _, h1⟩ := hi i hs
  refine ⟨b, o, hA, hb, fun j u hu => ?_⟩
  match j, hu with
  | 0, hu =>
    simp only [encR, List.getElem?_cons_zero, Option.some.injEq] at hu
    subst hu
    simpa using h1
  | j + 1, hu => simp [encR] at hu
theorem RdRs.row (h : RdRs w B G v rows) (i : Nat) (hi : i < rows.length) : RdBG w B G rows[i].v rows[i].l := h.2 _ (List.getElem_mem hi)
/-- the first n of them -/
theorem RdRs.take {A : Option Addr} {m c : Nat} (h : RdRs w B G (.slice A m c) rows) (n : Nat) (hn : n ≤ rows.length) : RdRs w B G (.slice A n c) (rows.take n) := by
  obtain ⟨⟨A', c', hv, hc, hi⟩, hr⟩ := h
  injection hv with h1 h2 h3
  subst h1 h3
  refine ⟨⟨A, c, by simp [Nat.min_eq_left hn], by simp; omega, fun i hs => ?_⟩, fun r hx => hr r (List.mem_of_mem_take hx)⟩
  have hs' : i < rows.length := by simp at hs; omega
  obtain ⟨b, o, hA, hb, hg, h1⟩ := hi i hs'
  exact ⟨b, o, hA, hb, hg, by simpa using h1⟩
theorem RdRs.nil (w : World) (B : Nat) (G : Nat → Prop) (A : Option Addr) (c : Nat) : RdRs w B G (.slice A 0 c) [] := ⟨⟨A, c, rfl, Nat.zero_le _, fun i hi => by simp at hi⟩, fun r hr => by simp at hr⟩
/-- what is owned, of rows that are read -/
theorem OwnR.rs {base : Nat} (h : OwnR w base v rows) (hG : ∀ b, base ≤ b → ¬ G b) (hr : ∀ r ∈ rows, RdBG w w.heap.size G r.v r.l) : RdRs w w.heap.size G v rows := by
  refine ⟨?_, hr⟩
  obtain ⟨A, c, hv, hc, hi⟩ := Own.rd encR_len h
  refine ⟨A, c, hv, hc, fun i hs => ?_⟩
  obtain ⟨b, o, hA, hb, h1⟩ := hi i hs
  have hge : base ≤ b := by
    rcases h.form with ⟨e, e0⟩ | ⟨g, cap, e, hg, _, _⟩
    · rw [e0] at hs; simp at hs
    · rw [hv, hA] at e
      injection e with e _ _
      injection e with e
      injection e with e _ _
      omega
  exact ⟨b, o, hA, hb, hG b hge, by have := h1 0 _ rfl; simpa using this⟩
end
/-- a call that moves the blocks of G leaves rows that lie elsewhere -/
theorem RdRs.shift {w w' : World} {B : Nat} {G G' : Nat → Prop} {v : Value} {rows : List Row} (h : RdRs w B G v rows) (hB : B ≤ w.heap.size) (hm : Mv G w w') (hG : ∀ i, G' i → G i ∨ w.heap.size ≤ i) : RdRs w' w'.heap.size G' v rows :=
  (h.mv hm hB (fun _ _ h => h)).mono (Nat.le_trans hB hm.size) (fun b hb hg => by rcases hG b hg with h1 | h1; exact h1; omega)
section
variable {ops : Array Oper} {rest : List Oper} {o : Oper} {a : Act} {Q : Exit → Act → World → Prop} {w : World}
set_option maxRecDepth 100000 in
/-- the same in a region that draws -/
theorem wp_addR {K : Act → World → Prop} (s x : Operand)
    (ho : o.op = .call { callee := .builtin .append, args := #[s, x], argTypes := #[46, 46] })
    (base : Nat) (v : Value) (l : List Row) (hs : a.eval s = v) (hown : OwnR w base v l) (B : Nat) (v2 : Value) (p : List Row) (hx : a.eval x = v2) (hp : Rd encR 1 w B v2 p)
    (hlen : l.length + p.length ≤ 9000000000000) (hbase : base ≤ w.heap.size)
    (h : ∀ A' c' w', OwnR w' base (.slice A' (l ++ p).length c') (l ++ p) → w.grownBy w' v.ownBlock → K (a.put o.dst (.slice A' (l ++ p).length c')) w') : o.wp Try.prog a w K Q := by
  obtain ⟨i0, hi, hz0, hz1, hz2⟩ := info_parts info_row
  exact wp_addAny (enc := encR) (k := 1) 46 32 24 i0 _ Try.underlying46 hi hz0 hz1 hz2 rfl (by decide) encR_len encR_one s x ho base v l hs hown B v2 p hx hp (by unfold maxLen; omega) (by omega) hbase fun A' c' w' h1 h2 => h A' c' w' h1 h2
set_option maxRecDepth 100000 in
/-- rows appended to a slice of rows of the call's own -/
theorem wpList_addR (hgd : Region.wanted o (yielded ops a.tmps) = true) (s x : Operand)
    (ho : o.op = .call { callee := .builtin .append, args := #[s, x], argTypes := #[46, 46] })
    (base : Nat) (v : Value) (l : List Row) (hs : a.eval s = v) (hown : OwnR w base v l) (B : Nat) (v2 : Value) (p : List Row) (hx : a.eval x = v2) (hp : Rd encR 1 w B v2 p)
    (hlen : l.length + p.length ≤ 9000000000000) (hbase : base ≤ w.heap.size)
    (h : ∀ A' c' w', Hid (OwnR w' base (.slice A' (l ++ p).length c') (l ++ p)) → Hid (w.grownBy w' v.ownBlock) → wpList Try.prog ops Q rest (a.put o.dst (.slice A' (l ++ p).length c')) w') : wpList Try.prog ops Q (o :: rest) a w := by
  obtain ⟨i0, hi, hz0, hz1, hz2⟩ := info_parts info_row
  refine BigFrame.wpList_want hgd fun K hK => ?_
  refine wp_addAny (enc := encR) (k := 1) 46 32 24 i0 _ Try.underlying46 hi hz0 hz1 hz2 rfl (by decide) encR_len encR_one s x ho base v l hs hown B v2 p hx hp (by unfold maxLen; omega) (by omega) hbase fun A' c' w' h1 h2 => ?_
  exact hK _ _ (h A' c' w' (Lib.hid h1) (Lib.hid h2))
end
end Go.Proofs.Ytjkhdlmdgdcimaa

/- Bytes that may have been cut off ahead of their block's end; what moves and what stays. (For seats with bytes.) What moves and what stays: Hold has it. What a slice reads as, and which blocks it does not lie in: for whatever element type. An append to a slice of the call's own that says of its block: the old one or a new one. Rows of batches: each with its changes in a slice; which blocks they do not lie in. Rows of batches that grow in memory of one's own. Rows of bytes: a slice of slices, read and owned; which blocks they do not lie in. The program's records: the same ones in memory of their own. -/
import Derived.Test.YtmigninibdecmaaGreatFac
import Derived.Test.YtmigninibdecmaaGreatFaf
import Derived.Test.YtmigninibdecmaaGreatFab
import Derived.Test.YtmigninibdecmaaGreatFaa
namespace Go.Proofs.YtmigninibdecmaaGreat
open Go.RowKit

/-- of the blocks that were there those of D alone have moved -/
structure Mv (D : Nat → Prop) (w w' : World) : Prop where
  os : w'.os = w.os
  tape : w'.tape = w.tape
  output : w'.output = w.output
  size : w.heap.size ≤ w'.heap.size
  block : ∀ i, i < w.heap.size → ¬ D i → w'.heap[i]? = w.heap[i]?
namespace Mv
variable {D D' : Nat → Prop} {w w' w2 : World}
theorem refl (D : Nat → Prop) (w : World) : Mv D w w := ⟨rfl, rfl, rfl, Nat.le_refl _, fun _ _ _ => rfl⟩
theorem mono (h : Mv D w w') (hD : ∀ i, i < w.heap.size → D i → D' i) : Mv D' w w' := ⟨h.os, h.tape, h.output, h.size, fun i hi hn => h.block i hi fun hd => hn (hD i hi hd)⟩
theorem trans (h : Mv D w w') (h2 : Mv D' w' w2) (hD : ∀ i, i < w.heap.size → D' i → D i) : Mv D w w2 :=
  ⟨h2.os.trans h.os, h2.tape.trans h.tape, h2.output.trans h.output, Nat.le_trans h.size h2.size, fun i hi hn => (h2.block i (Nat.lt_of_lt_of_le hi h.size) fun hd => hn (hD i hi hd)).trans (h.block i hi hn)⟩
theorem of_grown {row : Option Nat} (h : w.grownBy w' row) : Mv (fun i => some i = row) w w' := ⟨h.os, h.tape, h.output, h.size, fun i hi hn => h.block i hi hn⟩
theorem grown {row : Option Nat} (h : Mv D w w') (h2 : w'.grownBy w2 row) (hD : ∀ i, i < w.heap.size → some i = row → D i) : Mv D w w2 := h.trans (of_grown h2) hD
theorem alloc (h : Mv D w w') (o : Obj) : Mv D w (w'.alloc o) :=
  h.trans (D' := fun _ => False) ⟨rfl, rfl, rfl, by simp, fun i hi _ => Below.heap_alloc w' o i hi⟩ (fun _ _ h => h.elim)
theorem setCell (h : Mv D w w') {p : Addr} (hp : p.block < w.heap.size → D p.block) (u : Value) : Mv D w (w'.setCell p u) := by
  refine h.trans (D' := fun i => i = p.block) ⟨rfl, rfl, rfl, by simp, fun i hi hn => Below.heap_setCell w' p u i hn⟩ ?_
  rintro i hi rfl
  exact hp hi
theorem drew (h : Mv D w w') : Mv D w w'.drew := ⟨h.os, h.tape, h.output, h.size, h.block⟩
theorem below {B : Nat} (h : Mv D w w') (hB : B ≤ w.heap.size) (hD : ∀ i, D i → B ≤ i) : Below B w w' :=
  ⟨h.os, h.tape, h.output, h.size, fun k hk => h.block k (Nat.lt_of_lt_of_le hk hB) fun hd => by have := hD k hd; omega⟩
theorem of_below {B : Nat} (h : Below B w w') : Mv (fun i => B ≤ i) w w' := ⟨h.os, h.tape, h.output, h.size, fun i _ hn => h.block i (by omega)⟩
theorem of_new (h : Below w.heap.size w w') (D : Nat → Prop) : Mv D w w' := ⟨h.os, h.tape, h.output, h.size, fun i hi _ => h.block i hi⟩
theorem whole {g : Nat} {t : TypeId} {cs : List Value} (hg : Whole w g t cs) (h : Mv D w w') (hn : ¬ D g) : Whole w' g t cs := (h.block g hg.size hn).trans hg
end Mv

/-- a slice of bytes of the call's own; behind it its block may go on -/
def HoldB (w : World) (base : Nat) (v : Value) (l : List UInt8) : Prop :=
  (v = .slice none 0 0 ∧ l = []) ∨ ∃ g cap cur, v = .slice (some ⟨g, 0, none⟩) l.length cap ∧ base ≤ g ∧ w.heap[g]? = some (.cells cur 5 (0, 0)) ∧ l.length ≤ cap ∧ cap ≤ maxLen ∧ cap ≤ cur.size ∧ cur.toList.take l.length = cellsB l
section
variable {w w' : World} {base : Nat} {v : Value} {l : List UInt8}
theorem HoldB.nil (w : World) (base : Nat) : HoldB w base (.slice none 0 0) [] := .inl ⟨rfl, rfl⟩
set_option maxRecDepth 100000 in
theorem HoldB.ofOwn (h : OwnB w base v l) : HoldB w base v l := by
  rcases h.2 with ⟨hv, h0⟩ | ⟨g, cap, cur, hv, hb, hh, hn, hm, hs, ht⟩
  · exact .inl ⟨hv, List.eq_nil_of_length_eq_zero h0⟩
  · rw [flat_cellsB, Nat.mul_one] at ht
    exact .inr ⟨g, cap, cur, hv, hb, hh, hn, hm, by omega, ht⟩
set_option maxRecDepth 100000 in
theorem HoldB.form (h : HoldB w base v l) : (v = .slice none 0 0 ∧ l = []) ∨ ∃ g cap, v = .slice (some ⟨g, 0, none⟩) l.length cap ∧ base ≤ g ∧ g < w.heap.size ∧ l.length ≤ cap := by
  rcases h with h | ⟨g, cap, cur, hv, hb, hh, hn, _⟩
  · exact .inl h
  · exact .inr ⟨g, cap, hv, hb, (Array.getElem?_eq_some_iff.1 hh).1, hn⟩
set_option maxRecDepth 100000 in
theorem HoldB.low (h : HoldB w base v l) {i : Nat} (hi : v.ownBlock = some i) : base ≤ i ∧ i < w.heap.size := by
  rcases h.form with ⟨rfl, _⟩ | ⟨g, cap, rfl, hb, hl, _⟩
  · cases hi
  · simp only [Value.ownBlock, Option.some.injEq] at hi
    subst hi
    exact ⟨hb, hl⟩
set_option maxRecDepth 100000 in
theorem HoldB.cells {g : Nat} {cur : Array Value} (hh : w.heap[g]? = some (.cells cur 5 (0, 0))) (ht : cur.toList.take l.length = cellsB l) (j : Nat) (u : Value) (hu : (cellsB l)[j]? = some u) : w.cell? ((⟨g, 0, none⟩ : Addr).add j) = some u := by
  have hadd : (⟨g, 0, none⟩ : Addr).add j = ⟨g, 0 + j, none⟩ := by unfold Addr.add; split <;> simp_all
  rw [hadd, Nat.zero_add]
  simp only [World.cell?, hh]
  rw [← ht, List.getElem?_take] at hu
  split at hu
  · simpa using hu
  · cases hu
set_option maxRecDepth 100000 in
theorem HoldB.rdB (h : HoldB w base v l) : RdB w w.heap.size v l := by
  rcases h with ⟨rfl, rfl⟩ | ⟨g, cap, cur, rfl, hb, hh, hn, hm, hs, ht⟩
  · exact Rd.nil _ _
  · refine ⟨_, cap, rfl, hn, fun i hi => ⟨g, 0, rfl, (Array.getElem?_eq_some_iff.1 hh).1, fun j u hu => ?_⟩⟩
    match j, hu with
    | 0, hu =>
      simp only [byteEnc, List.getElem?_cons_zero, Option.some.injEq] at hu
      subst hu
      have := HoldB.cells hh ht i _ (cellsB_get l i hi)
      have hadd : (⟨g, 0, none⟩ : Addr).add i = ⟨g, 0 + i, none⟩ := by unfold Addr.add; split <;> simp_all
      rw [hadd] at this
      simpa using this
    | j + 1, hu => simp [byteEnc] at hu
theorem HoldB.mv {D : Nat → Prop} (h : HoldB w base v l) (hm : Mv D w w') (hn : ∀ g, v.ownBlock = some g → ¬ D g) : HoldB w' base v l := by
  rcases h with h | ⟨g, cap, cur, rfl, hb, hh, r⟩
  · exact .inl h
  · exact .inr ⟨g, cap, cur, rfl, hb, (hm.block g (Array.getElem?_eq_some_iff.1 hh).1 (hn g rfl)).trans hh, r⟩
theorem HoldB.alloc (h : HoldB w base v l) (o : Obj) : HoldB (w.alloc o) base v l := h.mv ((Mv.refl (fun _ => False) w).alloc o) (fun _ _ h => h)
set_option maxRecDepth 100000 in
theorem HoldB.apart {g : Nat} {t : TypeId} {cs : List Value} (h : HoldB w base v l) (hg : Whole w g t cs) (hne : 5 ≠ t) : v.ownBlock ≠ some g := by
  rcases h with ⟨rfl, _⟩ | ⟨g', cap, cur, rfl, hb, hh, r⟩
  · simp [Value.ownBlock]
  · intro he
    simp only [Value.ownBlock, Option.some.injEq] at he
    subst he
    unfold Whole at hg
    rw [hg] at hh
    injection hh with hh
    injection hh with _ ht
    exact hne ht.symm
/-- the first n of them, with nothing behind -/
theorem HoldB.cut {A : Option Addr} {m c : Nat} (h : HoldB w base (.slice A m c) l) (n : Nat) (hn : n ≤ l.length) : HoldB w base (.slice A n n) (l.take n) := by
  rcases h with ⟨hv, rfl⟩ | ⟨g, cap, cur, hv, hb, hh, h1, h2, h3, h4⟩
  · injection hv with h1 _ _
    subst h1
    obtain rfl : n = 0 := by simpa using hn
    exact .inl ⟨rfl, rfl⟩
  · injection hv with e1 _ _
    subst e1
    refine .inr ⟨g, n, cur, by simp [Nat.min_eq_left hn], hb, hh, by simp; omega, by omega, by omega, ?_⟩
    rw [List.length_take, Nat.min_eq_left hn, show cellsB (l.take n) = (cellsB l).take n by simp [cellsB], ← h4, List.take_take, Nat.min_eq_left hn]
/-- one of them turned -/
theorem HoldB.set {g m c : Nat} (h : HoldB w base (.slice (some ⟨g, 0, none⟩) m c) l) (i : Nat) (hi : i < l.length) (x : UInt8) : HoldB (w.setCell ⟨g, i, none⟩ (.int .u8 (x.toNat : Int))) base (.slice (some ⟨g, 0, none⟩) m c) (l.set i x) := by
  rcases h with ⟨hv, _⟩ | ⟨g', cap, cur, hv, hb, hh, h1, h2, h3, h4⟩
  · cases hv
  · injection hv with e1 e2 e3
    injection e1 with e1
    injection e1 with e1
    subst e1 e2 e3
    have hs : i < cur.size := by omega
    refine .inr ⟨g, c, cur.set! i (.int .u8 (x.toNat : Int)), by simp, hb, ?_, by simpa using h1, h2, by simpa using h3, ?_⟩
    · simp [World.setCell, Array.getElem?_modify, hh]
    · rw [List.length_set, cellsB_set, ← h4]
      simp [List.take_set]
end

section
variable {ops : Array Oper} {rest : List Oper} {o : Oper} {a : Act} {Q : Exit → Act → World → Prop} {w : World}
/-- the row is the same, or a new one, or none -/
def NewRow (w : World) (o o' : Option Nat) : Prop := ∀ g, o' = some g → o = some g ∨ w.heap.size ≤ g
theorem NewRow.refl (w : World) (o : Option Nat) : NewRow w o o := fun _ h => .inl h
theorem NewRow.out {w : World} {o o' : Option Nat} (h : NewRow w o o') {r : Nat} (hr : r < w.heap.size) (hn : o ≠ some r) : o' ≠ some r := by
  intro he
  rcases h r he with h1 | h1
  · exact hn h1
  · omega
theorem NewRow.low {w : World} {base : Nat} {o o' : Option Nat} (h : NewRow w o o') (hb : base ≤ w.heap.size) (hl : ∀ g, o = some g → base ≤ g) : ∀ g, o' = some g → base ≤ g := by
  intro g he
  rcases h g he with h1 | h1
  · exact hl g h1
  · omega
theorem NewRow.trans {w w' : World} {o o' o2 : Option Nat} (h : NewRow w o o') (h2 : NewRow w' o' o2) (hs : w.heap.size ≤ w'.heap.size) : NewRow w o o2 := by
  intro g he
  rcases h2 g he with h1 | h1
  · exact h g h1
  · exact .inr (Nat.le_trans hs h1)
set_option maxRecDepth 100000 in
theorem run_append_hold (w : World) (base B : Nat) (ty : TypeId) (v v2 : Value) (l p : List UInt8) (ho : HoldB w base v l) (hp : RdB w B v2 p) (hlen : l.length + p.length ≤ 225179981368000) (hb : base ≤ w.heap.size) :
    ∃ A' c' w', (Builtin.append_ #[41, 41] ty #[v, v2]).run Tryz.prog w = .ok (.slice A' (l ++ p).length c') w' ∧ HoldB w' base (.slice A' (l ++ p).length c') (l ++ p) ∧ w.grownBy w' v.ownBlock ∧ NewRow w v.ownBlock (Value.ownBlock (.slice A' (l ++ p).length c')) := by
  obtain ⟨i0, hi, hz0, hz1, hz2⟩ := info_parts info_u8
  obtain ⟨A2, c2, rfl, hc2, hcell⟩ := hp.at
  have hself : w.grownBy w v.ownBlock := ⟨rfl, rfl, rfl, Nat.le_refl _, fun _ _ _ => rfl⟩
  rcases hpn : p with _ | ⟨x, r⟩
  · -- nothing is appended
    have hform : ∃ A c, v = .slice A l.length c ∧ l.length ≤ c := by
      rcases ho.form with ⟨rfl, rfl⟩ | ⟨g, cap, rfl, _, _, hn⟩
      · exact ⟨none, 0, rfl, Nat.le_refl _⟩
      · exact ⟨_, cap, rfl, hn⟩
    obtain ⟨A, c, rfl, hn⟩ := hform
    subst hpn
    refine ⟨A, c, w, ?_, by simpa using ho, hself, fun _ h => .inl (by simpa using h)⟩
    cases A2 with
    | none => simp [Builtin.append_, run_underlying Tryz.underlying41, sizeOf, typeInfo, hi, Builtin.lenOf, Builtin.firstCells, hn, storeCells]; cases A <;> simp_all
    | some a2 => simp [Builtin.append_, run_underlying Tryz.underlying41, sizeOf, typeInfo, hi, Builtin.lenOf, Builtin.firstCells, hn, storeCells, loadCells, loadCellsFrom]; cases A <;> simp_all
  · obtain ⟨b, o', hA, _, _⟩ := hcell 0 (by rw [hpn]; simp)
    rw [← hpn]
    have hpos : 0 < p.length := by rw [hpn]; simp
    subst hA
    have hnews : ∀ j u, (cellsB p)[j]? = some u → w.cell? ((⟨b, o', none⟩ : Addr).add j) = some u := by
      intro j u hu
      have hj : j < p.length := by
        rcases Nat.lt_or_ge j p.length with h' | h'
        · exact h'
        · rw [List.getElem?_eq_none (by rw [cellsB_len]; exact h')] at hu; cases hu
      obtain ⟨b2, o2, hA2, _, h2⟩ := hcell j hj
      simp only [Option.some.injEq, Addr.mk.injEq, and_true] at hA2
      obtain ⟨rfl, rfl⟩ := hA2
      rw [cellsB_get p j hj] at hu
      simp only [Option.some.injEq] at hu
      subst hu
      have hadd : (⟨b, o', none⟩ : Addr).add j = ⟨b, o' + j, none⟩ := by unfold Addr.add; split <;> simp_all
      rw [hadd]
      exact h2
    have hpl := cellsB_len p
    have hll : (l ++ p).length = l.length + p.length := by simp
    have e63 : maxLen = 9223372036854775807 := rfl
    rcases ho with ⟨rfl, rfl⟩ | ⟨g, cap, cur, rfl, hbg, hh, hn, hm, hs, ht⟩
    · have hr := run_append_nil (P := Tryz.prog) w 41 ty 5 i0 _ Tryz.underlying41 hi hz0 ⟨b, o', none⟩ p.length c2 (cellsB p) (by rw [hz1, hpl, Nat.mul_one]) hnews hpos (by simp at hlen; omega) (by rw [hz2]; simp at hlen; omega)
      have hge := grownCap_ge w p.length 0 5
      have hgm := grownCap_le_maxLen w p.length 0 5 (by unfold maxLen; simp at hlen; omega)
      simp only [List.nil_append]
      refine ⟨_, _, _, hr, .inr ⟨w.heap.size, _, _, rfl, hb, heap_alloc_new w.drew _, hge, hgm, ?_, ?_⟩, ⟨rfl, rfl, rfl, by simp, fun k hk _ => heap_alloc_old w.drew _ hk⟩, fun g hg => .inr (by injection hg with hg; simp only at hg; omega)⟩
      · have hz : (Value.int IntKind.u8 0).cells.size = 1 := rfl
        simp only [Array.size_append, List.size_toArray, size_zeroCells, hz, hpl]
        omega
      · simp only [Array.toList_append]
        exact List.take_left' hpl
    · by_cases hroom : l.length + p.length ≤ cap
      · have hr := run_append_room (P := Tryz.prog) w 41 ty 5 i0 Tryz.underlying41 hi g l.length cap cur hh ⟨b, o', none⟩ p.length c2 (cellsB p) (by rw [hz1, hpl, Nat.mul_one]) hnews (cellsB_one p) hroom (by rw [hz1, hpl]; omega)
        rw [← hll] at hr
        refine ⟨_, _, _, hr, .inr ⟨g, cap, _, rfl, hbg, setRow_heap w g cur _ _ _ hh, by rw [hll]; exact hroom, hm, ?_, ?_⟩, ⟨rfl, rfl, rfl, by simp, fun k _ hk => setRow_other w g k _ (fun e => hk (by simp [Value.ownBlock, e]))⟩, fun _ h => .inl h⟩
        · simp only [List.size_toArray, List.length_append, List.length_take, List.length_drop, Array.length_toList, hpl, hz1]
          omega
        · rw [hz1, Nat.mul_one, ht, cellsB_append, hll]
          exact List.take_left' (by rw [List.length_append, cellsB_len, hpl])
      · have hr := run_append_grow (P := Tryz.prog) w 41 ty 5 i0 _ Tryz.underlying41 hi hz0 ⟨g, 0, none⟩ l.length cap (cellsB l) (by rw [hz1, cellsB_len, Nat.mul_one]) (HoldB.cells hh ht) ⟨b, o', none⟩ p.length c2 (cellsB p) (by rw [hz1, hpl, Nat.mul_one]) hnews (by omega) (by omega) (growslice_fits_wide (by omega) (by rw [hz2]; omega))
        have hge := grownCap_ge w (l.length + p.length) cap 5
        have hgm := grownCap_le_maxLen w (l.length + p.length) cap 5 (by unfold maxLen; omega)
        rw [← hll] at hr
        refine ⟨_, _, _, hr, .inr ⟨w.heap.size, _, _, rfl, hb, heap_alloc_new w.drew _, by rw [hll]; exact hge, by rw [hll]; exact hgm, ?_, ?_⟩, ⟨rfl, rfl, rfl, by simp, fun k hk _ => heap_alloc_old w.drew _ hk⟩, fun g hg => .inr (by injection hg with hg; simp only at hg; omega)⟩
        · have hz : (Value.int IntKind.u8 0).cells.size = 1 := rfl
          simp only [Array.size_append, List.size_toArray, size_zeroCells, hz, hpl, cellsB_len]
          omega
        · simp only [Array.toList_append, cellsB_append]
          exact List.take_left' (by rw [List.length_append, cellsB_len, hpl, hll])

set_option maxRecDepth 100000 in
/-- bytes appended to such a slice -/
theorem wpList_addH (hgd : Region.wanted o (yielded ops a.tmps) = true) (s x : Operand)
    (ho : o.op = .call { callee := .builtin .append, args := #[s, x], argTypes := #[41, 41] })
    (base : Nat) (v : Value) (l : List UInt8) (hs : a.eval s = v) (hown : HoldB w base v l) (B : Nat) (v2 : Value) (p : List UInt8) (hx : a.eval x = v2) (hp : RdB w B v2 p)
    (hlen : l.length + p.length ≤ 225179981368000) (hbase : base ≤ w.heap.size)
    (h : ∀ A' c' w', Hid (HoldB w' base (.slice A' (l ++ p).length c') (l ++ p)) → Hid (w.grownBy w' v.ownBlock) → Hid (NewRow w v.ownBlock (Value.ownBlock (.slice A' (l ++ p).length c'))) → wpList Tryz.prog ops Q rest (a.put o.dst (.slice A' (l ++ p).length c')) w') : wpList Tryz.prog ops Q (o :: rest) a w := by
  refine BigFrame.wpList_want hgd fun K hK => ?_
  obtain ⟨A', c', w', hr, h2, h3, h4⟩ := run_append_hold w base B o.type v v2 l p hown hp hlen hbase
  unfold Oper.wp execOp
  simp only [ho, resolve, invoke, builtin, Sem.run_bind, Sem.run_pure, Result.andThen_ok, List.map_toArray, List.map_cons, List.map_nil, hs, hx, hr]
  exact hK _ _ (h A' c' w' (Lib.hid h2) (Lib.hid h3) (Lib.hid h4))
end
end Go.Proofs.YtmigninibdecmaaGreat

namespace Go.Proofs.YtmigninibdecmaaGreat
open Go.RowKit

section
variable {α : Type} {enc : α → List Value} {k : Nat} {e : TypeId}
/-- cells below block B, in no block of G -/
def RdG (enc : α → List Value) (k : Nat) (w : World) (B : Nat) (G : Nat → Prop) (v : Value) (l : List α) : Prop :=
  ∃ A c, v = .slice A l.length c ∧ l.length ≤ c ∧ ∀ i (_ : i < l.length), ∃ b o, A = some ⟨b, o, none⟩ ∧ b < B ∧ ¬ G b ∧ ∀ j u, (enc l[i])[j]? = some u → w.cell? ⟨b, o + i * k + j, none⟩ = some u
variable {w w' : World} {B B' : Nat} {G G' : Nat → Prop} {v : Value} {l : List α}
theorem RdG.rd (h : RdG enc k w B G v l) : Rd enc k w B v l := by
  obtain ⟨A, c, rfl, hc, hi⟩ := h
  refine ⟨A, c, rfl, hc, fun i hs => ?_⟩
  obtain ⟨b, o, hA, hb, _, h1⟩ := hi i hs
  exact ⟨b, o, hA, hb, h1⟩
theorem RdG.of (h : Rd enc k w B v l) (hG : ∀ b, b < B → ¬ G b) : RdG enc k w B G v l := by
  obtain ⟨A, c, rfl, hc, hi⟩ := h
  refine ⟨A, c, rfl, hc, fun i hs => ?_⟩
  obtain ⟨b, o, hA, hb, h1⟩ := hi i hs
  exact ⟨b, o, hA, hb, hG b hb, h1⟩
theorem RdG.mv {D : Nat → Prop} (h : RdG enc k w B G v l) (hm : Mv D w w') (hB : B ≤ w.heap.size) (hD : ∀ b, b < B → D b → G b) : RdG enc k w' B G v l := by
  obtain ⟨A, c, rfl, hc, hi⟩ := h
  refine ⟨A, c, rfl, hc, fun i hs => ?_⟩
  obtain ⟨b, o, hA, hb, hg, h1⟩ := hi i hs
  exact ⟨b, o, hA, hb, hg, fun j u hu => by rw [World.cell?_of_block (w := w) (hm.block b (by omega) (fun h => hg (hD b hb h)))]; exact h1 j u hu⟩
theorem RdG.mono (h : RdG enc k w B G v l) (hB : B ≤ B') (hG : ∀ b, b < B → G' b → G b) : RdG enc k w B' G' v l := by
  obtain ⟨A, c, rfl, hc, hi⟩ := h
  refine ⟨A, c, rfl, hc, fun i hs => ?_⟩
  obtain ⟨b, o, hA, hb, hg, h1⟩ := hi i hs
  exact ⟨b, o, hA, by omega, fun h => hg (hG b hb h), h1⟩
theorem RdG.none_ (w : World) (B : Nat) (G : Nat → Prop) (A : Option Addr) (c : Nat) : RdG enc k w B G (.slice A 0 c) [] := ⟨A, c, rfl, Nat.zero_le _, fun i hi => by simp at hi⟩
theorem RdG.or {G1 G2 : Nat → Prop} (h : RdG enc k w B G1 v l) (h2 : RdG enc k w B G2 v l) : RdG enc k w B (fun i => G1 i ∨ G2 i) v l := by
  obtain ⟨A, c, rfl, hc, hi⟩ := h
  obtain ⟨A2, c2, ee, hc2, hi2⟩ := h2
  injection ee with e1 _ e3
  subst e1 e3
  refine ⟨A, c, rfl, hc, fun i hs => ?_⟩
  obtain ⟨b, o, hA, hb, hg, h1⟩ := hi i hs
  obtain ⟨b2, o2, hA2, _, hg2, _⟩ := hi2 i hs
  rw [hA] at hA2
  injection hA2 with hA2
  injection hA2 with e4
  subst e4
  exact ⟨b, o, hA, hb, fun h => h.elim hg hg2, h1⟩
/-- what is owned from base on -/
theorem RdG.own {base : Nat} (hk : ∀ x, (enc x).length = k) (h : Own enc k e w base v l) (hG : ∀ b, base ≤ b → b < w.heap.size → v.ownBlock = some b → ¬ G b) : RdG enc k w w.heap.size G v l := by
  obtain ⟨A, c, hv, hc, hi⟩ := Own.rd hk h
  refine ⟨A, c, hv, hc, fun i hs => ?_⟩
  obtain ⟨b, o, hA, hb, h1⟩ := hi i hs
  refine ⟨b, o, hA, hb, ?_, h1⟩
  rcases h.form with ⟨_, e0⟩ | ⟨g, cap, ee, hg, _, _⟩
  · rw [e0] at hs; simp at hs
  · rw [hv, hA] at ee
    injection ee with ee _ _
    injection ee with ee
    injection ee with ee _ _
    subst ee
    exact hG b hg hb (by rw [hv, hA]; rfl)
/-- those from n on -/
theorem RdG.drop {A : Option Addr} {c m : Nat} (h : RdG enc k w B G (.slice A m c) l) (n c' : Nat) (hn : n ≤ l.length) (hc' : l.length - n ≤ c') (A' : Option Addr) (hA' : n < l.length → A' = A.map (·.add (n * k))) :
    RdG enc k w B G (.slice A' (l.length - n) c') (l.drop n) := by
  obtain ⟨A0, c0, hv, hc, hi⟩ := h
  injection hv with h1 h2 h3
  subst h1 h3
  refine ⟨A', c', by simp, by simpa using hc', fun i hs => ?_⟩
  have hs' : n + i < l.length := by simp at hs; omega
  obtain ⟨b, o, hA, hb, hg, h1⟩ := hi (n + i) hs'
  refine ⟨b, o + n * k, ?_, hb, hg, fun j u hu => ?_⟩
  · rw [hA' (by omega), hA]
    simp only [Option.map_some, Option.some.injEq]
    unfold Addr.add
    split
    · rename_i hz; rw [hz]; rfl
    · rfl
  · have := h1 j u (by simpa using hu)
    rwa [show o + (n + i) * k + j = o + n * k + i * k + j by rw [Nat.add_mul]; omega] at this
end
end Go.Proofs.YtmigninibdecmaaGreat
namespace Go.Proofs.YtmigninibdecmaaGreat
open Go.RowKit

section
variable {α : Type} {enc : α → List Value} {k : Nat} {P : Program}
theorem run_append_new (w : World) (base : Nat) (t ty e : TypeId) (i : TypeInfo) (z : Value) (size bytes : Nat) (ht : P.underlying t = some (.slice e)) (hi : P.info? e = some i) (hz : i.zero = some z)
    (hsize : i.size = size) (hby : i.bytes = bytes) (hzs : z.cells.size = size) (hsz : 0 < size)
    (v : Value) (n : Nat) (xs : List Value) (hown : w.ownsRow base e size v n xs)
    (a : Addr) (m c : Nat) (news : List Value) (hl : news.length = m * size) (hnews : ∀ j u, news[j]? = some u → w.cell? (a.add j) = some u) (h1 : ∀ u ∈ news, u.oneCell' = true)
    (h63 : n + m ≤ maxLen) (hbytes : ((n + m) + (n + m) / 4 + 192) * bytes ≤ 281474976710656) (v' : Value) (w' : World) (hrun : (Builtin.append_ #[t, t] ty #[v, .slice (some a) m c]).run P w = .ok v' w') : NewRow w v.ownBlock v'.ownBlock := by
  subst hsize
  subst hby
  have hsmall : n + m ≤ 9223372036854775807 := by simp only [maxLen] at h63; omega
  rcases hown.2 with ⟨rfl, rfl⟩ | ⟨g, cap, cur, rfl, hbg, hg, hnc, hcm, hcs, htake⟩
  · by_cases hm : m = 0
    · subst hm
      have hn : news = [] := List.eq_nil_of_length_eq_zero (by simpa using hl)
      subst hn
      have hr : (Builtin.append_ #[t, t] ty #[.slice none 0 0, .slice (some a) 0 c]).run P w = .ok (.slice none 0 0) w := by
        simp [Builtin.append_, run_underlying ht, sizeOf, typeInfo, hi, Builtin.lenOf, Builtin.firstCells, loadCells, loadCellsFrom]
      rw [hr] at hrun
      injection hrun with h1 h2
      subst h1
      exact NewRow.refl _ _
    · have hr := run_append_nil (P := P) w t ty e i z ht hi hz a m c news hl hnews (by omega) (by omega) (by have hb := hbytes; simp only [Nat.zero_add] at hb; exact Nat.le_trans (Nat.mul_le_mul_right _ (by omega)) hb)
      rw [hr] at hrun
      injection hrun with h1 h2
      subst h1
      intro g hg
      injection hg with hg
      exact .inr (by simp only at hg; omega)
  · by_cases hroom : n + m ≤ cap
    · have hfit : n * i.size + news.length ≤ cur.size := by rw [hl, hcs, ← Nat.add_mul]; exact Nat.mul_le_mul_right _ hroom
      have hr := run_append_room (P := P) w t ty e i ht hi g n cap cur hg a m c news hl hnews h1 hroom hfit
      rw [hr] at hrun
      injection hrun with h1 h2
      subst h1
      exact fun _ h => .inl h
    · have holds : ∀ j u, xs[j]? = some u → w.cell? ((⟨g, 0, none⟩ : Addr).add j) = some u := hown.cells (g := g) rfl
      have hr := run_append_grow (P := P) w t ty e i z ht hi hz ⟨g, 0, none⟩ n cap xs hown.1 holds a m c news hl hnews (by omega) (by omega) (growslice_fits_wide (by omega) hbytes)
      rw [hr] at hrun
      injection hrun with h1 h2
      subst h1
      intro g2 hg2
      injection hg2 with hg2
      exact .inr (by simp only at hg2; omega)

/-- append to a slice of the call's own; its block is the old one or a new one -/
theorem wp_addAnyN (t e : TypeId) (bytes : Nat) (i0 : TypeInfo) (z : Value) (ht : P.underlying t = some (.slice e)) (hi : P.info? e = some i0) (hz0 : i0.zero = some z) (hz1 : i0.size = k) (hz2 : i0.bytes = bytes) (hzs : z.cells.size = k) (hk0 : 0 < k)
    (hk : ∀ x, (enc x).length = k) (hone : ∀ x, ∀ u ∈ enc x, u.oneCell' = true) {o : Oper} {a : Act} {K : Act → World → Prop} {Q : Exit → Act → World → Prop} {w : World} (s x : Operand)
    (ho : o.op = .call { callee := .builtin .append, args := #[s, x], argTypes := #[t, t] })
    (base : Nat) (v : Value) (l : List α) (hs : a.eval s = v) (hown : Own enc k e w base v l) (B : Nat) (v2 : Value) (p : List α) (hx : a.eval x = v2) (hp : Rd enc k w B v2 p)
    (h63 : l.length + p.length ≤ maxLen) (hbytes : ((l.length + p.length) + (l.length + p.length) / 4 + 192) * bytes ≤ 281474976710656) (hbase : base ≤ w.heap.size)
    (h : ∀ A' c' w', Own enc k e w' base (.slice A' (l ++ p).length c') (l ++ p) → w.grownBy w' v.ownBlock → NewRow w v.ownBlock (Value.ownBlock (.slice A' (l ++ p).length c')) → K (a.put o.dst (.slice A' (l ++ p).length c')) w') : o.wp P a w K Q := by
  obtain ⟨A, c, rfl, hc, hi2⟩ := hp
  have main : ∃ v' w', (Builtin.append_ #[t, t] o.type #[v, .slice A p.length c]).run P w = .ok v' w' ∧ w'.ownsRow base e k v' (l ++ p).length (flatG enc (l ++ p)) ∧ w.grownBy w' v.ownBlock ∧ NewRow w v.ownBlock v'.ownBlock := by
    cases A with
    | none =>
      have hp0 : p = [] := by
        cases p with
        | nil => rfl
        | cons y r =>
          obtain ⟨b, o', hA, _⟩ := hi2 0 (by simp)
          cases hA
      subst hp0
      refine ⟨v, w, ?_, by rw [List.append_nil]; exact hown, ⟨rfl, rfl, rfl, Nat.le_refl _, fun _ _ _ => rfl⟩, NewRow.refl _ _⟩
      rcases hown.2 with ⟨rfl, _⟩ | ⟨g, cap, cur, rfl, _, _, hnc, _⟩
      · simp [Builtin.append_, run_underlying ht, sizeOf, typeInfo, hi, Builtin.lenOf, Builtin.firstCells]
      · simp [Builtin.append_, run_underlying ht, sizeOf, typeInfo, hi, Builtin.lenOf, Builtin.firstCells, hnc, storeCells]
    | some ad =>
      have hcells : ∀ j u, (flatG enc p)[j]? = some u → w.cell? (ad.add j) = some u := by
        intro j u hu
        have hjl : j < p.length * k := by
          rcases Nat.lt_or_ge j (p.length * k) with h' | h'
          · exact h'
          · rw [List.getElem?_eq_none (by rw [flatG_length hk]; exact h')] at hu; cases hu
        have hil : j / k < p.length := by rw [Nat.div_lt_iff_lt_mul hk0]; exact hjl
        obtain ⟨b, o', hA, _, h1⟩ := hi2 (j / k) hil
        have hm : j % k < k := Nat.mod_lt _ hk0
        have e1 : j / k * k + j % k = j := Nat.div_add_mod' j k
        have hg := flatG_get hk p (j / k) hil (j % k) hm
        rw [e1, hu] at hg
        have := h1 (j % k) u hg.symm
        injection hA with hA
        rw [hA]
        have hadd : (⟨b, o', none⟩ : Addr).add j = ⟨b, o' + j, none⟩ := by unfold Addr.add; split <;> simp_all
        rw [hadd, ← this]
        congr 2
        omega
      obtain ⟨v', w', hrun, h2, h3, _⟩ := run_append_own_wide (P := P) w base t o.type e i0 z k bytes ht hi hz0 hz1 hz2 hzs hk0 v l.length (flatG enc l) hown ad p.length c (flatG enc p) (flatG_length hk p) hcells
        (fun u hu => by obtain ⟨y, _, hy⟩ := List.mem_flatMap.1 hu; exact hone y u hy) h63 hbytes hbase
      have h9 := run_append_new (P := P) w base t o.type e i0 z k bytes ht hi hz0 hz1 hz2 hzs hk0 v l.length (flatG enc l) hown ad p.length c (flatG enc p) (flatG_length hk p) hcells
        (fun u hu => by obtain ⟨y, _, hy⟩ := List.mem_flatMap.1 hu; exact hone y u hy) h63 hbytes v' w' hrun
      exact ⟨v', w', hrun, by rw [List.length_append, flatG_append]; exact h2, h3, h9⟩
  obtain ⟨v', w', hrun, h2, h3, h9⟩ := main
  have h4 : Own enc k e w' base v' (l ++ p) := h2
  have hv : ∃ A' c', v' = .slice A' (l ++ p).length c' := by
    rcases h4.form with ⟨hv, h0⟩ | ⟨g, cap, hv, _⟩
    · exact ⟨none, 0, by rw [h0]; exact hv⟩
    · exact ⟨_, _, hv⟩
  obtain ⟨A', c', rfl⟩ := hv
  unfold Oper.wp execOp
  simp only [ho, resolve, invoke, builtin, Sem.run_bind, Sem.run_pure, Result.andThen_ok, List.map_toArray, List.map_cons, List.map_nil, hs, hx, hrun]
  exact h A' c' w' h4 h3 h9

end
end Go.Proofs.YtmigninibdecmaaGreat
namespace Go.Proofs.YtmigninibdecmaaGreat
open Go.RowKit

/-- a batch and where its changes are -/
structure BtV where
  t : Bat
  A : Option Addr
  c : Nat
def BtV.v (x : BtV) : Value := .slice x.A x.t.chgs.length x.c
def encBt (x : BtV) : List Value := [.int .i64 x.t.prev, .int .i64 x.t.version, .int .i64 x.t.known, x.v]
theorem encBt_len (x : BtV) : (encBt x).length = 4 := rfl
theorem encBt_one (x : BtV) : ∀ u ∈ encBt x, u.oneCell' = true := by
  intro u hu
  simp only [encBt, List.mem_cons, List.not_mem_nil, or_false] at hu
  rcases hu with rfl | rfl | rfl | rfl <;> rfl
set_option maxRecDepth 100000 in
theorem info_bat : (Tryz.prog.info? 38).map (fun i => (i.zero, i.size, i.bytes)) = some (some (.agg #[.int .i64 0, .int .i64 0, .int .i64 0, .slice none 0 0]), 4, 48) := by kernel_rfl
abbrev OwnBt (w : World) (base : Nat) (v : Value) (l : List BtV) : Prop := Own encBt 4 38 w base v l
/-- batches that are read; neither they nor their changes lie in G -/
structure RdBts (w : World) (B : Nat) (G : Nat → Prop) (v : Value) (l : List BtV) : Prop where
  row : RdG encBt 4 w B G v l
  parts : ∀ x ∈ l, RdG encC 3 w B G x.v x.t.chgs
section
variable {w w' : World} {B B' : Nat} {G G' : Nat → Prop} {v : Value} {l : List BtV}
theorem RdBts.mv {D : Nat → Prop} (h : RdBts w B G v l) (hm : Mv D w w') (hB : B ≤ w.heap.size) (hD : ∀ b, b < B → D b → G b) : RdBts w' B G v l := ⟨h.row.mv hm hB hD, fun x hx => (h.parts x hx).mv hm hB hD⟩
theorem RdBts.mono (h : RdBts w B G v l) (hB : B ≤ B') (hG : ∀ b, b < B → G' b → G b) : RdBts w B' G' v l := ⟨h.row.mono hB hG, fun x hx => (h.parts x hx).mono hB hG⟩
theorem RdBts.next (h : RdBts w w.heap.size G v l) (hb : Below w.heap.size w w') (hG : ∀ b, b < w.heap.size → G' b → G b) : RdBts w' w'.heap.size G' v l :=
  (h.mv (Mv.of_new hb G) (Nat.le_refl _) (fun _ _ h => h)).mono hb.size hG
theorem RdBts.nil (w : World) (B : Nat) (G : Nat → Prop) (A : Option Addr) (c : Nat) : RdBts w B G (.slice A 0 c) [] := ⟨RdG.none_ _ _ _ _ _, fun x hx => by cases hx⟩
theorem RdBts.at (h : RdBts w B G v l) : ∃ A c, v = .slice A l.length c ∧ l.length ≤ c ∧ ∀ i (_ : i < l.length), ∃ b o, A = some ⟨b, o, none⟩ ∧ b < B ∧ ¬ G b ∧
    ∀ W : World, W.heap[b]? = w.heap[b]? → W.cell? ⟨b, o + i * 4, none⟩ = some (.int .i64 l[i].t.prev) ∧ W.cell? ⟨b, o + i * 4 + 1, none⟩ = some (.int .i64 l[i].t.version) ∧ W.cell? ⟨b, o + i * 4 + 2, none⟩ = some (.int .i64 l[i].t.known) ∧ W.cell? ⟨b, o + i * 4 + 3, none⟩ = some l[i].v := by
  obtain ⟨A, c, hv, hc, hi⟩ := h.row
  refine ⟨A, c, hv, hc, fun i hs => ?_⟩
  obtain ⟨b, o, hA, hB, hg, h1⟩ := hi i hs
  exact ⟨b, o, hA, hB, hg, fun W hW => ⟨(World.cell?_of_block hW).trans (h1 0 _ rfl), (World.cell?_of_block hW).trans (h1 1 _ rfl), (World.cell?_of_block hW).trans (h1 2 _ rfl), (World.cell?_of_block hW).trans (h1 3 _ rfl)⟩⟩
end
/-- a cell of one block is written -/
theorem Mv.one {w w' : World} {g : Nat} (h : Mv (fun i => i = g) w w') (j : Nat) (u : Value) : Mv (fun i => i = g) w (w'.setCell ⟨g, j, none⟩ u) := h.setCell (p := ⟨g, j, none⟩) (fun _ => rfl) u
/-- a batch without changes -/
def plainV (p v k : Int) : BtV := ⟨⟨p, v, k, []⟩, none, 0⟩
theorem OwnBt.mv {D : Nat → Prop} {w w' : World} {base : Nat} {v : Value} {l : List BtV} (h : OwnBt w base v l) (hm : Mv D w w') (hn : ∀ g, v.ownBlock = some g → ¬ D g) : OwnBt w' base v l := by
  refine ⟨h.1, ?_⟩
  rcases h.2 with h2 | ⟨g, cap, cur, rfl, hb, hh, r⟩
  · exact .inl h2
  · exact .inr ⟨g, cap, cur, rfl, hb, (hm.block g (Array.getElem?_eq_some_iff.1 hh).1 (hn g rfl)).trans hh, r⟩
theorem OwnBt.bts {w : World} {base : Nat} {G : Nat → Prop} {v : Value} {l : List BtV} (h : OwnBt w base v l) (hn : ∀ g, v.ownBlock = some g → ¬ G g) (hp : ∀ x ∈ l, RdG encC 3 w w.heap.size G x.v x.t.chgs) : RdBts w w.heap.size G v l :=
  ⟨RdG.own encBt_len h (fun b _ _ e => hn b e), hp⟩
/-- one batch in a slice of its own -/
theorem Rd.one (w : World) (x : BtV) (t : TypeId) : Rd encBt 4 (w.alloc (.cells (encBt x).toArray t)) (w.heap.size + 1) (.slice (some ⟨w.heap.size, 0, none⟩) 1 1) [x] := by
  refine ⟨some ⟨w.heap.size, 0, none⟩, 1, rfl, Nat.le_refl _, fun i hi => ⟨w.heap.size, 0, rfl, Nat.lt_succ_self _, fun j u hu => ?_⟩⟩
  obtain rfl : i = 0 := by simpa using hi
  simp only [List.getElem_cons_zero] at hu
  simp only [Nat.zero_mul, Nat.zero_add]
  exact (Whole.fresh w t (encBt x)).cell j _ hu
section
variable {ops : Array Oper} {rest : List Oper} {o : Oper} {a : Act} {Q : Exit → Act → World → Prop} {w : World}
/-- append of batches to a slice of the call's own; its block is the old one or a new one -/
theorem wpList_addT (hgd : Region.wanted o (yielded ops a.tmps) = true) (s x : Operand)
    (ho : o.op = .call { callee := .builtin .append, args := #[s, x], argTypes := #[31, 31] })
    (base : Nat) (v : Value) (l : List BtV) (hs : a.eval s = v) (hown : OwnBt w base v l) (B : Nat) (v2 : Value) (p : List BtV) (hx : a.eval x = v2) (hp : Rd encBt 4 w B v2 p)
    (hlen : l.length + p.length ≤ 4000000000000) (hbase : base ≤ w.heap.size)
    (h : ∀ A' c' w', Hid (OwnBt w' base (.slice A' (l ++ p).length c') (l ++ p)) → Hid (w.grownBy w' v.ownBlock) → Hid (NewRow w v.ownBlock (Value.ownBlock (.slice A' (l ++ p).length c'))) → wpList Tryz.prog ops Q rest (a.put o.dst (.slice A' (l ++ p).length c')) w') : wpList Tryz.prog ops Q (o :: rest) a w := by
  obtain ⟨i0, hi, hz0, hz1, hz2⟩ := info_parts info_bat
  refine BigFrame.wpList_want hgd fun K hK => ?_
  refine wp_addAnyN (enc := encBt) (k := 4) 31 38 48 i0 _ Tryz.underlying31 hi hz0 hz1 hz2 rfl (by decide) encBt_len encBt_one s x ho base v l hs hown B v2 p hx hp (by unfold maxLen; omega) (by omega) hbase fun A' c' w' h1 h2 h3 => ?_
  exact hK _ _ (h A' c' w' (Lib.hid h1) (Lib.hid h2) (Lib.hid h3))
end
end Go.Proofs.YtmigninibdecmaaGreat
namespace Go.Proofs.YtmigninibdecmaaGreat
open Go.RowKit

/-- batches in a slice of one's own from base on; no block of theirs is the chest's -/
structure RowP (w : World) (base : Nat) (G : Nat → Prop) (v : Value) (l : List BtV) : Prop where
  own : OwnBt w base v l
  no : ∀ g, v.ownBlock = some g → ¬ G g
  parts : ∀ x ∈ l, RdG encC 3 w w.heap.size (fun i => G i ∨ v.ownBlock = some i) x.v x.t.chgs
section
variable {w w' : World} {base : Nat} {G G' : Nat → Prop} {v : Value} {l : List BtV}
theorem RowP.moved (h : RowP w base G v l) (hG : ∀ i, G' i → G i ∨ w.heap.size ≤ i) (hm : Mv G w w') : RowP w' base G' v l :=
  ⟨h.own.mv hm h.no, fun g hg hG2 => by
    rcases hG g hG2 with k | k
    · exact h.no g hg k
    · have := (Own.low h.own hg).2; omega, fun x hx => ((h.parts x hx).mv hm (Nat.le_refl _) (fun _ _ k => .inl k)).mono hm.size (fun b hb k => by
    rcases k with k | k
    · rcases hG b k with k2 | k2
      · exact .inl k2
      · omega
    · exact .inr k)⟩
theorem RowP.new (h : RowP w base G v l) (hb : Below w.heap.size w w') : RowP w' base G v l := h.moved (fun _ k => .inl k) (Mv.of_new hb G)
theorem RowP.bts (h : RowP w base G v l) : RdBts w w.heap.size G v l := h.own.bts h.no (fun x hx => (h.parts x hx).mono (Nat.le_refl _) (fun _ _ k => .inl k))
theorem RowP.rd (h : RowP w base G v l) : RdBts w w.heap.size (fun _ => False) v l := h.bts.mono (Nat.le_refl _) (fun _ _ k => k.elim)
/-- some are appended -/
theorem RowP.add (h : RowP w base G v l) {p : List BtV} {v' : Value} (ho : OwnBt w' base v' (l ++ p)) (hg : w.grownBy w' v.ownBlock) (hn : NewRow w v.ownBlock v'.ownBlock) (hG : ∀ i, G i → i < w.heap.size)
    (hp : ∀ x ∈ p, RdG encC 3 w w.heap.size (fun i => G i ∨ v.ownBlock = some i) x.v x.t.chgs) : RowP w' base G v' (l ++ p) := by
  refine ⟨ho, fun g he hG2 => ?_, fun x hx => ?_⟩
  · rcases hn g he with k | k
    · exact h.no g k hG2
    · have := hG g hG2; omega
  · have hx2 : RdG encC 3 w w.heap.size (fun i => G i ∨ v.ownBlock = some i) x.v x.t.chgs := by
      rcases List.mem_append.1 hx with hx | hx
      · exact h.parts x hx
      · exact hp x hx
    refine (hx2.mv (Mv.of_grown hg) (Nat.le_refl _) (fun _ _ k => .inr k.symm)).mono hg.size (fun b hb k => ?_)
    rcases k with k | k
    · exact .inl k
    · rcases hn b k with k2 | k2
      · exact .inr k2
      · omega
end
theorem RdBts.drop {w : World} {B : Nat} {G : Nat → Prop} {A : Option Addr} {m c : Nat} {l : List BtV} (h : RdBts w B G (.slice A m c) l) (n c' : Nat) (hn : n ≤ l.length) (hc' : l.length - n ≤ c') (A' : Option Addr) (hA' : n < l.length → A' = A.map (·.add (n * 4))) : RdBts w B G (.slice A' (l.length - n) c') (l.drop n) :=
  ⟨h.row.drop n c' hn hc' A' hA', fun x hx => h.parts x (List.mem_of_mem_drop hx)⟩
end Go.Proofs.YtmigninibdecmaaGreat
namespace Go.Proofs.YtmigninibdecmaaGreat
open Go.RowKit

/-- one row of bytes: its value and what it holds -/
structure Row where
  a : Option Addr
  c : Nat
  l : List UInt8
def Row.v (r : Row) : Value := .slice r.a r.l.length r.c
def encR (r : Row) : List Value := [r.v]
theorem encR_one (r : Row) : ∀ u ∈ encR r, u.oneCell' = true := by
  intro u hu
  simp only [encR, List.mem_cons, List.not_mem_nil, or_false] at hu
  subst hu
  rfl
theorem encR_len (r : Row) : (encR r).length = 1 := rfl
set_option maxRecDepth 100000 in
theorem info_row : (Tryz.prog.info? 41).map (fun i => (i.zero, i.size, i.bytes)) = some (some (.slice none 0 0), 1, 24) := by kernel_rfl
abbrev OwnR (w : World) (base : Nat) (v : Value) (l : List Row) : Prop := Own encR 1 41 w base v l

/-- bytes below block B, in no block of G -/
def RdBG (w : World) (B : Nat) (G : Nat → Prop) (v : Value) (l : List UInt8) : Prop :=
  ∃ A c, v = .slice A l.length c ∧ l.length ≤ c ∧ ∀ i (_ : i < l.length), ∃ b o, A = some ⟨b, o, none⟩ ∧ b < B ∧ ¬ G b ∧ w.cell? ⟨b, o + i, none⟩ = some (.int .u8 (l[i].toNat : Int))
section
variable {w w' : World} {B B' : Nat} {G G' : Nat → Prop} {v : Value} {l : List UInt8}
theorem RdBG.rdB (h : RdBG w B G v l) : RdB w B v l := by
  obtain ⟨A, c, rfl, hc, hi⟩ := h
  refine ⟨A, c, rfl, hc, fun i hs => ?_⟩
  obtain ⟨b, o, hA, hb, _, h1⟩ := hi i hs
  refine ⟨b, o, hA, hb, fun j u hu => ?_⟩
  match j, hu with
  | 0, hu =>
    simp only [byteEnc, List.getElem?_cons_zero, Option.some.injEq] at hu
    subst hu
    simpa using h1
  | j + 1, hu => simp [byteEnc] at hu
theorem RdBG.of (h : RdB w B v l) (hG : ∀ b, b < B → ¬ G b) : RdBG w B G v l := by
  obtain ⟨A, c, rfl, hc, hi⟩ := h.at
  exact ⟨A, c, rfl, hc, fun i hs => by obtain ⟨b, o, hA, hb, h1⟩ := hi i hs; exact ⟨b, o, hA, hb, hG b hb, h1⟩⟩
theorem RdBG.mv {D : Nat → Prop} (h : RdBG w B G v l) (hm : Mv D w w') (hB : B ≤ w.heap.size) (hD : ∀ b, b < B → D b → G b) : RdBG w' B G v l := by
  obtain ⟨A, c, rfl, hc, hi⟩ := h
  refine ⟨A, c, rfl, hc, fun i hs => ?_⟩
  obtain ⟨b, o, hA, hb, hg, h1⟩ := hi i hs
  exact ⟨b, o, hA, hb, hg, by rw [World.cell?_of_block (w := w) (hm.block b (by omega) (fun h => hg (hD b hb h)))]; exact h1⟩
theorem RdBG.mono (h : RdBG w B G v l) (hB : B ≤ B') (hG : ∀ b, b < B → G' b → G b) : RdBG w B' G' v l := by
  obtain ⟨A, c, rfl, hc, hi⟩ := h
  refine ⟨A, c, rfl, hc, fun i hs => ?_⟩
  obtain ⟨b, o, hA, hb, hg, h1⟩ := hi i hs
  exact ⟨b, o, hA, by omega, fun h => hg (hG b hb h), h1⟩
end
/-- rows, each of their blocks below block B and none of G -/
def RdRs (w : World) (B : Nat) (G : Nat → Prop) (v : Value) (rows : List Row) : Prop :=
  (∃ A c, v = .slice A rows.length c ∧ rows.length ≤ c ∧ ∀ i (_ : i < rows.length), ∃ b o, A = some ⟨b, o, none⟩ ∧ b < B ∧ ¬ G b ∧ w.cell? ⟨b, o + i, none⟩ = some rows[i].v) ∧ ∀ r ∈ rows, RdBG w B G r.v r.l
def texts (rows : List Row) : List (List UInt8) := rows.map (·.l)
section
variable {w w' : World} {B B' : Nat} {G G' : Nat → Prop} {v : Value} {rows : List Row}
theorem RdRs.mv {D : Nat → Prop} (h : RdRs w B G v rows) (hm : Mv D w w') (hB : B ≤ w.heap.size) (hD : ∀ b, b < B → D b → G b) : RdRs w' B G v rows := by
  obtain ⟨⟨A, c, rfl, hc, hi⟩, hr⟩ := h
  refine ⟨⟨A, c, rfl, hc, fun i hs => ?_⟩, fun r hx => (hr r hx).mv hm hB hD⟩
  obtain ⟨b, o, hA, hb, hg, h1⟩ := hi i hs
  exact ⟨b, o, hA, hb, hg, by rw [World.cell?_of_block (w := w) (hm.block b (by omega) (fun h => hg (hD b hb h)))]; exact h1⟩
theorem RdRs.mono (h : RdRs w B G v rows) (hB : B ≤ B') (hG : ∀ b, b < B → G' b → G b) : RdRs w B' G' v rows := by
  obtain ⟨⟨A, c, rfl, hc, hi⟩, hr⟩ := h
  refine ⟨⟨A, c, rfl, hc, fun i hs => ?_⟩, fun r hx => (hr r hx).mono hB hG⟩
  obtain ⟨b, o, hA, hb, hg, h1⟩ := hi i hs
  exact ⟨b, o, hA, by omega, fun h => hg (hG b hb h), h1⟩
theorem RdRs.rd (h : RdRs w B G v rows) : Rd encR 1 w B v rows := by
  obtain ⟨⟨A, c, rfl, hc, hi⟩, _⟩ := h
  refine ⟨A, c, rfl, hc, fun i hs => ?_⟩
  obtain ⟨b, o, hA, hb, _, h1⟩ := hi i hs
  refine ⟨b, o, hA, hb, fun j u hu => ?_⟩
  match j, hu with
  | 0, hu =>
    simp only [encR, List.getElem?_cons_zero, Option.some.injEq] at hu
    subst hu
    simpa using h1
  | j + 1, hu => simp [encR] at hu
theorem RdRs.row (h : RdRs w B G v rows) (i : Nat) (hi : i < rows.length) : RdBG w B G rows[i].v rows[i].l := h.2 _ (List.getElem_mem hi)
/-- the first n of them -/
theorem RdRs.take {A : Option Addr} {m c : Nat} (h : RdRs w B G (.slice A m c) rows) (n : Nat) (hn : n ≤ rows.length) : RdRs w B G (.slice A n c) (rows.take n) := by
  obtain ⟨⟨A', c', hv, hc, hi⟩, hr⟩ := h
  injection hv with h1 h2 h3
  subst h1 h3
  refine ⟨⟨A, c, by simp [Nat.min_eq_left hn], by simp; omega, fun i hs => ?_⟩, fun r hx => hr r (List.mem_of_mem_take hx)⟩
  have hs' : i < rows.length := by simp at hs; omega
  obtain ⟨b, o, hA, hb, hg, h1⟩ := hi i hs'
  exact ⟨b, o, hA, hb, hg, by simpa using h1⟩
theorem RdRs.nil (w : World) (B : Nat) (G : Nat → Prop) (A : Option Addr) (c : Nat) : RdRs w B G (.slice A 0 c) [] := ⟨⟨A, c, rfl, Nat.zero_le _, fun i hi => by simp at hi⟩, fun r hr => by simp at hr⟩
/-- what is owned, of rows that are read -/
theorem OwnR.rs {base : Nat} (h : OwnR w base v rows) (hG : ∀ b, base ≤ b → ¬ G b) (hr : ∀ r ∈ rows, RdBG w w.heap.size G r.v r.l) : RdRs w w.heap.size G v rows := by
  refine ⟨?_, hr⟩
  obtain ⟨A, c, hv, hc, hi⟩ := Own.rd encR_len h
  refine ⟨A, c, hv, hc, fun i hs => ?_⟩
  obtain ⟨b, o, hA, hb, h1⟩ := hi i hs
  have hge : base ≤ b := by
    rcases h.form with ⟨e, e0⟩ | ⟨g, cap, e, hg, _, _⟩
    · rw [e0] at hs; simp at hs
    · rw [hv, hA] at e
      injection e with e _ _
      injection e with e
      injection e with e _ _
      omega
  exact ⟨b, o, hA, hb, hG b hge, by have := h1 0 _ rfl; simpa using this⟩
end
/-- a call that moves the blocks of G leaves rows that lie elsewhere -/
theorem RdRs.shift {w w' : World} {B : Nat} {G G' : Nat → Prop} {v : Value} {rows : List Row} (h : RdRs w B G v rows) (hB : B ≤ w.heap.size) (hm : Mv G w w') (hG : ∀ i, G' i → G i ∨ w.heap.size ≤ i) : RdRs w' w'.heap.size G' v rows :=
  (h.mv hm hB (fun _ _ h => h)).mono (Nat.le_trans hB hm.size) (fun b hb hg => by rcases hG b hg with h1 | h1; exact h1; omega)
section
variable {ops : Array Oper} {rest : List Oper} {o : Oper} {a : Act} {Q : Exit → Act → World → Prop} {w : World}
set_option maxRecDepth 100000 in
/-- the same in a region that draws -/
theorem wp_addR {K : Act → World → Prop} (s x : Operand)
    (ho : o.op = .call { callee := .builtin .append, args := #[s, x], argTypes := #[62, 62] })
    (base : Nat) (v : Value) (l : List Row) (hs : a.eval s = v) (hown : OwnR w base v l) (B : Nat) (v2 : Value) (p : List Row) (hx : a.eval x = v2) (hp : Rd encR 1 w B v2 p)
    (hlen : l.length + p.length ≤ 9000000000000) (hbase : base ≤ w.heap.size)
    (h : ∀ A' c' w', OwnR w' base (.slice A' (l ++ p).length c') (l ++ p) → w.grownBy w' v.ownBlock → K (a.put o.dst (.slice A' (l ++ p).length c')) w') : o.wp Tryz.prog a w K Q := by
  obtain ⟨i0, hi, hz0, hz1, hz2⟩ := info_parts info_row
  exact wp_addAny (enc := encR) (k := 1) 62 41 24 i0 _ Tryz.underlying62 hi hz0 hz1 hz2 rfl (by decide) encR_len encR_one s x ho base v l hs hown B v2 p hx hp (by unfold maxLen; omega) (by omega) hbase fun A' c' w' h1 h2 => h A' c' w' h1 h2
set_option maxRecDepth 100000 in
/-- rows appended to a slice of rows of the call's own -/
theorem wpList_addR (hgd : Region.wanted o (yielded ops a.tmps) = true) (s x : Operand)
    (ho : o.op = .call { callee := .builtin .append, args := #[s, x], argTypes := #[62, 62] })
    (base : Nat) (v : Value) (l : List Row) (hs : a.eval s = v) (hown : OwnR w base v l) (B : Nat) (v2 : Value) (p : List Row) (hx : a.eval x = v2) (hp : Rd encR 1 w B v2 p)
    (hlen : l.length + p.length ≤ 9000000000000) (hbase : base ≤ w.heap.size)
    (h : ∀ A' c' w', Hid (OwnR w' base (.slice A' (l ++ p).length c') (l ++ p)) → Hid (w.grownBy w' v.ownBlock) → wpList Tryz.prog ops Q rest (a.put o.dst (.slice A' (l ++ p).length c')) w') : wpList Tryz.prog ops Q (o :: rest) a w := by
  obtain ⟨i0, hi, hz0, hz1, hz2⟩ := info_parts info_row
  refine BigFrame.wpList_want hgd fun K hK => ?_
  refine wp_addAny (enc := encR) (k := 1) 62 41 24 i0 _ Tryz.underlying62 hi hz0 hz1 hz2 rfl (by decide) encR_len encR_one s x ho base v l hs hown B v2 p hx hp (by unfold maxLen; omega) (by omega) hbase fun A' c' w' h1 h2 => ?_
  exact hK _ _ (h A' c' w' (Lib.hid h1) (Lib.hid h2))
end
end Go.Proofs.YtmigninibdecmaaGreat
namespace Go.Proofs.YtmigninibdecmaaGreat
open Go.RowKit

section
variable {w w' : World} {base base2 : Nat} {v v2 : Value} {l : List UInt8} {rows : List Row}
set_option maxRecDepth 100000 in
/-- bytes and rows of bytes do not lie in one block -/
theorem HoldB.ne_rows (h : HoldB w base v l) (h2 : OwnR w base2 v2 rows) : ∀ g, v.ownBlock = some g → v2.ownBlock ≠ some g := by
  intro g' hg' hg2
  rcases h with ⟨rfl, _⟩ | ⟨g, cap, cur, rfl, hb, hh, r⟩
  · simp [Value.ownBlock] at hg'
  · rcases h2.2 with ⟨rfl, _⟩ | ⟨g2, cap2, cur2, rfl, _, hh2, _⟩
    · simp [Value.ownBlock] at hg2
    · simp only [Value.ownBlock, Option.some.injEq] at hg' hg2
      subst hg' hg2
      rw [hh] at hh2
      injection hh2 with hh2
      injection hh2 with _ ht
      revert ht
      decide
set_option maxRecDepth 100000 in
theorem HoldB.lower (h : HoldB w base v l) (hb : base2 ≤ base) : HoldB w base2 v l := by
  rcases h with h | ⟨g, cap, cur, hv, hg, r⟩
  · exact .inl h
  · exact .inr ⟨g, cap, cur, hv, Nat.le_trans hb hg, r⟩
theorem HoldB.below {B : Nat} (h : HoldB w base v l) (hb : Below B w w') (hB : w.heap.size ≤ B) : HoldB w' base v l :=
  h.mv (D := fun i => B ≤ i) (Mv.of_below hb) (fun g hg hd => by have := (h.low hg).2; omega)
/-- rows that are held, each in its own block or none -/
def HoldRs (w : World) (base : Nat) (rows : List Row) : Prop := ∀ r ∈ rows, HoldB w base r.v r.l
theorem HoldRs.mv {D : Nat → Prop} (h : HoldRs w base rows) (hm : Mv D w w') (hn : ∀ r ∈ rows, ∀ g, r.v.ownBlock = some g → ¬ D g) : HoldRs w' base rows := fun r hr => (h r hr).mv hm (hn r hr)
theorem HoldRs.lower (h : HoldRs w base rows) (hb : base2 ≤ base) : HoldRs w base2 rows := fun r hr => (h r hr).lower hb
theorem HoldRs.below {B : Nat} (h : HoldRs w base rows) (hb : Below B w w') (hB : w.heap.size ≤ B) : HoldRs w' base rows := fun r hr => (h r hr).below hb hB
/-- what grows a slice of rows leaves the bytes -/
theorem HoldRs.grown {rows2 : List Row} (h : HoldRs w base rows) (ho : OwnR w base2 v2 rows2) (hg : w.grownBy w' v2.ownBlock) : HoldRs w' base rows :=
  h.mv (Mv.of_grown hg) (fun r hr g hg2 hd => (h r hr).ne_rows ho g hg2 hd.symm)
theorem HoldRs.nil (w : World) (base : Nat) : HoldRs w base [] := fun r hr => by simp at hr
theorem HoldRs.append {rows2 : List Row} (h : HoldRs w base rows) (h2 : HoldRs w base rows2) : HoldRs w base (rows ++ rows2) := fun r hr => by
  rcases List.mem_append.1 hr with hr | hr
  · exact h r hr
  · exact h2 r hr
theorem HoldB.rdBG {G : Nat → Prop} (h : HoldB w base v l) (hG : ∀ g, v.ownBlock = some g → ¬ G g) : RdBG w w.heap.size G v l := by
  obtain ⟨A, c, hv, hc, hi⟩ := h.rdB.at
  refine ⟨A, c, hv, hc, fun i hs => ?_⟩
  obtain ⟨b, o, hA, hb, h1⟩ := hi i hs
  exact ⟨b, o, hA, hb, hG b (by rw [hv, hA]; rfl), h1⟩
/-- rows of the call's own, read -/
theorem OwnR.held {G : Nat → Prop} (h : OwnR w base v rows) (hr : HoldRs w base2 rows) (h1 : ∀ g, v.ownBlock = some g → ¬ G g) (h2 : ∀ r ∈ rows, ∀ g, r.v.ownBlock = some g → ¬ G g) : RdRs w w.heap.size G v rows := by
  refine ⟨?_, fun r hx => (hr r hx).rdBG (h2 r hx)⟩
  obtain ⟨A, c, hv, hc, hi⟩ := Own.rd encR_len h
  refine ⟨A, c, hv, hc, fun i hs => ?_⟩
  obtain ⟨b, o, hA, hb, h3⟩ := hi i hs
  exact ⟨b, o, hA, hb, h1 b (by rw [hv, hA]; rfl), by have := h3 0 _ rfl; simpa using this⟩
theorem texts_append (a b : List Row) : texts (a ++ b) = texts a ++ texts b := by simp [texts]
end

set_option maxRecDepth 100000 in
/-- a literal of one row -/
theorem RdR.one (w : World) (r : Row) : Rd encR 1 (w.alloc (.cells #[r.v] 41)) (w.heap.size + 1) (.slice (some ⟨w.heap.size, 0, none⟩) 1 1) [r] := by
  refine ⟨_, 1, rfl, Nat.le_refl _, fun i hi => ⟨w.heap.size, 0, rfl, Nat.lt_succ_self _, fun j u hu => ?_⟩⟩
  obtain rfl : i = 0 := by simp at hi; omega
  match j, hu with
  | 0, hu =>
    simp only [encR, List.getElem_cons_zero, List.getElem?_cons_zero, Option.some.injEq] at hu
    subst hu
    exact World.cell?_alloc_at _ _ _ _ rfl
  | j + 1, hu => simp [encR] at hu

set_option maxHeartbeats 4000000 in
set_option maxRecDepth 100000 in
theorem bfresh_any (rows : List Row) (G : Nat → Prop) (v : Value) (w : World) (hv : RdRs w w.heap.size G v rows) (hl : rows.length ≤ 4000000) (hr : ∀ r ∈ rows, r.l.length ≤ 140737488351232) :
    Calls Tryz.prog 50 #[v] w fun e w' => ∃ A c n, e = .returned (.slice A n c) ∧ ∃ rows', n = rows'.length ∧ OwnR w' w.heap.size (.slice A n c) rows' ∧ HoldRs w' w.heap.size rows' ∧ texts rows' = texts rows ∧ Below w.heap.size w w' := by
  obtain ⟨A, c, rfl, hc, -⟩ := hv.1
  have HV := Lib.hid hv; clear hv
  have HR := Lib.hid hr; clear hr
  have hLl : (texts rows).length = rows.length := by simp [texts]
  have HLL := Lib.hid hLl; clear hLl
  go_enter Tryz.func50, Tryz.ntmps50
  go_wp2_with fail
  go_loopw [3, 8] (fun ov iv wr => ∃ (i : Nat) (A' : Option Addr) (c' n : Nat) (rows' : List Row), i ≤ rows.length ∧ iv = .int .i64 (i : Int) ∧ ov = .slice A' n c' ∧ n = rows'.length ∧ OwnR wr w.heap.size (.slice A' n c') rows' ∧ HoldRs wr w.heap.size rows' ∧ texts rows' = (texts rows).take i ∧ Below w.heap.size w wr) (fun _ iv _ => rows.length - (intOf iv).toNat)
  case atStart => exact ⟨0, _, _, 0, [], Nat.zero_le _, rfl, rfl, rfl, Own.nil _ _, HoldRs.nil _ _, rfl, Below.refl _ _⟩
  case round =>
    obtain ⟨i, A', c', n, rows', hi, rfl, rfl, hn, ho, hh, ht, hb⟩ := hrel
    have hbs := hb.size
    have hni : n = i := by
      have := congrArg List.length ht
      rw [List.length_take, HLL.out] at this
      rw [hn]; simp [texts] at this; omega
    by_cases hgo : i < rows.length
    · have h1 : (i : Int) < (rows.length : Int) := by omega
      have hrs := HV.out.mv (Mv.of_below hb) (Nat.le_refl _) (fun b h1 h2 => by omega)
      obtain ⟨⟨A0, c0, e0, -, hcell⟩, hrow⟩ := hrs
      injection e0 with e1 e2 e3
      subst e1 e3
      obtain ⟨b, o, rfl, hbl, -, q0⟩ := hcell i hgo
      have hrd := (hrow rows[i] (List.getElem_mem hgo)).rdB
      have hbig : rows[i].l.length ≤ 140737488351232 := HR.out _ (List.getElem_mem hgo)
      have hnext : (texts rows).take (i + 1) = (texts rows).take i ++ [rows[i].l] := by
        rw [List.take_add_one, List.getElem?_eq_getElem (by rw [HLL.out]; exact hgo)]
        simp [texts]
      have HNX := Lib.hid hnext
      clear hnext hcell hrow e2
      generalize rows[i] = r at q0 hrd hbig HNX
      obtain ⟨ra, rc, rl⟩ := r
      simp only [Row.v] at q0 hrd hbig HNX
      have HO := Lib.hid ho
      have HH := Lib.hid hh
      have HT := Lib.hid ht
      have HB := Lib.hid hb
      have HN := Lib.hid hn
      have HRD := Lib.hid hrd
      have HNI := Lib.hid hni
      clear ho hh ht hb hn hrd hni
      go_wp2_with (at_builtin; go_must (refine wpList_addBG rfl _ _ rfl wr.heap.size _ [] rfl (Own.nil _ _) w.heap.size _ rl rfl HRD.out (by simp only [List.length_nil]; omega) (Nat.le_refl _) ?_))
      intro A1 c1 w1 ho1 hg1
      have hho : HoldB w1 w.heap.size (.slice A1 rl.length c1) rl := (HoldB.ofOwn (show OwnB w1 wr.heap.size (.slice A1 rl.length c1) rl from ho1.out)).lower hbs
      have hB1 : Below wr.heap.size wr w1 := (Below.refl _ wr).grown hg1.out (Nat.le_refl _) (by simp [Value.ownBlock])
      have HO1 := Lib.hid (HO.out.below hB1 (Nat.le_refl _))
      have HH1 := Lib.hid (HH.out.below hB1 (Nat.le_refl _))
      have HHO := Lib.hid hho
      have HB1 := Lib.hid (HB.out.trans (hB1.mono hbs))
      have hbs1 := HB1.out.size
      clear hho hB1 hg1 ho1
      obtain ⟨w2, hw2⟩ : ∃ w2, w2 = w1.alloc (.cells #[.slice A1 rl.length c1] 41) := ⟨_, rfl⟩
      have hone : Rd encR 1 w2 (w1.heap.size + 1) (.slice (some ⟨w1.heap.size, 0, none⟩) 1 1) [⟨A1, c1, rl⟩] := by rw [hw2]; exact RdR.one w1 ⟨A1, c1, rl⟩
      have hB2 : Below w1.heap.size w1 w2 := by rw [hw2]; exact (Below.refl _ w1).alloc (Nat.le_refl _) _
      have HO2 := Lib.hid (HO1.out.below hB2 (Nat.le_refl _))
      have HH2 := Lib.hid (HH1.out.below hB2 (Nat.le_refl _))
      have HHO2 := Lib.hid (HHO.out.below hB2 (Nat.le_refl _))
      have HB2 := Lib.hid (HB1.out.trans (hB2.mono hbs1))
      have HONE := Lib.hid hone
      have HW2 := Lib.hid hw2
      clear hone hB2 hw2
      have hnl : rows'.length + 1 ≤ 9000000000000 := by have := HNI.out; have := HN.out; omega
      have hOO : OwnR w2 w.heap.size (.slice A' n c') rows' := HO2.out
      rw [HN.out] at hOO
      go_wp2_with (at_builtin; go_must (refine wpList_addR rfl _ _ rfl w.heap.size (.slice A' n c') rows' rfl ?x1 (w1.heap.size + 1) _ [⟨A1, c1, rl⟩] rfl ?x2 (by show _ + 1 ≤ _; exact hnl) ?x3 ?_))
      case x1 => rw [← HW2.out]; exact HO2.out
      case x2 => rw [← HW2.out]; exact HONE.out
      case x3 => have := HB2.out.size; rw [HW2.out] at this; exact this
      rw [← HW2.out]
      intro A3 c3 w3 ho3 hg3
      have HO3 := Lib.hid ho3.out
      have HH3 := Lib.hid ((HH2.out.append (show HoldRs w2 w.heap.size [⟨A1, c1, rl⟩] from fun r hr => by rw [List.mem_singleton.1 hr]; exact HHO2.out)).grown HO2.out hg3.out)
      have HB3 := Lib.hid (HO2.out.grown HB2.out hg3.out (Nat.le_refl _) HB2.out.size)
      have ht3 : texts (rows' ++ [⟨A1, c1, rl⟩]) = (texts rows).take (i + 1) := by rw [texts_append, HT.out, HNX.out]; rfl
      have HT3 := Lib.hid ht3
      clear ho3 hg3 ht3 hOO
      obtain ⟨n3, hn3⟩ : ∃ n3, n3 = rows'.length + 1 := ⟨_, rfl⟩
      rw [← hn3] at HO3 ⊢
      have HN3 := Lib.hid (show n3 = (rows' ++ [(⟨A1, c1, rl⟩ : Row)]).length by rw [hn3]; simp); clear hn3
      go_wp2_with fail
      go_roundw
      case rel => exact ⟨i + 1, A3, c3, n3, _, by omega, by go_num, rfl, HN3.out, HO3.out, HH3.out, HT3.out, HB3.out⟩
      case measure => simp [intOf]; omega
    · have h1 : ¬ (i : Int) < (rows.length : Int) := by omega
      have hie : (texts rows).take i = texts rows := List.take_of_length_le (by rw [HLL.out]; omega)
      rw [hie] at ht
      have HO := Lib.hid ho
      have HH := Lib.hid hh
      have HT := Lib.hid ht
      have HB := Lib.hid hb
      have HN := Lib.hid hn
      clear ho hh ht hb hn hie hni
      go_wp2_with fail
      go_ret
      exact ⟨A', c', n, rfl, rows', HN.out, HO.out, HH.out, HT.out, HB.out⟩
end Go.Proofs.YtmigninibdecmaaGreat

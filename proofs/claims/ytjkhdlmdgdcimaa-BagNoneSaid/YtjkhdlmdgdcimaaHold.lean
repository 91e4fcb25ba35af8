/- Bytes that may have been cut off ahead of their block's end; what moves and what stays. -/
import Derived.Test.YtjkhdlmdgdcimaaBlk
namespace Go.Proofs.Ytjkhdlmdgdcimaa
open Go.RowKit

/-- of the blocks that were there those of D alone have moved -/
structure Mv (D : Nat → Prop) (w w' : World) : Prop where
  os : w'.os = w.os
  tape : w'.tape = w.tape
  output : w'.output = w.output
  size : w.heap.size ≤ w'.heap.size
  block : ∀ i, i < w.heap.size → ¬ D i → w'.heap[i]? = w.heap[i]?
namespace Mv
variable {D D' : Nat → Prop} {w w' w2 : World}
theorem refl (D : Nat → Prop) (w : World) : Mv D w w := ⟨rfl, rfl, rfl, Nat.le_refl _, fun _ _ _ => rfl⟩
theorem mono (h : Mv D w w') (hD : ∀ i, i < w.heap.size → D i → D' i) : Mv D' w w' := ⟨h.os, h.tape, h.output, h.size, fun i hi hn => h.block i hi fun hd => hn (hD i hi hd)⟩
theorem trans (h : Mv D w w') (h2 : Mv D' w' w2) (hD : ∀ i, i < w.heap.size → D' i → D i) : Mv D w w2 :=
  ⟨h2.os.trans h.os, h2.tape.trans h.tape, h2.output.trans h.output, Nat.le_trans h.size h2.size, fun i hi hn => (h2.block i (Nat.lt_of_lt_of_le hi h.size) fun hd => hn (hD i hi hd)).trans (h.block i hi hn)⟩
theorem of_grown {row : Option Nat} (h : w.grownBy w' row) : Mv (fun i => some i = row) w w' := ⟨h.os, h.tape, h.output, h.size, fun i hi hn => h.block i hi hn⟩
theorem grown {row : Option Nat} (h : Mv D w w') (h2 : w'.grownBy w2 row) (hD : ∀ i, i < w.heap.size → some i = row → D i) : Mv D w w2 := h.trans (of_grown h2) hD
theorem alloc (h : Mv D w w') (o : Obj) : Mv D w (w'.alloc o) :=
  h.trans (D' := fun _ => False) ⟨rfl, rfl, rfl, by simp, fun i hi _ => Below.heap_alloc w' o i hi⟩ (fun _ _ h => h.elim)
theorem setCell (h : Mv D w w') {p : Addr} (hp : p.block < w.heap.size → D p.block) (u : Value) : Mv D w (w'.setCell p u) := by
  refine h.trans (D' := fun i => i = p.block) ⟨rfl, rfl, rfl, by simp, fun i hi hn => Below.heap_setCell w' p u i hn⟩ ?_
  rintro i hi rfl
  exact hp hi
theorem drew (h : Mv D w w') : Mv D w w'.drew := ⟨h.os, h.tape, h.output, h.size, h.block⟩
theorem below {B : Nat} (h : Mv D w w') (hB : B ≤ w.heap.size) (hD : ∀ i, D i → B ≤ i) : Below B w w' :=
  ⟨h.os, h.tape, h.output, h.size, fun k hk => h.block k (Nat.lt_of_lt_of_le hk hB) fun hd => by have := hD k hd; omega⟩
theorem of_below {B : Nat} (h : Below B w w') : Mv (fun i => B ≤ i) w w' := ⟨h.os, h.tape, h.output, h.size, fun i _ hn => h.block i (by omega)⟩
theorem of_new (h : Below w.heap.size w w') (D : Nat → Prop) : Mv D w w' := ⟨h.os, h.tape, h.output, h.size, fun i hi _ => h.block i hi⟩
theorem whole {g : Nat} {t : TypeId} {cs : List Value} (hg : Whole w g t cs) (h : Mv D w w') (hn : ¬ D g) : Whole w' g t cs := (h.block g hg.size hn).trans hg
end Mv

/-- a slice of bytes of the call's own; behind it its block may go on -/
def HoldB (w : World) (base : Nat) (v : Value) (l : List UInt8) : Prop :=
  (v = .slice none 0 0 ∧ l = []) ∨ ∃ g cap cur, v = .slice (some ⟨g, 0, none⟩) l.length cap ∧ base ≤ g ∧ w.heap[g]? = some (.cells cur 5 (0, 0)) ∧ l.length ≤ cap ∧ cap ≤ maxLen ∧ cap ≤ cur.size ∧ cur.toList.take l.length = cellsB l
section
variable {w w' : World} {base : Nat} {v : Value} {l : List UInt8}
theorem HoldB.nil (w : World) (base : Nat) : HoldB w base (.slice none 0 0) [] := .inl ⟨rfl, rfl⟩
set_option maxRecDepth 100000 in
theorem HoldB.ofOwn (h : OwnB w base v l) : HoldB w base v l := by
  rcases h.2 with ⟨hv, h0⟩ | ⟨g, cap, cur, hv, hb, hh, hn, hm, hs, ht⟩
  · exact .inl ⟨hv, List.eq_nil_of_length_eq_zero h0⟩
  · rw [flat_cellsB, Nat.mul_one] at ht
    exact .inr ⟨g, cap, cur, hv, hb, hh, hn, hm, by omega, ht⟩
set_option maxRecDepth 100000 in
theorem HoldB.form (h : HoldB w base v l) : (v = .slice none 0 0 ∧ l = []) ∨ ∃ g cap, v = .slice (some ⟨g, 0, none⟩) l.length cap ∧ base ≤ g ∧ g < w.heap.size ∧ l.length ≤ cap := by
  rcases h with h | ⟨g, cap, cur, hv, hb, hh, hn, _⟩
  · exact .inl h
  · exact .inr ⟨g, cap, hv, hb, (Array.getElem?_eq_some_iff.1 hh).1, hn⟩
set_option maxRecDepth 100000 in
theorem HoldB.low (h : HoldB w base v l) {i : Nat} (hi : v.ownBlock = some i) : base ≤ i ∧ i < w.heap.size := by
  rcases h.form with ⟨rfl, _⟩ | ⟨g, cap, rfl, hb, hl, _⟩
  · cases hi
  · simp only [Value.ownBlock, Option.some.injEq] at hi
    subst hi
    exact ⟨hb, hl⟩
set_option maxRecDepth 100000 in
theorem HoldB.cells {g : Nat} {cur : Array Value} (hh : w.heap[g]? = some (.cells cur 5 (0, 0))) (ht : cur.toList.take l.length = cellsB l) (j : Nat) (u : Value) (hu : (cellsB l)[j]? = some u) : w.cell? ((⟨g, 0, none⟩ : Addr).add j) = some u := by
  have hadd : (⟨g, 0, none⟩ : Addr).add j = ⟨g, 0 + j, none⟩ := by unfold Addr.add; split <;> simp_all
  rw [hadd, Nat.zero_add]
  simp only [World.cell?, hh]
  rw [← ht, List.getElem?_take] at hu
  split at hu
  · simpa using hu
  · cases hu
set_option maxRecDepth 100000 in
theorem HoldB.rdB (h : HoldB w base v l) : RdB w w.heap.size v l := by
  rcases h with ⟨rfl, rfl⟩ | ⟨g, cap, cur, rfl, hb, hh, hn, hm, hs, ht⟩
  · exact Rd.nil _ _
  · refine ⟨_, cap, rfl, hn, fun i hi => ⟨g, 0, rfl, (Array.getElem?_eq_some_iff.1 hh).1, fun j u hu => ?_⟩⟩
    match j, hu with
    | 0, hu =>
      simp only [byteEnc, List.getElem?_cons_zero, Option.some.injEq] at hu
      subst hu
      have := HoldB.cells hh ht i _ (cellsB_get l i hi)
      have hadd : (⟨g, 0, none⟩ : Addr).add i = ⟨g, 0 + i, none⟩ := by unfold Addr.add; split <;> simp_all
      rw [hadd] at this
      simpa using this
    | j + 1, hu => simp [byteEnc] at hu
theorem HoldB.mv {D : Nat → Prop} (h : HoldB w base v l) (hm : Mv D w w') (hn : ∀ g, v.ownBlock = some g → ¬ D g) : HoldB w' base v l := by
  rcases h with h | ⟨g, cap, cur, rfl, hb, hh, r⟩
  · exact .inl h
  · exact .inr ⟨g, cap, cur, rfl, hb, (hm.block g (Array.getElem?_eq_some_iff.1 hh).1 (hn g rfl)).trans hh, r⟩
theorem HoldB.alloc (h : HoldB w base v l) (o : Obj) : HoldB (w.alloc o) base v l := h.mv ((Mv.refl (fun _ => False) w).alloc o) (fun _ _ h => h)
set_option maxRecDepth 100000 in
theorem HoldB.apart {g : Nat} {t : TypeId} {cs : List Value} (h : HoldB w base v l) (hg : Whole w g t cs) (hne : 5 ≠ t) : v.ownBlock ≠ some g := by
  rcases h with ⟨rfl, _⟩ | ⟨g', cap, cur, rfl, hb, hh, r⟩
  · simp [Value.ownBlock]
  · intro he
    simp only [Value.ownBlock, Option.some.injEq] at he
    subst he
    unfold Whole at hg
    rw [hg] at hh
    injection hh with hh
    injection hh with _ ht
    exact hne ht.symm
/-- the first n of them, with nothing behind -/
theorem HoldB.cut {A : Option Addr} {m c : Nat} (h : HoldB w base (.slice A m c) l) (n : Nat) (hn : n ≤ l.length) : HoldB w base (.slice A n n) (l.take n) := by
  rcases h with ⟨hv, rfl⟩ | ⟨g, cap, cur, hv, hb, hh, h1, h2, h3, h4⟩
  · injection hv with h1 _ _
    subst h1
    obtain rfl : n = 0 := by simpa using hn
    exact .inl ⟨rfl, rfl⟩
  · injection hv with e1 _ _
    subst e1
    refine .inr ⟨g, n, cur, by simp [Nat.min_eq_left hn], hb, hh, by simp; omega, by omega, by omega, ?_⟩
    rw [List.length_take, Nat.min_eq_left hn, show cellsB (l.take n) = (cellsB l).take n by simp [cellsB], ← h4, List.take_take, Nat.min_eq_left hn]
/-- one of them turned -/
theorem HoldB.set {g m c : Nat} (h : HoldB w base (.slice (some ⟨g, 0, none⟩) m c) l) (i : Nat) (hi : i < l.length) (x : UInt8) : HoldB (w.setCell ⟨g, i, none⟩ (.int .u8 (x.toNat : Int))) base (.slice (some ⟨g, 0, none⟩) m c) (l.set i x) := by
  rcases h with ⟨hv, _⟩ | ⟨g', cap, cur, hv, hb, hh, h1, h2, h3, h4⟩
  · cases hv
  · injection hv with e1 e2 e3
    injection e1 with e1
    injection e1 with e1
    subst e1 e2 e3
    have hs : i < cur.size := by omega
    refine .inr ⟨g, c, cur.set! i (.int .u8 (x.toNat : Int)), by simp, hb, ?_, by simpa using h1, h2, by simpa using h3, ?_⟩
    · simp [World.setCell, Array.getElem?_modify, hh]
    · rw [List.length_set, cellsB_set, ← h4]
      simp [List.take_set]
end

section
variable {ops : Array Oper} {rest : List Oper} {o : Oper} {a : Act} {Q : Exit → Act → World → Prop} {w : World}
/-- the row is the same, or a new one, or none -/
def NewRow (w : World) (o o' : Option Nat) : Prop := ∀ g, o' = some g → o = some g ∨ w.heap.size ≤ g
theorem NewRow.refl (w : World) (o : Option Nat) : NewRow w o o := fun _ h => .inl h
theorem NewRow.out {w : World} {o o' : Option Nat} (h : NewRow w o o') {r : Nat} (hr : r < w.heap.size) (hn : o ≠ some r) : o' ≠ some r := by
  intro he
  rcases h r he with h1 | h1
  · exact hn h1
  · omega
theorem NewRow.low {w : World} {base : Nat} {o o' : Option Nat} (h : NewRow w o o') (hb : base ≤ w.heap.size) (hl : ∀ g, o = some g → base ≤ g) : ∀ g, o' = some g → base ≤ g := by
  intro g he
  rcases h g he with h1 | h1
  · exact hl g h1
  · omega
theorem NewRow.trans {w w' : World} {o o' o2 : Option Nat} (h : NewRow w o o') (h2 : NewRow w' o' o2) (hs : w.heap.size ≤ w'.heap.size) : NewRow w o o2 := by
  intro g he
  rcases h2 g he with h1 | h1
  · exact h g h1
  · exact .inr (Nat.le_trans hs h1)
set_option maxRecDepth 100000 in
theorem run_append_hold (w : World) (base B : Nat) (ty : TypeId) (v v2 : Value) (l p : List UInt8) (ho : HoldB w base v l) (hp : RdB w B v2 p) (hlen : l.length + p.length ≤ 225179981368000) (hb : base ≤ w.heap.size) :
    ∃ A' c' w', (Builtin.append_ #[32, 32] ty #[v, v2]).run Try.prog w = .ok (.slice A' (l ++ p).length c') w' ∧ HoldB w' base (.slice A' (l ++ p).length c') (l ++ p) ∧ w.grownBy w' v.ownBlock ∧ NewRow w v.ownBlock (Value.ownBlock (.slice A' (l ++ p).length c')) := by
  obtain ⟨i0, hi, hz0, hz1, hz2⟩ := info_parts info_u8
  obtain ⟨A2, c2, rfl, hc2, hcell⟩ := hp.at
  have hself : w.grownBy w v.ownBlock := ⟨rfl, rfl, rfl, Nat.le_refl _, fun _ _ _ => rfl⟩
  rcases hpn : p with _ | ⟨x, r⟩
  · -- nothing is appended
    have hform : ∃ A c, v = .slice A l.length c ∧ l.length ≤ c := by
      rcases ho.form with ⟨rfl, rfl⟩ | ⟨g, cap, rfl, _, _, hn⟩
      · exact ⟨none, 0, rfl, Nat.le_refl _⟩
      · exact ⟨_, cap, rfl, hn⟩
    obtain ⟨A, c, rfl, hn⟩ := hform
    subst hpn
    refine ⟨A, c, w, ?_, by simpa using ho, hself, fun _ h => .inl (by simpa using h)⟩
    cases A2 with
    | none => simp [Builtin.append_, run_underlying Try.underlying32, sizeOf, typeInfo, hi, Builtin.lenOf, Builtin.firstCells, hn, storeCells]; cases A <;> simp_all
    | some a2 => simp [Builtin.append_, run_underlying Try.underlying32, sizeOf, typeInfo, hi, Builtin.lenOf, Builtin.firstCells, hn, storeCells, loadCells, loadCellsFrom]; cases A <;> simp_all
  · obtain ⟨b, o', hA, _, _⟩ := hcell 0 (by rw [hpn]; simp)
    rw [← hpn]
    have hpos : 0 < p.length := by rw [hpn]; simp
    subst hA
    have hnews : ∀ j u, (cellsB p)[j]? = some u → w.cell? ((⟨b, o', none⟩ : Addr).add j) = some u := by
      intro j u hu
      have hj : j < p.length := by
        rcases Nat.lt_or_ge j p.length with h' | h'
        · exact h'
        · rw [List.getElem?_eq_none (by rw [cellsB_len]; exact h')] at hu; cases hu
      obtain ⟨b2, o2, hA2, _, h2⟩ := hcell j hj
      simp only [Option.some.injEq, Addr.mk.injEq, and_true] at hA2
      obtain ⟨rfl, rfl⟩ := hA2
      rw [cellsB_get p j hj] at hu
      simp only [Option.some.injEq] at hu
      subst hu
      have hadd : (⟨b, o', none⟩ : Addr).add j = ⟨b, o' + j, none⟩ := by unfold Addr.add; split <;> simp_all
      rw [hadd]
      exact h2
    have hpl := cellsB_len p
    have hll : (l ++ p).length = l.length + p.length := by simp
    have e63 : maxLen = 9223372036854775807 := rfl
    rcases ho with ⟨rfl, rfl⟩ | ⟨g, cap, cur, rfl, hbg, hh, hn, hm, hs, ht⟩
    · have hr := run_append_nil (P := Try.prog) w 32 ty 5 i0 _ Try.underlying32 hi hz0 ⟨b, o', none⟩ p.length c2 (cellsB p) (by rw [hz1, hpl, Nat.mul_one]) hnews hpos (by simp at hlen; omega) (by rw [hz2]; simp at hlen; omega)
      have hge := grownCap_ge w p.length 0 5
      have hgm := grownCap_le_maxLen w p.length 0 5 (by unfold maxLen; simp at hlen; omega)
      simp only [List.nil_append]
      refine ⟨_, _, _, hr, .inr ⟨w.heap.size, _, _, rfl, hb, heap_alloc_new w.drew _, hge, hgm, ?_, ?_⟩, ⟨rfl, rfl, rfl, by simp, fun k hk _ => heap_alloc_old w.drew _ hk⟩, fun g hg => .inr (by injection hg with hg; simp only at hg; omega)⟩
      · have hz : (Value.int IntKind.u8 0).cells.size = 1 := rfl
        simp only [Array.size_append, List.size_toArray, size_zeroCells, hz, hpl]
        omega
      · simp only [Array.toList_append]
        exact List.take_left' hpl
    · by_cases hroom : l.length + p.length ≤ cap
      · have hr := run_append_room (P := Try.prog) w 32 ty 5 i0 Try.underlying32 hi g l.length cap cur hh ⟨b, o', none⟩ p.length c2 (cellsB p) (by rw [hz1, hpl, Nat.mul_one]) hnews (cellsB_one p) hroom (by rw [hz1, hpl]; omega)
        rw [← hll] at hr
        refine ⟨_, _, _, hr, .inr ⟨g, cap, _, rfl, hbg, setRow_heap w g cur _ _ _ hh, by rw [hll]; exact hroom, hm, ?_, ?_⟩, ⟨rfl, rfl, rfl, by simp, fun k _ hk => setRow_other w g k _ (fun e => hk (by simp [Value.ownBlock, e]))⟩, fun _ h => .inl h⟩
        · simp only [List.size_toArray, List.length_append, List.length_take, List.length_drop, Array.length_toList, hpl, hz1]
          omega
        · rw [hz1, Nat.mul_one, ht, cellsB_append, hll]
          exact List.take_left' (by rw [List.length_append, cellsB_len, hpl])
      · have hr := run_append_grow (P := Try.prog) w 32 ty 5 i0 _ Try.underlying32 hi hz0 ⟨g, 0, none⟩ l.length cap (cellsB l) (by rw [hz1, cellsB_len, Nat.mul_one]) (HoldB.cells hh ht) ⟨b, o', none⟩ p.length c2 (cellsB p) (by rw [hz1, hpl, Nat.mul_one]) hnews (by omega) (by omega) (growslice_fits_wide (by omega) (by rw [hz2]; omega))
        have hge := grownCap_ge w (l.length + p.length) cap 5
        have hgm := grownCap_le_maxLen w (l.length + p.length) cap 5 (by unfold maxLen; omega)
        rw [← hll] at hr
        refine ⟨_, _, _, hr, .inr ⟨w.heap.size, _, _, rfl, hb, heap_alloc_new w.drew _, by rw [hll]; exact hge, by rw [hll]; exact hgm, ?_, ?_⟩, ⟨rfl, rfl, rfl, by simp, fun k hk _ => heap_alloc_old w.drew _ hk⟩, fun g hg => .inr (by injection hg with hg; simp only at hg; omega)⟩
        · have hz : (Value.int IntKind.u8 0).cells.size = 1 := rfl
          simp only [Array.size_append, List.size_toArray, size_zeroCells, hz, hpl, cellsB_len]
          omega
        · simp only [Array.toList_append, cellsB_append]
          exact List.take_left' (by rw [List.length_append, cellsB_len, hpl, hll])

set_option maxRecDepth 100000 in
/-- bytes appended to such a slice -/
theorem wpList_addH (hgd : Region.wanted o (yielded ops a.tmps) = true) (s x : Operand)
    (ho : o.op = .call { callee := .builtin .append, args := #[s, x], argTypes := #[32, 32] })
    (base : Nat) (v : Value) (l : List UInt8) (hs : a.eval s = v) (hown : HoldB w base v l) (B : Nat) (v2 : Value) (p : List UInt8) (hx : a.eval x = v2) (hp : RdB w B v2 p)
    (hlen : l.length + p.length ≤ 225179981368000) (hbase : base ≤ w.heap.size)
    (h : ∀ A' c' w', Hid (HoldB w' base (.slice A' (l ++ p).length c') (l ++ p)) → Hid (w.grownBy w' v.ownBlock) → Hid (NewRow w v.ownBlock (Value.ownBlock (.slice A' (l ++ p).length c'))) → wpList Try.prog ops Q rest (a.put o.dst (.slice A' (l ++ p).length c')) w') : wpList Try.prog ops Q (o :: rest) a w := by
  refine BigFrame.wpList_want hgd fun K hK => ?_
  obtain ⟨A', c', w', hr, h2, h3, h4⟩ := run_append_hold w base B o.type v v2 l p hown hp hlen hbase
  unfold Oper.wp execOp
  simp only [ho, resolve, invoke, builtin, Sem.run_bind, Sem.run_pure, Result.andThen_ok, List.map_toArray, List.map_cons, List.map_nil, hs, hx, hr]
  exact hK _ _ (h A' c' w' (Lib.hid h2) (Lib.hid h3) (Lib.hid h4))
end
end Go.Proofs.Ytjkhdlmdgdcimaa

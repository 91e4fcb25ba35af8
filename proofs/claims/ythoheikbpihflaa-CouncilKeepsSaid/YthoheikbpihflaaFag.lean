/- Bytes that may have been cut off ahead of their block's end; what moves and what stays. (For seats with bytes.) What moves and what stays: Hold has it. What a slice reads as, and which blocks it does not lie in: for whatever element type. The program's tape: what each of its calls leaves, told by the tape as a state. The program's tape: its calls. The program's tape: the calls that write. The program's tape: Sync, Replace. The program's tape: Crash. -/
import Derived.Test.YthoheikbpihflaaFac
import Derived.Test.YthoheikbpihflaaFaa
import Derived.Test.YthoheikbpihflaaFaf
import Derived.Test.YthoheikbpihflaaFab
namespace Go.Proofs.Ythoheikbpihflaa
open Go.RowKit

/-- of the blocks that were there those of D alone have moved -/
structure Mv (D : Nat → Prop) (w w' : World) : Prop where
  os : w'.os = w.os
  tape : w'.tape = w.tape
  output : w'.output = w.output
  size : w.heap.size ≤ w'.heap.size
  block : ∀ i, i < w.heap.size → ¬ D i → w'.heap[i]? = w.heap[i]?
namespace Mv
variable {D D' : Nat → Prop} {w w' w2 : World}
theorem refl (D : Nat → Prop) (w : World) : Mv D w w := ⟨rfl, rfl, rfl, Nat.le_refl _, fun _ _ _ => rfl⟩
theorem mono (h : Mv D w w') (hD : ∀ i, i < w.heap.size → D i → D' i) : Mv D' w w' := ⟨h.os, h.tape, h.output, h.size, fun i hi hn => h.block i hi fun hd => hn (hD i hi hd)⟩
theorem trans (h : Mv D w w') (h2 : Mv D' w' w2) (hD : ∀ i, i < w.heap.size → D' i → D i) : Mv D w w2 :=
  ⟨h2.os.trans h.os, h2.tape.trans h.tape, h2.output.trans h.output, Nat.le_trans h.size h2.size, fun i hi hn => (h2.block i (Nat.lt_of_lt_of_le hi h.size) fun hd => hn (hD i hi hd)).trans (h.block i hi hn)⟩
theorem of_grown {row : Option Nat} (h : w.grownBy w' row) : Mv (fun i => some i = row) w w' := ⟨h.os, h.tape, h.output, h.size, fun i hi hn => h.block i hi hn⟩
theorem grown {row : Option Nat} (h : Mv D w w') (h2 : w'.grownBy w2 row) (hD : ∀ i, i < w.heap.size → some i = row → D i) : Mv D w w2 := h.trans (of_grown h2) hD
theorem alloc (h : Mv D w w') (o : Obj) : Mv D w (w'.alloc o) :=
  h.trans (D' := fun _ => False) ⟨rfl, rfl, rfl, by simp, fun i hi _ => Below.heap_alloc w' o i hi⟩ (fun _ _ h => h.elim)
theorem setCell (h : Mv D w w') {p : Addr} (hp : p.block < w.heap.size → D p.block) (u : Value) : Mv D w (w'.setCell p u) := by
  refine h.trans (D' := fun i => i = p.block) ⟨rfl, rfl, rfl, by simp, fun i hi hn => Below.heap_setCell w' p u i hn⟩ ?_
  rintro i hi rfl
  exact hp hi
theorem drew (h : Mv D w w') : Mv D w w'.drew := ⟨h.os, h.tape, h.output, h.size, h.block⟩
theorem below {B : Nat} (h : Mv D w w') (hB : B ≤ w.heap.size) (hD : ∀ i, D i → B ≤ i) : Below B w w' :=
  ⟨h.os, h.tape, h.output, h.size, fun k hk => h.block k (Nat.lt_of_lt_of_le hk hB) fun hd => by have := hD k hd; omega⟩
theorem of_below {B : Nat} (h : Below B w w') : Mv (fun i => B ≤ i) w w' := ⟨h.os, h.tape, h.output, h.size, fun i _ hn => h.block i (by omega)⟩
theorem of_new (h : Below w.heap.size w w') (D : Nat → Prop) : Mv D w w' := ⟨h.os, h.tape, h.output, h.size, fun i hi _ => h.block i hi⟩
theorem whole {g : Nat} {t : TypeId} {cs : List Value} (hg : Whole w g t cs) (h : Mv D w w') (hn : ¬ D g) : Whole w' g t cs := (h.block g hg.size hn).trans hg
end Mv

/-- a slice of bytes of the call's own; behind it its block may go on -/
def HoldB (w : World) (base : Nat) (v : Value) (l : List UInt8) : Prop :=
  (v = .slice none 0 0 ∧ l = []) ∨ ∃ g cap cur, v = .slice (some ⟨g, 0, none⟩) l.length cap ∧ base ≤ g ∧ w.heap[g]? = some (.cells cur 5 (0, 0)) ∧ l.length ≤ cap ∧ cap ≤ maxLen ∧ cap ≤ cur.size ∧ cur.toList.take l.length = cellsB l
section
variable {w w' : World} {base : Nat} {v : Value} {l : List UInt8}
theorem HoldB.nil (w : World) (base : Nat) : HoldB w base (.slice none 0 0) [] := .inl ⟨rfl, rfl⟩
set_option maxRecDepth 100000 in
theorem HoldB.ofOwn (h : OwnB w base v l) : HoldB w base v l := by
  rcases h.2 with ⟨hv, h0⟩ | ⟨g, cap, cur, hv, hb, hh, hn, hm, hs, ht⟩
  · exact .inl ⟨hv, List.eq_nil_of_length_eq_zero h0⟩
  · rw [flat_cellsB, Nat.mul_one] at ht
    exact .inr ⟨g, cap, cur, hv, hb, hh, hn, hm, by omega, ht⟩
set_option maxRecDepth 100000 in
theorem HoldB.form (h : HoldB w base v l) : (v = .slice none 0 0 ∧ l = []) ∨ ∃ g cap, v = .slice (some ⟨g, 0, none⟩) l.length cap ∧ base ≤ g ∧ g < w.heap.size ∧ l.length ≤ cap := by
  rcases h with h | ⟨g, cap, cur, hv, hb, hh, hn, _⟩
  · exact .inl h
  · exact .inr ⟨g, cap, hv, hb, (Array.getElem?_eq_some_iff.1 hh).1, hn⟩
set_option maxRecDepth 100000 in
theorem HoldB.low (h : HoldB w base v l) {i : Nat} (hi : v.ownBlock = some i) : base ≤ i ∧ i < w.heap.size := by
  rcases h.form with ⟨rfl, _⟩ | ⟨g, cap, rfl, hb, hl, _⟩
  · cases hi
  · simp only [Value.ownBlock, Option.some.injEq] at hi
    subst hi
    exact ⟨hb, hl⟩
set_option maxRecDepth 100000 in
theorem HoldB.cells {g : Nat} {cur : Array Value} (hh : w.heap[g]? = some (.cells cur 5 (0, 0))) (ht : cur.toList.take l.length = cellsB l) (j : Nat) (u : Value) (hu : (cellsB l)[j]? = some u) : w.cell? ((⟨g, 0, none⟩ : Addr).add j) = some u := by
  have hadd : (⟨g, 0, none⟩ : Addr).add j = ⟨g, 0 + j, none⟩ := by unfold Addr.add; split <;> simp_all
  rw [hadd, Nat.zero_add]
  simp only [World.cell?, hh]
  rw [← ht, List.getElem?_take] at hu
  split at hu
  · simpa using hu
  · cases hu
set_option maxRecDepth 100000 in
theorem HoldB.rdB (h : HoldB w base v l) : RdB w w.heap.size v l := by
  rcases h with ⟨rfl, rfl⟩ | ⟨g, cap, cur, rfl, hb, hh, hn, hm, hs, ht⟩
  · exact Rd.nil _ _
  · refine ⟨_, cap, rfl, hn, fun i hi => ⟨g, 0, rfl, (Array.getElem?_eq_some_iff.1 hh).1, fun j u hu => ?_⟩⟩
    match j, hu with
    | 0, hu =>
      simp only [byteEnc, List.getElem?_cons_zero, Option.some.injEq] at hu
      subst hu
      have := HoldB.cells hh ht i _ (cellsB_get l i hi)
      have hadd : (⟨g, 0, none⟩ : Addr).add i = ⟨g, 0 + i, none⟩ := by unfold Addr.add; split <;> simp_all
      rw [hadd] at this
      simpa using this
    | j + 1, hu => simp [byteEnc] at hu
theorem HoldB.mv {D : Nat → Prop} (h : HoldB w base v l) (hm : Mv D w w') (hn : ∀ g, v.ownBlock = some g → ¬ D g) : HoldB w' base v l := by
  rcases h with h | ⟨g, cap, cur, rfl, hb, hh, r⟩
  · exact .inl h
  · exact .inr ⟨g, cap, cur, rfl, hb, (hm.block g (Array.getElem?_eq_some_iff.1 hh).1 (hn g rfl)).trans hh, r⟩
theorem HoldB.alloc (h : HoldB w base v l) (o : Obj) : HoldB (w.alloc o) base v l := h.mv ((Mv.refl (fun _ => False) w).alloc o) (fun _ _ h => h)
set_option maxRecDepth 100000 in
theorem HoldB.apart {g : Nat} {t : TypeId} {cs : List Value} (h : HoldB w base v l) (hg : Whole w g t cs) (hne : 5 ≠ t) : v.ownBlock ≠ some g := by
  rcases h with ⟨rfl, _⟩ | ⟨g', cap, cur, rfl, hb, hh, r⟩
  · simp [Value.ownBlock]
  · intro he
    simp only [Value.ownBlock, Option.some.injEq] at he
    subst he
    unfold Whole at hg
    rw [hg] at hh
    injection hh with hh
    injection hh with _ ht
    exact hne ht.symm
/-- the first n of them, with nothing behind -/
theorem HoldB.cut {A : Option Addr} {m c : Nat} (h : HoldB w base (.slice A m c) l) (n : Nat) (hn : n ≤ l.length) : HoldB w base (.slice A n n) (l.take n) := by
  rcases h with ⟨hv, rfl⟩ | ⟨g, cap, cur, hv, hb, hh, h1, h2, h3, h4⟩
  · injection hv with h1 _ _
    subst h1
    obtain rfl : n = 0 := by simpa using hn
    exact .inl ⟨rfl, rfl⟩
  · injection hv with e1 _ _
    subst e1
    refine .inr ⟨g, n, cur, by simp [Nat.min_eq_left hn], hb, hh, by simp; omega, by omega, by omega, ?_⟩
    rw [List.length_take, Nat.min_eq_left hn, show cellsB (l.take n) = (cellsB l).take n by simp [cellsB], ← h4, List.take_take, Nat.min_eq_left hn]
/-- one of them turned -/
theorem HoldB.set {g m c : Nat} (h : HoldB w base (.slice (some ⟨g, 0, none⟩) m c) l) (i : Nat) (hi : i < l.length) (x : UInt8) : HoldB (w.setCell ⟨g, i, none⟩ (.int .u8 (x.toNat : Int))) base (.slice (some ⟨g, 0, none⟩) m c) (l.set i x) := by
  rcases h with ⟨hv, _⟩ | ⟨g', cap, cur, hv, hb, hh, h1, h2, h3, h4⟩
  · cases hv
  · injection hv with e1 e2 e3
    injection e1 with e1
    injection e1 with e1
    subst e1 e2 e3
    have hs : i < cur.size := by omega
    refine .inr ⟨g, c, cur.set! i (.int .u8 (x.toNat : Int)), by simp, hb, ?_, by simpa using h1, h2, by simpa using h3, ?_⟩
    · simp [World.setCell, Array.getElem?_modify, hh]
    · rw [List.length_set, cellsB_set, ← h4]
      simp [List.take_set]
end

section
variable {ops : Array Oper} {rest : List Oper} {o : Oper} {a : Act} {Q : Exit → Act → World → Prop} {w : World}
/-- the row is the same, or a new one, or none -/
def NewRow (w : World) (o o' : Option Nat) : Prop := ∀ g, o' = some g → o = some g ∨ w.heap.size ≤ g
theorem NewRow.refl (w : World) (o : Option Nat) : NewRow w o o := fun _ h => .inl h
theorem NewRow.out {w : World} {o o' : Option Nat} (h : NewRow w o o') {r : Nat} (hr : r < w.heap.size) (hn : o ≠ some r) : o' ≠ some r := by
  intro he
  rcases h r he with h1 | h1
  · exact hn h1
  · omega
theorem NewRow.low {w : World} {base : Nat} {o o' : Option Nat} (h : NewRow w o o') (hb : base ≤ w.heap.size) (hl : ∀ g, o = some g → base ≤ g) : ∀ g, o' = some g → base ≤ g := by
  intro g he
  rcases h g he with h1 | h1
  · exact hl g h1
  · omega
theorem NewRow.trans {w w' : World} {o o' o2 : Option Nat} (h : NewRow w o o') (h2 : NewRow w' o' o2) (hs : w.heap.size ≤ w'.heap.size) : NewRow w o o2 := by
  intro g he
  rcases h2 g he with h1 | h1
  · exact h g h1
  · exact .inr (Nat.le_trans hs h1)
set_option maxRecDepth 100000 in
theorem run_append_hold (w : World) (base B : Nat) (ty : TypeId) (v v2 : Value) (l p : List UInt8) (ho : HoldB w base v l) (hp : RdB w B v2 p) (hlen : l.length + p.length ≤ 225179981368000) (hb : base ≤ w.heap.size) :
    ∃ A' c' w', (Builtin.append_ #[56, 56] ty #[v, v2]).run Try.prog w = .ok (.slice A' (l ++ p).length c') w' ∧ HoldB w' base (.slice A' (l ++ p).length c') (l ++ p) ∧ w.grownBy w' v.ownBlock ∧ NewRow w v.ownBlock (Value.ownBlock (.slice A' (l ++ p).length c')) := by
  obtain ⟨i0, hi, hz0, hz1, hz2⟩ := info_parts info_u8
  obtain ⟨A2, c2, rfl, hc2, hcell⟩ := hp.at
  have hself : w.grownBy w v.ownBlock := ⟨rfl, rfl, rfl, Nat.le_refl _, fun _ _ _ => rfl⟩
  rcases hpn : p with _ | ⟨x, r⟩
  · -- nothing is appended
    have hform : ∃ A c, v = .slice A l.length c ∧ l.length ≤ c := by
      rcases ho.form with ⟨rfl, rfl⟩ | ⟨g, cap, rfl, _, _, hn⟩
      · exact ⟨none, 0, rfl, Nat.le_refl _⟩
      · exact ⟨_, cap, rfl, hn⟩
    obtain ⟨A, c, rfl, hn⟩ := hform
    subst hpn
    refine ⟨A, c, w, ?_, by simpa using ho, hself, fun _ h => .inl (by simpa using h)⟩
    cases A2 with
    | none => simp [Builtin.append_, run_underlying Try.underlying56, sizeOf, typeInfo, hi, Builtin.lenOf, Builtin.firstCells, hn, storeCells]; cases A <;> simp_all
    | some a2 => simp [Builtin.append_, run_underlying Try.underlying56, sizeOf, typeInfo, hi, Builtin.lenOf, Builtin.firstCells, hn, storeCells, loadCells, loadCellsFrom]; cases A <;> simp_all
  · obtain ⟨b, o', hA, _, _⟩ := hcell 0 (by rw [hpn]; simp)
    rw [← hpn]
    have hpos : 0 < p.length := by rw [hpn]; simp
    subst hA
    have hnews : ∀ j u, (cellsB p)[j]? = some u → w.cell? ((⟨b, o', none⟩ : Addr).add j) = some u := by
      intro j u hu
      have hj : j < p.length := by
        rcases Nat.lt_or_ge j p.length with h' | h'
        · exact h'
        · rw [List.getElem?_eq_none (by rw [cellsB_len]; exact h')] at hu; cases hu
      obtain ⟨b2, o2, hA2, _, h2⟩ := hcell j hj
      simp only [Option.some.injEq, Addr.mk.injEq, and_true] at hA2
      obtain ⟨rfl, rfl⟩ := hA2
      rw [cellsB_get p j hj] at hu
      simp only [Option.some.injEq] at hu
      subst hu
      have hadd : (⟨b, o', none⟩ : Addr).add j = ⟨b, o' + j, none⟩ := by unfold Addr.add; split <;> simp_all
      rw [hadd]
      exact h2
    have hpl := cellsB_len p
    have hll : (l ++ p).length = l.length + p.length := by simp
    have e63 : maxLen = 9223372036854775807 := rfl
    rcases ho with ⟨rfl, rfl⟩ | ⟨g, cap, cur, rfl, hbg, hh, hn, hm, hs, ht⟩
    · have hr := run_append_nil (P := Try.prog) w 56 ty 5 i0 _ Try.underlying56 hi hz0 ⟨b, o', none⟩ p.length c2 (cellsB p) (by rw [hz1, hpl, Nat.mul_one]) hnews hpos (by simp at hlen; omega) (by rw [hz2]; simp at hlen; omega)
      have hge := grownCap_ge w p.length 0 5
      have hgm := grownCap_le_maxLen w p.length 0 5 (by unfold maxLen; simp at hlen; omega)
      simp only [List.nil_append]
      refine ⟨_, _, _, hr, .inr ⟨w.heap.size, _, _, rfl, hb, heap_alloc_new w.drew _, hge, hgm, ?_, ?_⟩, ⟨rfl, rfl, rfl, by simp, fun k hk _ => heap_alloc_old w.drew _ hk⟩, fun g hg => .inr (by injection hg with hg; simp only at hg; omega)⟩
      · have hz : (Value.int IntKind.u8 0).cells.size = 1 := rfl
        simp only [Array.size_append, List.size_toArray, size_zeroCells, hz, hpl]
        omega
      · simp only [Array.toList_append]
        exact List.take_left' hpl
    · by_cases hroom : l.length + p.length ≤ cap
      · have hr := run_append_room (P := Try.prog) w 56 ty 5 i0 Try.underlying56 hi g l.length cap cur hh ⟨b, o', none⟩ p.length c2 (cellsB p) (by rw [hz1, hpl, Nat.mul_one]) hnews (cellsB_one p) hroom (by rw [hz1, hpl]; omega)
        rw [← hll] at hr
        refine ⟨_, _, _, hr, .inr ⟨g, cap, _, rfl, hbg, setRow_heap w g cur _ _ _ hh, by rw [hll]; exact hroom, hm, ?_, ?_⟩, ⟨rfl, rfl, rfl, by simp, fun k _ hk => setRow_other w g k _ (fun e => hk (by simp [Value.ownBlock, e]))⟩, fun _ h => .inl h⟩
        · simp only [List.size_toArray, List.length_append, List.length_take, List.length_drop, Array.length_toList, hpl, hz1]
          omega
        · rw [hz1, Nat.mul_one, ht, cellsB_append, hll]
          exact List.take_left' (by rw [List.length_append, cellsB_len, hpl])
      · have hr := run_append_grow (P := Try.prog) w 56 ty 5 i0 _ Try.underlying56 hi hz0 ⟨g, 0, none⟩ l.length cap (cellsB l) (by rw [hz1, cellsB_len, Nat.mul_one]) (HoldB.cells hh ht) ⟨b, o', none⟩ p.length c2 (cellsB p) (by rw [hz1, hpl, Nat.mul_one]) hnews (by omega) (by omega) (growslice_fits_wide (by omega) (by rw [hz2]; omega))
        have hge := grownCap_ge w (l.length + p.length) cap 5
        have hgm := grownCap_le_maxLen w (l.length + p.length) cap 5 (by unfold maxLen; omega)
        rw [← hll] at hr
        refine ⟨_, _, _, hr, .inr ⟨w.heap.size, _, _, rfl, hb, heap_alloc_new w.drew _, by rw [hll]; exact hge, by rw [hll]; exact hgm, ?_, ?_⟩, ⟨rfl, rfl, rfl, by simp, fun k hk _ => heap_alloc_old w.drew _ hk⟩, fun g hg => .inr (by injection hg with hg; simp only at hg; omega)⟩
        · have hz : (Value.int IntKind.u8 0).cells.size = 1 := rfl
          simp only [Array.size_append, List.size_toArray, size_zeroCells, hz, hpl, cellsB_len]
          omega
        · simp only [Array.toList_append, cellsB_append]
          exact List.take_left' (by rw [List.length_append, cellsB_len, hpl, hll])

set_option maxRecDepth 100000 in
/-- bytes appended to such a slice -/
theorem wpList_addH (hgd : Region.wanted o (yielded ops a.tmps) = true) (s x : Operand)
    (ho : o.op = .call { callee := .builtin .append, args := #[s, x], argTypes := #[56, 56] })
    (base : Nat) (v : Value) (l : List UInt8) (hs : a.eval s = v) (hown : HoldB w base v l) (B : Nat) (v2 : Value) (p : List UInt8) (hx : a.eval x = v2) (hp : RdB w B v2 p)
    (hlen : l.length + p.length ≤ 225179981368000) (hbase : base ≤ w.heap.size)
    (h : ∀ A' c' w', Hid (HoldB w' base (.slice A' (l ++ p).length c') (l ++ p)) → Hid (w.grownBy w' v.ownBlock) → Hid (NewRow w v.ownBlock (Value.ownBlock (.slice A' (l ++ p).length c'))) → wpList Try.prog ops Q rest (a.put o.dst (.slice A' (l ++ p).length c')) w') : wpList Try.prog ops Q (o :: rest) a w := by
  refine BigFrame.wpList_want hgd fun K hK => ?_
  obtain ⟨A', c', w', hr, h2, h3, h4⟩ := run_append_hold w base B o.type v v2 l p hown hp hlen hbase
  unfold Oper.wp execOp
  simp only [ho, resolve, invoke, builtin, Sem.run_bind, Sem.run_pure, Result.andThen_ok, List.map_toArray, List.map_cons, List.map_nil, hs, hx, hr]
  exact hK _ _ (h A' c' w' (Lib.hid h2) (Lib.hid h3) (Lib.hid h4))
end
end Go.Proofs.Ythoheikbpihflaa

namespace Go.Proofs.Ythoheikbpihflaa
open Go.RowKit

section
variable {α : Type} {enc : α → List Value} {k : Nat} {e : TypeId}
/-- cells below block B, in no block of G -/
def RdG (enc : α → List Value) (k : Nat) (w : World) (B : Nat) (G : Nat → Prop) (v : Value) (l : List α) : Prop :=
  ∃ A c, v = .slice A l.length c ∧ l.length ≤ c ∧ ∀ i (_ : i < l.length), ∃ b o, A = some ⟨b, o, none⟩ ∧ b < B ∧ ¬ G b ∧ ∀ j u, (enc l[i])[j]? = some u → w.cell? ⟨b, o + i * k + j, none⟩ = some u
variable {w w' : World} {B B' : Nat} {G G' : Nat → Prop} {v : Value} {l : List α}
theorem RdG.rd (h : RdG enc k w B G v l) : Rd enc k w B v l := by
  obtain ⟨A, c, rfl, hc, hi⟩ := h
  refine ⟨A, c, rfl, hc, fun i hs => ?_⟩
  obtain ⟨b, o, hA, hb, _, h1⟩ := hi i hs
  exact ⟨b, o, hA, hb, h1⟩
theorem RdG.of (h : Rd enc k w B v l) (hG : ∀ b, b < B → ¬ G b) : RdG enc k w B G v l := by
  obtain ⟨A, c, rfl, hc, hi⟩ := h
  refine ⟨A, c, rfl, hc, fun i hs => ?_⟩
  obtain ⟨b, o, hA, hb, h1⟩ := hi i hs
  exact ⟨b, o, hA, hb, hG b hb, h1⟩
theorem RdG.mv {D : Nat → Prop} (h : RdG enc k w B G v l) (hm : Mv D w w') (hB : B ≤ w.heap.size) (hD : ∀ b, b < B → D b → G b) : RdG enc k w' B G v l := by
  obtain ⟨A, c, rfl, hc, hi⟩ := h
  refine ⟨A, c, rfl, hc, fun i hs => ?_⟩
  obtain ⟨b, o, hA, hb, hg, h1⟩ := hi i hs
  exact ⟨b, o, hA, hb, hg, fun j u hu => by rw [World.cell?_of_block (w := w) (hm.block b (by omega) (fun h => hg (hD b hb h)))]; exact h1 j u hu⟩
theorem RdG.mono (h : RdG enc k w B G v l) (hB : B ≤ B') (hG : ∀ b, b < B → G' b → G b) : RdG enc k w B' G' v l := by
  obtain ⟨A, c, rfl, hc, hi⟩ := h
  refine ⟨A, c, rfl, hc, fun i hs => ?_⟩
  obtain ⟨b, o, hA, hb, hg, h1⟩ := hi i hs
  exact ⟨b, o, hA, by omega, fun h => hg (hG b hb h), h1⟩
theorem RdG.none_ (w : World) (B : Nat) (G : Nat → Prop) (A : Option Addr) (c : Nat) : RdG enc k w B G (.slice A 0 c) [] := ⟨A, c, rfl, Nat.zero_le _, fun i hi => by simp at hi⟩
theorem RdG.or {G1 G2 : Nat → Prop} (h : RdG enc k w B G1 v l) (h2 : RdG enc k w B G2 v l) : RdG enc k w B (fun i => G1 i ∨ G2 i) v l := by
  obtain ⟨A, c, rfl, hc, hi⟩ := h
  obtain ⟨A2, c2, ee, hc2, hi2⟩ := h2
  injection ee with e1 _ e3
  subst e1 e3
  refine ⟨A, c, rfl, hc, fun i hs => ?_⟩
  obtain ⟨b, o, hA, hb, hg, h1⟩ := hi i hs
  obtain ⟨b2, o2, hA2, _, hg2, _⟩ := hi2 i hs
  rw [hA] at hA2
  injection hA2 with hA2
  injection hA2 with e4
  subst e4
  exact ⟨b, o, hA, hb, fun h => h.elim hg hg2, h1⟩
/-- what is owned from base on -/
theorem RdG.own {base : Nat} (hk : ∀ x, (enc x).length = k) (h : Own enc k e w base v l) (hG : ∀ b, base ≤ b → b < w.heap.size → v.ownBlock = some b → ¬ G b) : RdG enc k w w.heap.size G v l := by
  obtain ⟨A, c, hv, hc, hi⟩ := Own.rd hk h
  refine ⟨A, c, hv, hc, fun i hs => ?_⟩
  obtain ⟨b, o, hA, hb, h1⟩ := hi i hs
  refine ⟨b, o, hA, hb, ?_, h1⟩
  rcases h.form with ⟨_, e0⟩ | ⟨g, cap, ee, hg, _, _⟩
  · rw [e0] at hs; simp at hs
  · rw [hv, hA] at ee
    injection ee with ee _ _
    injection ee with ee
    injection ee with ee _ _
    subst ee
    exact hG b hg hb (by rw [hv, hA]; rfl)
/-- those from n on -/
theorem RdG.drop {A : Option Addr} {c m : Nat} (h : RdG enc k w B G (.slice A m c) l) (n c' : Nat) (hn : n ≤ l.length) (hc' : l.length - n ≤ c') (A' : Option Addr) (hA' : n < l.length → A' = A.map (·.add (n * k))) :
    RdG enc k w B G (.slice A' (l.length - n) c') (l.drop n) := by
  obtain ⟨A0, c0, hv, hc, hi⟩ := h
  injection hv with h1 h2 h3
  subst h1 h3
  refine ⟨A', c', by simp, by simpa using hc', fun i hs => ?_⟩
  have hs' : n + i < l.length := by simp at hs; omega
  obtain ⟨b, o, hA, hb, hg, h1⟩ := hi (n + i) hs'
  refine ⟨b, o + n * k, ?_, hb, hg, fun j u hu => ?_⟩
  · rw [hA' (by omega), hA]
    simp only [Option.map_some, Option.some.injEq]
    unfold Addr.add
    split
    · rename_i hz; rw [hz]; rfl
    · rfl
  · have := h1 j u (by simpa using hu)
    rwa [show o + (n + i) * k + j = o + n * k + i * k + j by rw [Nat.add_mul]; omega] at this
end
end Go.Proofs.Ythoheikbpihflaa
namespace Go.Proofs.Ythoheikbpihflaa
open Go.RowKit

/-- a tape at block p, whose bytes lie in row ov -/
def TapeAt (w : World) (base p : Nat) (ov : Option Nat) (t : Tp) : Prop :=
  ∃ A c, Whole w p 58 [.int .i64 t.room, .slice A (t.sure.length + t.loose.length) c, .int .i64 (t.sure.length : Int), .bool t.down, .bool (decide (0 ≤ t.left)), .int .i64 (max t.left 0)] ∧
    HoldB w base (.slice A (t.sure.length + t.loose.length) c) (t.sure ++ t.loose) ∧ Value.ownBlock (.slice A (t.sure.length + t.loose.length) c) = ov ∧ base ≤ p ∧ base ≤ w.heap.size ∧ t.Ok ∧ t.left < 9223372036854775808
section
variable {w w' : World} {base p : Nat} {ov : Option Nat} {t : Tp}
theorem TapeAt.mv {D : Nat → Prop} (h : TapeAt w base p ov t) (hm : Mv D w w') (h1 : ¬ D p) (h2 : ∀ g, ov = some g → ¬ D g) : TapeAt w' base p ov t := by
  obtain ⟨A, c, hb, ho, hv, hp, hs, hk⟩ := h
  exact ⟨A, c, hm.whole hb h1, ho.mv hm (fun g hg => h2 g (hv ▸ hg)), hv, hp, Nat.le_trans hs hm.size, hk⟩
theorem TapeAt.low (h : TapeAt w base p ov t) : base ≤ p ∧ p < w.heap.size ∧ base ≤ w.heap.size := by
  obtain ⟨A, c, hb, ho, hv, hp, hs, hk⟩ := h
  exact ⟨hp, hb.size, hs⟩
theorem TapeAt.row (h : TapeAt w base p ov t) {g : Nat} (hg : ov = some g) : base ≤ g ∧ g < w.heap.size := by
  obtain ⟨A, c, hb, ho, hv, hp, hs, hk⟩ := h
  exact ho.low (hv.trans hg)
theorem TapeAt.ok (h : TapeAt w base p ov t) : t.Ok := by
  obtain ⟨A, c, hb, ho, hv, hp, hs, hk, _⟩ := h
  exact hk
theorem TapeAt.left (h : TapeAt w base p ov t) : t.left < 9223372036854775808 := by
  obtain ⟨A, c, hb, ho, hv, hp, hs, hk, h⟩ := h
  exact h
set_option maxRecDepth 100000 in
theorem TapeAt.apart (h : TapeAt w base p ov t) {g : Nat} {T : TypeId} {cs : List Value} (hg : Whole w g T cs) (h1 : 58 ≠ T) (h2 : 5 ≠ T) : g ≠ p ∧ ov ≠ some g := by
  obtain ⟨A, c, hb, ho, hv, hp, hs, hk⟩ := h
  exact ⟨hg.apart hb (Ne.symm h1), hv ▸ ho.apart hg h2⟩
end
/-- what a call of a tape moves -/
def TapeD (p : Nat) (ov : Option Nat) : Nat → Prop := fun i => i = p ∨ some i = ov
/-- a call that moves the tape alone: the tape is t behind it -/
structure Went (w w' : World) (base p : Nat) (ov : Option Nat) (t : Tp) (ov' : Option Nat) : Prop where
  now : TapeAt w' base p ov' t
  moved : Mv (TapeD p ov) w w'
  new : NewRow w ov ov'
theorem Went.below {w w' : World} {base p : Nat} {ov ov' : Option Nat} {t t0 : Tp} (h : Went w w' base p ov t ov') (h0 : TapeAt w base p ov t0) : Below base w w' :=
  h.moved.below h0.low.2.2 (by
    rintro i (rfl | hi)
    · exact h0.low.1
    · exact (h0.row hi.symm).1)

set_option maxHeartbeats 1000000 in
set_option maxRecDepth 100000 in
theorem begin_any (base p : Nat) (ov : Option Nat) (t : Tp) (n : Nat) (w : World) (h : TapeAt w base p ov t) :
    Calls Try.prog 47 #[.pointer (some ⟨p, 0, none⟩), .int .i64 (n : Int)] w fun e w' => e = .returned (.int .i64 (t.write n).1) ∧ Went w w' base p ov (t.write n).2 ov := by
  obtain ⟨sure, loose, room, left, down⟩ := t
  obtain ⟨A, c, hb, ho, hv, hp, hs, hk, hl⟩ := h
  simp only at hb ho hv hk hl
  obtain ⟨L, hL⟩ : ∃ L, L = sure.length + loose.length := ⟨_, rfl⟩
  rw [← hL] at hb ho hv
  have hmr : Mv (TapeD p ov) w w := Mv.refl _ _
  have c0 := hb.cell 0 _ rfl
  have c3 := hb.cell 3 _ rfl
  have c4 := hb.cell 4 _ rfl
  have c5 := hb.cell 5 _ rfl
  have f3 := hb.frozen 3
  have f5 := hb.frozen 5
  have hlt := hb.size
  have hne : Value.ownBlock (.slice A L c) ≠ some p := ho.apart hb (by decide)
  have HB := Lib.hid hb; clear hb
  have HO := Lib.hid ho; clear ho
  have HV := Lib.hid hv; clear hv
  have HK := Lib.hid hk; clear hk
  have HN := Lib.hid hne; clear hne
  have HL := Lib.hid hL; clear hL
  have hput : ∀ (i : Nat) (u : Value), HoldB (w.setCell ⟨p, i, none⟩ u) base (.slice A L c) (sure ++ loose) := fun i u =>
    HO.out.mv ((Mv.refl (fun j => j = p) w).setCell (p := ⟨p, i, none⟩) (fun _ => rfl) u) (fun g hg e => HN.out (hg.trans (congrArg some e)))
  have HP := Lib.hid hput; clear hput
  have hmp : ∀ (i : Nat) (u : Value), Mv (TapeD p ov) w (w.setCell ⟨p, i, none⟩ u) := fun i u => (Mv.refl _ w).setCell (p := ⟨p, i, none⟩) (fun _ => .inl rfl) u
  have HM := Lib.hid hmp; clear hmp
  cases down with
  | true =>
    have e : (Tp.write ⟨sure, loose, room, left, true⟩ n) = (11, ⟨sure, loose, room, left, true⟩) := rfl
    rw [e]
    go_enter Try.func47, Try.ntmps47
    go_wp2_with fail
    go_ret
    exact ⟨rfl, ⟨A, c, by rw [← HL.out]; exact HB.out, by rw [← HL.out]; exact HO.out, by rw [← HL.out]; exact HV.out, hp, hs, HK.out, hl⟩, hmr, NewRow.refl _ _⟩
  | false =>
    by_cases h1 : (n : Int) > room
    · have e : (Tp.write ⟨sure, loose, room, left, false⟩ n) = (10, ⟨sure, loose, room, left, false⟩) := by simp [Tp.write, h1]
      rw [e]; clear e
      go_enter Try.func47, Try.ntmps47
      go_wp2_with fail
      go_ret
      exact ⟨rfl, ⟨A, c, by rw [← HL.out]; exact HB.out, by rw [← HL.out]; exact HO.out, by rw [← HL.out]; exact HV.out, hp, hs, HK.out, hl⟩, hmr, NewRow.refl _ _⟩
    · rcases Int.lt_trichotomy left 0 with h2 | h2 | h2
      · have e : (Tp.write ⟨sure, loose, room, left, false⟩ n) = (0, ⟨sure, loose, room, left, false⟩) := by
          simp only [Tp.write, if_neg h1]
          rw [if_neg (by simp), if_neg (by omega), if_neg (by omega)]
        rw [e]; clear e
        rw [decide_eq_false (show ¬ 0 ≤ left by omega)] at c4
        go_enter Try.func47, Try.ntmps47
        go_wp2_with fail
        go_ret
        exact ⟨rfl, ⟨A, c, by rw [← HL.out]; exact HB.out, by rw [← HL.out]; exact HO.out, by rw [← HL.out]; exact HV.out, hp, hs, HK.out, hl⟩, hmr, NewRow.refl _ _⟩
      · subst h2
        have e : (Tp.write ⟨sure, loose, room, 0, false⟩ n) = (11, ⟨sure, loose, room, 0, true⟩) := by simp [Tp.write, h1]
        rw [e]; clear e
        rw [decide_eq_true (show (0 : Int) ≤ 0 by omega)] at c4
        rw [show max (0 : Int) 0 = 0 from rfl] at c5
        go_enter Try.func47, Try.ntmps47
        go_wp2_with fail
        go_ret
        exact ⟨rfl, ⟨A, c, by rw [← HL.out]; exact HB.out.put 3 _, by rw [← HL.out]; exact HP.out 3 _, by rw [← HL.out]; exact HV.out, hp, by simpa using hs, HK.out, hl⟩, HM.out 3 _, NewRow.refl _ _⟩
      · have e : (Tp.write ⟨sure, loose, room, left, false⟩ n) = (0, ⟨sure, loose, room, left - 1, false⟩) := by
          simp only [Tp.write, if_neg h1]
          rw [if_neg (by simp), if_neg (by omega), if_pos (by omega)]
        rw [e]; clear e
        rw [decide_eq_true (show (0 : Int) ≤ left by omega)] at c4
        rw [show max left 0 = left by omega] at c5
        have hw : IntKind.i64.wrap (left - 1) = left - 1 := wrap_small _ (by omega) (by omega)
        have hz : ¬ left = 0 := by omega
        go_enter Try.func47, Try.ntmps47
        go_wp2_with fail
        go_ret
        refine ⟨rfl, ⟨A, c, ?_, by rw [← HL.out]; exact HP.out 5 _, by rw [← HL.out]; exact HV.out, hp, by simpa using hs, HK.out, by show left - 1 < _; omega⟩, HM.out 5 _, NewRow.refl _ _⟩
        have := HB.out.put 5 (.int .i64 (left - 1))
        simp only [List.set] at this
        rw [HL.out] at this
        simp only [show decide (0 ≤ left - 1) = decide (0 ≤ left) by simp; omega, show max (left - 1) 0 = left - 1 by omega]
        exact this
end Go.Proofs.Ythoheikbpihflaa
namespace Go.Proofs.Ythoheikbpihflaa
open Go.RowKit

set_option maxHeartbeats 1000000 in
set_option maxRecDepth 100000 in
theorem fresh_any (l : List UInt8) (v : Value) (w : World) (hv : RdB w w.heap.size v l) (hl : l.length ≤ 140737488351232) :
    Calls Try.prog 44 #[v] w fun e w' => ∃ A c, e = .returned (.slice A l.length c) ∧ OwnB w' w.heap.size (.slice A l.length c) l ∧ Below w.heap.size w w' := by
  obtain ⟨A, c, rfl, hc, hi⟩ := hv.at
  have HV := Lib.hid hv; clear hv
  clear hi
  go_enter Try.func44, Try.ntmps44
  go_wp2_with (at_builtin; go_must (refine wpList_addBG rfl _ _ rfl w.heap.size _ [] rfl (Own.nil _ _) w.heap.size _ l rfl HV.out (by simp; omega) (by simp) ?_))
  intro A' c' w' ho hg
  have HO := Lib.hid (show OwnB w' w.heap.size (.slice A' l.length c') l from ho.out)
  have HG := Lib.hid hg.out
  go_wp2_with fail
  go_ret
  exact ⟨A', c', rfl, HO.out, (Below.refl _ w).grown HG.out (Nat.le_refl _) (by simp [Value.ownBlock])⟩

set_option maxHeartbeats 1000000 in
set_option maxRecDepth 100000 in
theorem bytes_any (base p : Nat) (ov : Option Nat) (t : Tp) (w : World) (h : TapeAt w base p ov t) :
    Calls Try.prog 33 #[.pointer (some ⟨p, 0, none⟩)] w fun e w' => ∃ A c, e = .returned (.tuple #[.slice A (if t.down = true then [] else t.sure ++ t.loose).length c, .int .i64 (if t.down = true then 11 else 0)]) ∧
      OwnB w' w.heap.size (.slice A (if t.down = true then [] else t.sure ++ t.loose).length c) (if t.down = true then [] else t.sure ++ t.loose) ∧ Below w.heap.size w w' := by
  obtain ⟨sure, loose, room, left, down⟩ := t
  obtain ⟨A, c, hb, ho, hv, hp, hs, hk, hl⟩ := h
  simp only at hb ho hv hk hl ⊢
  have c1 := hb.cell 1 _ rfl
  have c3 := hb.cell 3 _ rfl
  obtain ⟨L, hL⟩ : ∃ L, L = sure ++ loose := ⟨_, rfl⟩
  have hLl : sure.length + loose.length = L.length := by rw [hL, List.length_append]
  rw [← hL] at ho ⊢
  rw [hLl] at ho c1
  have hrd := ho.rdB
  have hlen : L.length ≤ 140737488351232 := by obtain ⟨k1, k2, k3⟩ := hk; simp only at k1 k2 k3; omega
  clear hb hv hL hLl hk
  have HR := Lib.hid (fresh_any L _ w hrd hlen); clear hrd ho
  cases down with
  | true =>
    go_enter Try.func33, Try.ntmps33
    go_wp2_with fail
    go_ret2
    exact ⟨none, 0, rfl, Own.nil _ _, Below.refl _ _⟩
  | false =>
    go_enter Try.func33, Try.ntmps33
    go_wp2_with fail
    refine HR.out.mono ?_
    rintro e w1 ⟨A1, c1', rfl, ho1, hb1⟩
    have HO := Lib.hid ho1; clear ho1
    have HB := Lib.hid hb1; clear hb1
    go_wp2_with fail
    go_ret2
    exact ⟨A1, c1', rfl, HO.out, HB.out⟩

set_option maxHeartbeats 1000000 in
set_option maxRecDepth 100000 in
theorem loose_any (base p : Nat) (ov : Option Nat) (t : Tp) (w : World) (h : TapeAt w base p ov t) :
    Calls Try.prog 22 #[.pointer (some ⟨p, 0, none⟩)] w fun e w' => e = .returned (.int .i64 (t.loose.length : Int)) ∧ Below w.heap.size w w' := by
  obtain ⟨sure, loose, room, left, down⟩ := t
  obtain ⟨A, c, hb, ho, hv, hp, hs, hk, hl⟩ := h
  simp only at hb ho hv hk hl ⊢
  have c1 := hb.cell 1 _ rfl
  have c2 := hb.cell 2 _ rfl
  have hlt := hb.size
  obtain ⟨k1, k2, k3⟩ := hk
  simp only at k1 k2 k3
  generalize sure.length = n at *
  generalize loose.length = m at *
  clear hb ho hv
  have hw : IntKind.i64.wrap (((n + m : Nat) : Int) - (n : Int)) = (m : Int) := by rw [wrap_small _ (by omega) (by omega)]; omega
  have hw2 : IntKind.i64.wrap ((n : Int) + (m : Int) - (n : Int)) = (m : Int) := by rw [wrap_small _ (by omega) (by omega)]; omega
  go_enter Try.func22, Try.ntmps22
  go_wp2_with fail
  refine wp_region_planB [(true, 0), (true, 1), (true, 2), (true, 3), (true, 4), (true, 5), (true, 6), (true, 7), (true, 8), (true, 9), (true, 10)] (by kernel_rfl) (by kernel_rfl) (fun _ _ d _ _ h => by cases d <;> exact h) ?_
  repeat (refine PlanB.take (v := ?_) rfl rfl ?_ ?_; rotate_left; (focus (intro W hW; have q1 := (hW.cell (p := ⟨p, 1, none⟩) hlt).trans c1; have q2 := (hW.cell (p := ⟨p, 2, none⟩) hlt).trans c2; go_simp; (try with_reducible rfl); done)); (try simp only [Act.put, List.setIfInBounds_toArray, List.set_cons_zero, List.set_cons_succ]))
  simp only [PlanB]
  go_wp2_with fail
  go_ret
  exact ⟨rfl, (Below.refl _ _).drew⟩

set_option maxHeartbeats 1000000 in
set_option maxRecDepth 100000 in
theorem new_any (room : Int) (h0 : 0 ≤ room) (h1 : room ≤ 1048576) (w : World) :
    Calls Try.prog 6 #[.int .i64 room] w fun e w' => ∃ p, e = .returned (.tuple #[.pointer (some ⟨p, 0, none⟩), .int .i64 0]) ∧ TapeAt w' w.heap.size p none ⟨[], [], room, -1, false⟩ ∧ Below w.heap.size w w' := by
  go_enter Try.func6, Try.ntmps6
  go_wp2_with fail
  go_ret2
  exact ⟨_, rfl, ⟨none, 0, Whole.fresh _ _ [_, _, _, _, _, _], HoldB.nil _ _, rfl, Nat.le_refl _, by simp, ⟨h0, h1, by simpa using h0⟩, by show (-1 : Int) < _; omega⟩, (Below.refl _ _).alloc (Nat.le_refl _) _⟩

set_option maxHeartbeats 1000000 in
set_option maxRecDepth 100000 in
theorem new_bad (room : Int) (h0 : room < 0 ∨ 1048576 < room) (w : World) :
    Calls Try.prog 6 #[.int .i64 room] w fun e w' => e = .returned (.tuple #[.pointer none, .int .i64 1]) ∧ w' = w := by
  rcases h0 with h | h
  · go_enter Try.func6, Try.ntmps6
    go_wp2_with fail
    go_ret2
    exact ⟨rfl, rfl⟩
  · have h2 : ¬ room < 0 := by omega
    go_enter Try.func6, Try.ntmps6
    go_wp2_with fail
    go_ret2
    exact ⟨rfl, rfl⟩

set_option maxHeartbeats 1000000 in
set_option maxRecDepth 100000 in
theorem fail_any (base p : Nat) (ov : Option Nat) (t : Tp) (n : Int) (hn : n < 9223372036854775808) (w : World) (h : TapeAt w base p ov t) :
    Calls Try.prog 9 #[.pointer (some ⟨p, 0, none⟩), .int .i64 n] w fun e w' => e = .returned (.tuple #[]) ∧ Went w w' base p ov (t.fail n) ov := by
  obtain ⟨sure, loose, room, left, down⟩ := t
  obtain ⟨A, c, hb, ho, hv, hp, hs, hk, hl⟩ := h
  simp only at hb ho hv hk hl
  obtain ⟨L, hL⟩ : ∃ L, L = sure.length + loose.length := ⟨_, rfl⟩
  rw [← hL] at hb ho hv
  have f4 := hb.frozen 4
  have f5 := hb.frozen 5
  have c4 := hb.cell 4 _ rfl
  have c5 := hb.cell 5 _ rfl
  have hlt := hb.size
  have hne : Value.ownBlock (.slice A L c) ≠ some p := ho.apart hb (by decide)
  have hput : ∀ (i j : Nat) (u u2 : Value), HoldB ((w.setCell ⟨p, i, none⟩ u).setCell ⟨p, j, none⟩ u2) base (.slice A L c) (sure ++ loose) := fun i j u u2 =>
    ho.mv (((Mv.refl (fun j => j = p) w).setCell (p := ⟨p, i, none⟩) (fun _ => rfl) u).setCell (p := ⟨p, j, none⟩) (fun _ => rfl) u2) (fun g hg e => hne (hg.trans (congrArg some e)))
  have hmp : ∀ (i j : Nat) (u u2 : Value), Mv (TapeD p ov) w ((w.setCell ⟨p, i, none⟩ u).setCell ⟨p, j, none⟩ u2) := fun i j u u2 => ((Mv.refl _ w).setCell (p := ⟨p, i, none⟩) (fun _ => .inl rfl) u).setCell (p := ⟨p, j, none⟩) (fun _ => .inl rfl) u2
  have HB := Lib.hid hb; clear hb
  have HV := Lib.hid hv; clear hv
  have HK := Lib.hid hk; clear hk
  have HL := Lib.hid hL; clear hL ho hne
  have HP := Lib.hid hput; clear hput
  have HM := Lib.hid hmp; clear hmp
  by_cases h0 : 0 ≤ n
  · have e1 : decide (0 ≤ n) = true := by simpa using h0
    have e2 : max n 0 = n := by omega
    go_enter Try.func9, Try.ntmps9
    go_wp2_with fail
    go_end0
    refine ⟨rfl, ⟨A, c, ?_, by rw [show (Tp.fail ⟨sure, loose, room, left, down⟩ n).sure.length + (Tp.fail ⟨sure, loose, room, left, down⟩ n).loose.length = L from HL.out.symm]; exact HP.out 4 5 _ _, by rw [show (Tp.fail ⟨sure, loose, room, left, down⟩ n).sure.length + (Tp.fail ⟨sure, loose, room, left, down⟩ n).loose.length = L from HL.out.symm]; exact HV.out, hp, by simpa using hs, HK.out, hn⟩, HM.out 4 5 _ _, NewRow.refl _ _⟩
    have := (HB.out.put 4 (.bool true)).put 5 (.int .i64 n)
    simp only [List.set] at this
    rw [HL.out] at this
    show Whole _ _ _ [_, _, _, _, .bool (decide (0 ≤ n)), .int .i64 (max n 0)]
    rw [e1, e2]
    exact this
  · have e1 : decide (0 ≤ n) = false := by simpa using h0
    have e2 : max n 0 = 0 := by omega
    go_enter Try.func9, Try.ntmps9
    go_wp2_with fail
    go_end0
    refine ⟨rfl, ⟨A, c, ?_, by rw [show (Tp.fail ⟨sure, loose, room, left, down⟩ n).sure.length + (Tp.fail ⟨sure, loose, room, left, down⟩ n).loose.length = L from HL.out.symm]; exact HP.out 4 5 _ _, by rw [show (Tp.fail ⟨sure, loose, room, left, down⟩ n).sure.length + (Tp.fail ⟨sure, loose, room, left, down⟩ n).loose.length = L from HL.out.symm]; exact HV.out, hp, by simpa using hs, HK.out, hn⟩, HM.out 4 5 _ _, NewRow.refl _ _⟩
    have := (HB.out.put 4 (.bool false)).put 5 (.int .i64 0)
    simp only [List.set] at this
    rw [HL.out] at this
    show Whole _ _ _ [_, _, _, _, .bool (decide (0 ≤ n)), .int .i64 (max n 0)]
    rw [e1, e2]
    exact this
end Go.Proofs.Ythoheikbpihflaa
namespace Go.Proofs.Ythoheikbpihflaa
open Go.RowKit

theorem Tp.write_cases (t : Tp) (n : Nat) : ((t.write n).1 = 0 ∧ ((n : Int) ≤ t.room)) ∨ ((t.write n).1 ≠ 0 ∧ ((t.write n).1 = 10 ∨ (t.write n).1 = 11)) := by
  unfold Tp.write
  split
  · exact .inr ⟨by simp, .inr rfl⟩
  · split
    · exact .inr ⟨by simp, .inl rfl⟩
    · split
      · exact .inr ⟨by simp, .inr rfl⟩
      · split <;> exact .inl ⟨rfl, by omega⟩
theorem Tp.write_fits {t : Tp} {n m : Nat} (hn : (n : Int) ≤ t.room) (hm : (m : Int) ≤ t.room) : t.write n = t.write m := by
  unfold Tp.write
  rw [if_neg (show ¬ (n : Int) > t.room by omega), if_neg (show ¬ (m : Int) > t.room by omega)]

end Go.Proofs.Ythoheikbpihflaa
namespace Go.Proofs.Ythoheikbpihflaa
open Go.RowKit

set_option maxHeartbeats 1000000 in
set_option maxRecDepth 100000 in
theorem repl_any (base p : Nat) (ov : Option Nat) (t : Tp) (v : Value) (b : List UInt8) (w : World) (h : TapeAt w base p ov t) (hv : ∀ w1, Mv (TapeD p ov) w w1 → RdB w1 w1.heap.size v b) (hbl : b.length ≤ 140737488351232) :
    Calls Try.prog 35 #[.pointer (some ⟨p, 0, none⟩), v] w fun e w' => e = .returned (.int .i64 (t.repl b).1) ∧ ∃ ov', Went w w' base p ov (t.repl b).2 ov' := by
  have H0 := Lib.hid h
  obtain ⟨sure, loose, room, left, down⟩ := t
  obtain ⟨A, c, rfl, _, _⟩ := (hv w (Mv.refl _ _)).at
  have HV := Lib.hid hv; clear hv
  have hbg := begin_any base p ov ⟨sure, loose, room, left, down⟩ b.length w H0.out
  have hca := Tp.write_cases ⟨sure, loose, room, left, down⟩ b.length
  have hkp := Tp.write_keeps ⟨sure, loose, room, left, down⟩ b.length
  have had : Tp.repl ⟨sure, loose, room, left, down⟩ b = if (Tp.write ⟨sure, loose, room, left, down⟩ b.length).1 = 0 then (0, { (Tp.write ⟨sure, loose, room, left, down⟩ b.length).2 with sure := b, loose := [] }) else Tp.write ⟨sure, loose, room, left, down⟩ b.length := rfl
  rw [had]; clear had h
  generalize Tp.write ⟨sure, loose, room, left, down⟩ b.length = r at hbg hca hkp ⊢
  obtain ⟨e0, t1⟩ := r
  obtain ⟨sure1, loose1, room1, left1, down1⟩ := t1
  simp only at hbg hca hkp ⊢
  obtain ⟨rfl, rfl, rfl⟩ := hkp
  have HG := Lib.hid hbg; clear hbg
  rcases hca with ⟨rfl, hroom⟩ | ⟨hne, hwh⟩
  · go_enter Try.func35, Try.ntmps35
    go_wp2_with fail
    refine HG.out.mono ?_
    rintro e w1 ⟨rfl, hwent⟩
    have HM1 := Lib.hid hwent.moved
    obtain ⟨A1, c1', hb1, ho1, hv1, hp1, hs1, hk1, hl1⟩ := hwent.now
    simp only at hb1 ho1 hv1 hk1 hl1
    have hlt1 := hb1.size
    have hfr := fresh_any b _ w1 (HV.out w1 hwent.moved) hbl
    have HFR := Lib.hid hfr; clear hfr hwent
    have HB1 := Lib.hid hb1; clear hb1 ho1
    have HK1 := Lib.hid hk1; clear hk1 hv1
    go_wp2_with fail
    refine HFR.out.mono ?_
    rintro e w2 ⟨A2, c2, rfl, ho2, hbw⟩
    have hb2 := HB1.out.below hbw hlt1
    have q1 := hb2.cell 1 _ rfl
    have q2 := hb2.cell 2 _ rfl
    have qf1 := hb2.frozen 1
    have qf2 := hb2.frozen 2
    have hlt2 := hb2.size
    have hap : Value.ownBlock (.slice A2 b.length c2) ≠ some p := fun e => by have := (ho2.low e).1; omega
    have hnr : NewRow w1 ov (Value.ownBlock (.slice A2 b.length c2)) := fun g hg => .inr (ho2.low hg).1
    have HB2 := Lib.hid hb2; clear hb2
    have HO2 := Lib.hid (HoldB.ofOwn (ho2.lower hs1)); clear ho2
    have HAP := Lib.hid hap; clear hap
    have HNR := Lib.hid hnr; clear hnr
    have HBW := Lib.hid hbw; clear hbw
    go_wp2_with fail
    go_ret
    refine ⟨rfl, _, ⟨A2, c2, ?_, ?_, rfl, hp1, ?_, ?_, hl1⟩, HM1.out.trans (((Mv.of_new HBW.out (TapeD p ov)).setCell (p := ⟨p, 1, none⟩) (fun _ => .inl rfl) _).setCell (p := ⟨p, 2, none⟩) (fun _ => .inl rfl) _) (fun _ _ h => h), ?_⟩
    · have := (HB2.out.put 1 (.slice A2 b.length c2)).put 2 (.int .i64 (b.length : Int))
      simp only [List.set] at this
      simp only [List.length_nil, Nat.add_zero]
      exact this
    · simp only [List.length_nil, Nat.add_zero, List.append_nil]
      exact HO2.out.mv (((Mv.refl (fun j => j = p) w2).setCell (p := ⟨p, 1, none⟩) (fun _ => rfl) _).setCell (p := ⟨p, 2, none⟩) (fun _ => rfl) _) (fun g hg e => HAP.out (hg.trans (congrArg some e)))
    · have := HBW.out.size
      simp only [World.size_setCell]
      omega
    · obtain ⟨m1, m2, m3⟩ := HK1.out
      refine ⟨m1, m2, ?_⟩
      show ((b.length + 0 : Nat) : Int) ≤ room1
      omega
    · simp only [List.length_nil, Nat.add_zero]
      exact fun g hg => (HNR.out g hg).imp id (fun h => Nat.le_trans HM1.out.size h)
  · rw [if_neg hne]
    go_enter Try.func35, Try.ntmps35
    go_wp2_with fail
    refine HG.out.mono ?_
    rintro e w1 ⟨rfl, hwent⟩
    have HW := Lib.hid hwent; clear hwent
    go_wp2_with fail
    go_ret
    exact ⟨rfl, ov, HW.out⟩
end Go.Proofs.Ythoheikbpihflaa
namespace Go.Proofs.Ythoheikbpihflaa
open Go.RowKit

/-- what lasts of the loose ones, by the number of them -/
theorem Tp.kept_all (l : List UInt8) (keep : Int) (turn : UInt8) (h : min (max keep 0) (l.length : Int) = l.length) : Tp.kept l keep turn = l := by
  unfold Tp.kept
  split
  · rfl
  · rename_i hn
    have h0 : l.length = 0 := by omega
    have : l = [] := List.eq_nil_of_length_eq_zero h0
    subst this
    simp
theorem Tp.kept_cut (l : List UInt8) (keep : Int) (K : Nat) (hK : min (max keep 0) (l.length : Int) = K) (hlt : K < l.length) : Tp.kept l keep 0 = l.take K := by
  unfold Tp.kept
  rw [if_neg (by omega), if_pos rfl, show keep.toNat = K by omega]
theorem Tp.kept_turn (l : List UInt8) (keep : Int) (turn : UInt8) (ht : turn ≠ 0) (K : Nat) (hK : min (max keep 0) (l.length : Int) = K) (hlt : K < l.length) : Tp.kept l keep turn = l.take K ++ [l[K] ^^^ turn] := by
  unfold Tp.kept
  rw [if_neg (by omega), if_neg ht, show keep.toNat = K by omega, List.getElem?_eq_getElem hlt]
  rfl

theorem cut_set (a b : List UInt8) (K : Nat) (h : K < b.length) (X : UInt8) : ((a ++ b).set (a.length + K) X).take (a.length + K + 1) = a ++ (b.take K ++ [X]) := by
  rw [List.set_append_right _ _ (by omega), Nat.add_sub_cancel_left, Nat.add_assoc, List.take_append, List.take_of_length_le (by omega), Nat.add_sub_cancel_left, List.take_add_one]
  rw [List.take_set_of_le (by omega)]
  simp [h]
/-- behind the crash: of the bytes Y the first E stand -/
theorem crash_tail {base p : Nat} {ov : Option Nat} {sure loose : List UInt8} {room left : Int} {down : Bool} {keep : Int} {turn : UInt8} {w wx : World} {A : Option Addr} {c L E : Nat} {Y : List UInt8} {v1 v2 v3 v4 v5 : Value}
    (hb : Whole wx p 58 [.int .i64 room, v1, v2, v3, v4, v5]) (ho : HoldB wx base (.slice A L c) Y) (hY : Y.length = L) (hE : E ≤ L) (hX : Y.take E = sure ++ Tp.kept loose keep turn) (hv : Value.ownBlock (.slice A L c) = ov) (hap : ov ≠ some p) (hp : base ≤ p) (hs : base ≤ wx.heap.size)
    (hok : Tp.Ok ⟨sure, loose, room, left, down⟩) (hm : Mv (TapeD p ov) w wx) :
    Went w (((((wx.setCell ⟨p, 1, none⟩ (.slice A E E)).setCell ⟨p, 2, none⟩ (.int .i64 (E : Int))).setCell ⟨p, 3, none⟩ (.bool false)).setCell ⟨p, 4, none⟩ (.bool false)).setCell ⟨p, 5, none⟩ (.int .i64 0)) base p ov (Tp.crash ⟨sure, loose, room, left, down⟩ keep turn) ov := by
  have hl : (sure ++ Tp.kept loose keep turn).length = E := by rw [← hX, List.length_take]; omega
  have hm5 : ∀ (D : Nat → Prop) (w0 : World), D p → Mv D w0 wx → Mv D w0 (((((wx.setCell ⟨p, 1, none⟩ (.slice A E E)).setCell ⟨p, 2, none⟩ (.int .i64 (E : Int))).setCell ⟨p, 3, none⟩ (.bool false)).setCell ⟨p, 4, none⟩ (.bool false)).setCell ⟨p, 5, none⟩ (.int .i64 0)) := fun D w0 hd h =>
    ((((h.setCell (p := ⟨p, 1, none⟩) (fun _ => hd) _).setCell (p := ⟨p, 2, none⟩) (fun _ => hd) _).setCell (p := ⟨p, 3, none⟩) (fun _ => hd) _).setCell (p := ⟨p, 4, none⟩) (fun _ => hd) _).setCell (p := ⟨p, 5, none⟩) (fun _ => hd) _
  have hcut := ho.cut E (by omega)
  have hv' : Value.ownBlock (.slice A E E) = ov := by rw [← hv]; cases A <;> rfl
  refine ⟨⟨A, E, ?_, ?_, ?_, hp, by simpa using hs, hok.crash keep turn, by show (-1 : Int) < _; omega⟩, hm5 _ _ (.inl rfl) hm, NewRow.refl _ _⟩
  · have := ((((hb.put 1 (.slice A E E)).put 2 (.int .i64 (E : Int))).put 3 (.bool false)).put 4 (.bool false)).put 5 (.int .i64 0)
    simp only [List.set] at this
    simp only [Tp.crash, hl, List.length_nil, Nat.add_zero]
    exact this
  · simp only [Tp.crash, hl, List.length_nil, Nat.add_zero, List.append_nil]
    rw [hX] at hcut
    exact hcut.mv (hm5 (fun j => j = p) wx rfl (Mv.refl _ _)) (fun g hg e => hap (by rw [← hv', hg, e]))
  · simp only [Tp.crash, hl, List.length_nil, Nat.add_zero]
    exact hv'

set_option maxHeartbeats 2000000 in
set_option maxRecDepth 100000 in
theorem crash_any (base p : Nat) (ov : Option Nat) (t : Tp) (keep : Int) (turn : UInt8) (w : World) (h : TapeAt w base p ov t) :
    Calls Try.prog 10 #[.pointer (some ⟨p, 0, none⟩), .int .i64 keep, .int .u8 (turn.toNat : Int)] w fun e w' => e = .returned (.tuple #[]) ∧ Went w w' base p ov (t.crash keep turn) ov := by
  have hlo := loose_any base p ov t w.drew ⟨_, _, h.choose_spec.choose_spec⟩
  obtain ⟨sure, loose, room, left, down⟩ := t
  obtain ⟨A, c, hb, ho, hv, hp, hs, hk, hl⟩ := h
  simp only at hb ho hv hk hl hlo
  obtain ⟨n, hn⟩ : ∃ n, n = sure.length := ⟨_, rfl⟩
  obtain ⟨m, hm⟩ : ∃ m, m = loose.length := ⟨_, rfl⟩
  obtain ⟨L, hL⟩ : ∃ L, L = n + m := ⟨_, rfl⟩
  rw [← hn, ← hm] at hb ho hv
  rw [← hm] at hlo
  rw [← hL] at hb ho hv
  obtain ⟨k1, k2, k3⟩ := id hk
  simp only at k1 k2 k3
  rw [← hn, ← hm] at k3
  obtain ⟨K0, hK0⟩ : ∃ K0 : Nat, max keep 0 = (K0 : Int) := ⟨(max keep 0).toNat, by omega⟩
  obtain ⟨K, hK⟩ : ∃ K : Nat, min (K0 : Int) (m : Int) = (K : Int) := ⟨(min (K0 : Int) (m : Int)).toNat, by omega⟩
  have hKm : K ≤ m := by omega
  obtain ⟨E, hE⟩ : ∃ E, E = n + K := ⟨_, rfl⟩
  have hwE : IntKind.i64.wrap ((n : Int) + (K : Int)) = (E : Int) := by rw [wrap_small _ (by omega) (by omega)]; omega
  have hmin : min (max keep 0) (loose.length : Int) = (K : Int) := by rw [hK0, ← hm]; exact hK
  have hLc : L ≤ c := by
    rcases ho.form with ⟨e, _⟩ | ⟨g, cap, e, _, _, h⟩
    · injection e with _ e2 _
      omega
    · injection e with _ e2 e3
      omega
  have hap : Value.ownBlock (.slice A L c) ≠ some p := ho.apart hb (by decide)
  have hXl : (sure ++ loose).length = L := by rw [List.length_append, ← hn, ← hm, hL]
  have c2 := hb.cell 2 _ rfl
  have hlt := hb.size
  have hEL : E ≤ L := by omega
  have HX := Lib.hid hXl; clear hXl
  have HB := Lib.hid hb; clear hb
  have HO := Lib.hid ho; clear ho
  have HV := Lib.hid hv; clear hv
  have HK := Lib.hid hk; clear hk
  have HAP := Lib.hid hap; clear hap
  have HLO := Lib.hid hlo; clear hlo
  have HMIN := Lib.hid hmin; clear hmin
  have HN := Lib.hid hn; clear hn
  have HM := Lib.hid hm; clear hm
  have HL := Lib.hid hL; clear hL
  have HE := Lib.hid hE; clear hE
  go_enter Try.func10, Try.ntmps10
  go_wp2_with fail
  refine wp_region_planB [(true, 0), (true, 1), (true, 2), (true, 3), (true, 4), (true, 5), (true, 6), (false, 7), (true, 8), (true, 9), (true, 10)] (by kernel_rfl) (by kernel_rfl) (fun _ _ d _ _ h => by cases d <;> exact h) ?_
  iterate 7 (refine PlanB.take (v := ?_) rfl rfl ?_ ?_; rotate_left; (focus (intro W hW; have q2 := (hW.cell (p := ⟨p, 2, none⟩) hlt).trans c2; go_simp; (try with_reducible rfl); done)); (try simp only [Act.put, List.setIfInBounds_toArray, List.set_cons_zero, List.set_cons_succ]))
  refine PlanB.step rfl rfl (fun Kk hKk => ?_)
  go_simp
  go_at_call 22
  refine HLO.out.mono ?_
  rintro e w1 ⟨rfl, hbw0⟩
  have HBW := Lib.hid hbw0
  have hbw : Below w.heap.size w w1 := ((Below.refl _ w).drew).trans hbw0
  clear hbw0
  have hb1 : Whole w1 p 58 _ := HB.out.below hbw hlt
  have ho1 : HoldB w1 base (.slice A L c) (sure ++ loose) := HO.out.mv (Mv.of_new hbw (fun _ => False)) (fun _ _ h => h)
  have hm1 : Mv (TapeD p ov) w w1 := Mv.of_new hbw _
  have hs1 : base ≤ w1.heap.size := Nat.le_trans hs hm1.size
  clear c2
  have HB1 := Lib.hid hb1; clear hb1
  have HO1 := Lib.hid ho1; clear ho1
  have HM1 := Lib.hid hm1; clear hm1
  refine hKk.out _ _ HBW.out ?_
  clear hKk Kk HBW hbw HO HB
  (try simp only [Act.put, List.setIfInBounds_toArray, List.set_cons_zero, List.set_cons_succ])
  repeat (refine PlanB.take (v := ?_) rfl rfl ?_ ?_; rotate_left; (focus (intro W hW; go_simp; (try with_reducible rfl); done)); (try simp only [Act.put, List.setIfInBounds_toArray, List.set_cons_zero, List.set_cons_succ]))
  simp only [PlanB]
  clear hwE hK hK0
  have q1 := HB1.out.cell 1 _ rfl
  have q2 := HB1.out.cell 2 _ rfl
  have q3 := HB1.out.cell 3 _ rfl
  have q4 := HB1.out.cell 4 _ rfl
  have q5 := HB1.out.cell 5 _ rfl
  have qf1 := HB1.out.frozen 1
  have qf2 := HB1.out.frozen 2
  have qf3 := HB1.out.frozen 3
  have qf4 := HB1.out.frozen 4
  have qf5 := HB1.out.frozen 5
  have hw1 : w1.heap.size > p := HB1.out.size
  by_cases hKm2 : K = m
  · have hx : ¬ ((E : Int) < (L : Int)) := by have := HE.out; have := HL.out; omega
    have hEc : (E : Int) ≤ (c : Int) := by omega
    have HEL := Lib.hid hEL
    have HKM := Lib.hid hKm2
    clear hEL hLc hKm2 hKm k1 k2 k3
    go_wp2_with fail
    go_end0
    refine ⟨rfl, crash_tail HB1.out HO1.out HX.out HEL.out ?_ HV.out (HV.out ▸ HAP.out) hp hs1 HK.out HM1.out⟩
    have h1 := HE.out; have h2 := HL.out; have h3 := HKM.out
    rw [Tp.kept_all loose keep turn (by have := HMIN.out; have := HM.out; omega), List.take_of_length_le (by have := HX.out; omega)]
  · have hx : (E : Int) < (L : Int) := by have := HE.out; have := HL.out; omega
    have hlt2 : K < loose.length := by have := HM.out; omega
    by_cases ht : turn = 0
    · subst ht
      have hEc : (E : Int) ≤ (c : Int) := by omega
      have HEL := Lib.hid hEL
      have HKM := Lib.hid hlt2
      have ht0 : ((0 : UInt8).toNat : Int) = 0 := rfl
      rw [ht0]
      clear hEL hLc hKm2 hKm k1 k2 k3 hlt2 ht0
      go_wp2_with fail
      go_end0
      refine ⟨rfl, crash_tail HB1.out HO1.out HX.out HEL.out ?_ HV.out (HV.out ▸ HAP.out) hp hs1 HK.out HM1.out⟩
      rw [Tp.kept_cut loose keep K HMIN.out HKM.out, List.take_append, List.take_of_length_le (by have := HE.out; have := HN.out; omega)]
      congr 2
      have := HE.out; have := HN.out; omega
    · have hEn : E = sure.length + K := by have h1 := HE.out; have h2 := HN.out; omega
      have hLr : (L : Int) ≤ room := by rw [HL.out]; exact k3
      have hge : sure.length ≤ E := by omega
      have hsub : E - sure.length = K := by omega
      obtain ⟨X, hX⟩ : ∃ X, X = loose[K] ^^^ turn := ⟨_, rfl⟩
      obtain ⟨A0, hA0, hcell⟩ : ∃ g, A = some ⟨g, 0, none⟩ ∧ w1.cell? ⟨g, E, none⟩ = some (.int .u8 (loose[K].toNat : Int)) := by
        obtain ⟨A', c', e, _, hi⟩ := HO1.out.rdB.at
        have hEl : E < (sure ++ loose).length := by rw [HX.out]; omega
        rcases HO1.out.form with ⟨e0, e1⟩ | ⟨g, cap, e0, _, _, _⟩
        · rw [e1] at hEl; simp at hEl
        · injection e0 with e0 _ _
          refine ⟨g, e0, ?_⟩
          obtain ⟨b, o, hA, _, hc⟩ := hi E hEl
          injection e with e _ _
          rw [← e, e0] at hA
          injection hA with hA
          injection hA with h1 h2 _
          subst h1 h2
          rw [Nat.zero_add] at hc
          rw [hc, List.getElem_append_right hge]
          simp only [hsub]
      subst hA0
      have hfz : w1.frozen? ⟨A0, E, none⟩ = false := by
        rcases HO1.out with ⟨e0, _⟩ | ⟨g, cap, cur, e0, _, hh, _⟩
        · cases e0
        · injection e0 with e0 _ _
          injection e0 with e0
          injection e0 with e0
          subst e0
          simp [World.frozen?, hh]
      have hA0p : A0 ≠ p := fun e => HAP.out (by rw [e]; rfl)
      have hpA0 : p ≠ A0 := Ne.symm hA0p
      have hx8 : bits .xor .u8 (loose[K].toNat : Int) (turn.toNat : Int) = (X.toNat : Int) := by
        rw [hX, xor8 (byte_lt _) (byte_lt _)]; simp
      have htn : ¬ ((turn.toNat : Int) = 0) := by
        intro h0
        exact ht (UInt8.toNat_inj.1 (by simpa using h0))
      obtain ⟨F, hF⟩ : ∃ F, F = E + 1 := ⟨_, rfl⟩
      have hwF : IntKind.i64.wrap ((E : Int) + 1) = (F : Int) := by rw [wrap_small _ (by omega) (by omega)]; omega
      have hFc : (F : Int) ≤ (c : Int) := by omega
      have hFL : F ≤ L := by omega
      have hELn : E < L := by omega
      have HEL := Lib.hid hFL
      have HKM := Lib.hid hlt2
      have HT := Lib.hid ht
      have HF := Lib.hid hF
      have HEN := Lib.hid hEn
      have HXX := Lib.hid hX
      generalize hY0 : (loose[K].toNat : Int) = Y0 at hcell hx8
      clear hEL hLc hKm2 hKm k1 k2 k3 hF hFL ht hX hY0 hEn hLr hge hsub
      go_wp2_with fail
      go_end0
      have hK2 : K < loose.length := hlt2
      have hset : ((sure ++ loose).set E X).take F = sure ++ Tp.kept loose keep turn := by
        rw [Tp.kept_turn loose keep turn HT.out K HMIN.out hK2, ← HXX.out, HF.out, HEN.out]
        exact cut_set sure loose K hK2 X
      refine ⟨rfl, crash_tail (HB1.out.away (p := ⟨A0, E, none⟩) hpA0 _) (HO1.out.set E (by rw [HX.out]; exact hELn) X) (by rw [List.length_set]; exact HX.out) HEL.out hset HV.out (HV.out ▸ HAP.out) hp (by simpa using hs1) HK.out (HM1.out.setCell (p := ⟨A0, E, none⟩) (fun _ => .inr HV.out) _)⟩
end Go.Proofs.Ythoheikbpihflaa

/- Blocks that are known whole: a struct behind a pointer, a variable of the call's own. Appends that say what else they leave. Bytes that may have been cut off ahead of their block's end; what moves and what stays. (For seats with bytes.) What moves and what stays: Hold has it. What a slice reads as, and which blocks it does not lie in: for whatever element type. Spans of keys over any linear order: what joining, cutting out and building from ends give, in plain lists. (For seats whose reference asks Has alone.) What the small functions of the span layer's reference answer: contracts, each for every argument and every world. (For seats whose reference joins no spans.) A pair's cells. A region whose operations may come in more than one order, walked in one order that is laid down beforehand: whatever yields the same in every world of a kind is taken when it comes up, and whatever else can come up alone is carried out. A region whose operations may come in more than one order, walked in one order that is laid down beforehand; whatever is taken yields the same in every world that keeps what stands now. Changes and pairs: their cells, slices of them; what the reference's Check, All and Span answer. -/
import Derived.Test.YtbifnogocmgddaaGreatFaa
import Derived.Test.YtbifnogocmgddaaGreatRows
import Derived.WalkKit
import Derived.WalkSpells
import Derived.WalkLawsBesides
import Derived.Lib.Hide
import Derived.Sort.Walk0
import Derived.Lib.MinMaxS
import Derived.OneCell
import Derived.OwnWalk
import Derived.Laws.OwnMore
import Derived.Deep.RegionHeld3
namespace Go.Proofs.YtbifnogocmgddaaGreat
open Go.RowKit

/-- block g holds just these cells, of this type -/
def Whole (w : World) (g : Nat) (t : TypeId) (cs : List Value) : Prop := w.heap[g]? = some (.cells cs.toArray t (0, 0))
section
variable {w w' : World} {g : Nat} {t : TypeId} {cs : List Value}
set_option maxRecDepth 100000 in
theorem Whole.size (h : Whole w g t cs) : g < w.heap.size := by
  unfold Whole at h
  rcases Nat.lt_or_ge g w.heap.size with hl | hl
  · exact hl
  · rw [Array.getElem?_eq_none hl] at h; cases h
set_option maxRecDepth 100000 in
theorem Whole.cell (h : Whole w g t cs) (i : Nat) (v : Value) (hv : cs[i]? = some v) : w.cell? ⟨g, i, none⟩ = some v := by
  unfold Whole at h
  simp only [World.cell?, h, List.getElem?_toArray]
  exact hv
set_option maxRecDepth 100000 in
theorem Whole.frozen (h : Whole w g t cs) (i : Nat) : w.frozen? ⟨g, i, none⟩ = false := by
  unfold Whole at h
  simp [World.frozen?, h]
set_option maxRecDepth 100000 in
theorem Whole.fresh (w : World) (t : TypeId) (cs : List Value) : Whole (w.alloc (.cells cs.toArray t)) w.heap.size t cs := heap_alloc_new w _
set_option maxRecDepth 100000 in
theorem Whole.alloc (h : Whole w g t cs) (o : Obj) : Whole (w.alloc o) g t cs := (Below.heap_alloc w o g h.size).trans h
set_option maxRecDepth 100000 in
theorem Whole.put (h : Whole w g t cs) (i : Nat) (u : Value) : Whole (w.setCell ⟨g, i, none⟩ u) g t (cs.set i u) := by
  unfold Whole at h ⊢
  simp [World.setCell, Array.getElem?_modify, h]
set_option maxRecDepth 100000 in
theorem Whole.away (h : Whole w g t cs) {p : Addr} (hp : g ≠ p.block) (u : Value) : Whole (w.setCell p u) g t cs := (Below.heap_setCell w p u g hp).trans h
set_option maxRecDepth 100000 in
theorem Whole.below {B : Nat} (h : Whole w g t cs) (hb : Below B w w') (hg : g < B) : Whole w' g t cs := (hb.block g hg).trans h
set_option maxRecDepth 100000 in
theorem Whole.grown {row : Option Nat} (h : Whole w g t cs) (hg : w.grownBy w' row) (hr : some g ≠ row) : Whole w' g t cs := (hg.block g h.size hr).trans h
set_option maxRecDepth 100000 in
theorem Whole.drewN (h : Whole w g t cs) (n : Nat) : Whole (w.drewN n) g t cs := h
set_option maxRecDepth 100000 in
theorem Whole.drew (h : Whole w g t cs) : Whole w.drew g t cs := h
set_option maxRecDepth 100000 in
/-- blocks of unlike types are not one -/
theorem Whole.apart {t' : TypeId} {cs' : List Value} {g' : Nat} (h : Whole w g t cs) (h' : Whole w g' t' cs') (hne : t ≠ t') : g ≠ g' := by
  rintro rfl
  unfold Whole at h h'
  rw [h] at h'
  injection h' with h'
  injection h' with _ ht
  exact hne ht
end
set_option maxRecDepth 100000 in
/-- a slice of the call's own and a block of another type are not one -/
theorem Own.apart {α : Type} {enc : α → List Value} {k : Nat} {e t : TypeId} {w : World} {base g : Nat} {v : Value} {l : List α} {cs : List Value} (h : Own enc k e w base v l) (hg : Whole w g t cs) (hne : e ≠ t) : some g ≠ v.ownBlock := by
  rcases h.2 with ⟨rfl, _⟩ | ⟨g', cap, cur, rfl, _, hh, _⟩
  · simp [Value.ownBlock]
  · intro he
    have : g = g' := by simpa [Value.ownBlock] using he
    subst this
    unfold Whole at hg
    rw [hg] at hh
    injection hh with hh
    injection hh with _ ht
    exact hne ht.symm
set_option maxRecDepth 100000 in
/-- a store into such a block leaves what the slice holds -/
theorem Own.put {α : Type} {enc : α → List Value} {k : Nat} {e t : TypeId} {w : World} {base g : Nat} {v : Value} {l : List α} {cs : List Value} (h : Own enc k e w base v l) (hg : Whole w g t cs) (hne : e ≠ t) (i : Nat) (u : Value) : Own enc k e (w.setCell ⟨g, i, none⟩ u) base v l := by
  refine ⟨h.1, ?_⟩
  rcases h.2 with h2 | ⟨g', cap, cur, hv, hb, hh, r⟩
  · exact .inl h2
  · refine .inr ⟨g', cap, cur, hv, hb, ?_, r⟩
    have hd : g' ≠ g := by
      rintro rfl
      unfold Whole at hg
      rw [hg] at hh
      injection hh with hh
      injection hh with _ ht
      exact hne ht.symm
    exact (Below.heap_setCell w ⟨g, i, none⟩ u g' hd).trans hh

section
variable {ops : Array Oper} {rest : List Oper} {o : Oper} {a : Act} {Q : Exit → Act → World → Prop} {w : World}
set_option maxRecDepth 100000 in
/-- bytes appended; what grew is told -/
theorem wpList_addBG (hgd : Region.wanted o (yielded ops a.tmps) = true) (s x : Operand)
    (ho : o.op = .call { callee := .builtin .append, args := #[s, x], argTypes := #[51, 51] })
    (base : Nat) (v : Value) (l : List UInt8) (hs : a.eval s = v) (hown : OwnB w base v l) (B : Nat) (v2 : Value) (p : List UInt8) (hx : a.eval x = v2) (hp : RdB w B v2 p)
    (hlen : l.length + p.length ≤ 225179981368000) (hbase : base ≤ w.heap.size)
    (h : ∀ A' c' w', Hid (OwnB w' base (.slice A' (l ++ p).length c') (l ++ p)) → Hid (w.grownBy w' v.ownBlock) → wpList Tryz.prog ops Q rest (a.put o.dst (.slice A' (l ++ p).length c')) w') : wpList Tryz.prog ops Q (o :: rest) a w := by
  obtain ⟨i0, hi, hz0, hz1, hz2⟩ := info_parts info_u8
  refine BigFrame.wpList_want hgd fun K hK => ?_
  refine wp_addAny (enc := byteEnc) (k := 1) 51 5 1 i0 _ Tryz.underlying51 hi hz0 hz1 hz2 rfl (by decide) byteEnc_len byteEnc_one s x ho base v l hs hown B v2 p hx hp (by unfold maxLen; omega) (by omega) hbase fun A' c' w' h1 h2 => ?_
  exact hK _ _ (h A' c' w' (Lib.hid h1) (Lib.hid h2))
set_option maxRecDepth 100000 in
/-- a text's bytes appended; what grew is told -/
theorem wpList_addStrG (hw : Region.wanted o (yielded ops a.tmps) = true) (sl x : Operand)
    (ho : o.op = .call { callee := .builtin .append, args := #[sl, x], argTypes := #[51, 9] })
    (base : Nat) (v : Value) (l : List UInt8) (hs : a.eval sl = v) (hown : OwnB w base v l) (s : ByteArray) (hx : a.eval x = .string s)
    (hlen : l.length + s.size ≤ 225179981368000) (hs47 : s.size ≤ 140737488355328) (hbase : base ≤ w.heap.size)
    (h : ∀ A' c' w', Hid (OwnB w' base (.slice A' (l ++ s.data.toList).length c') (l ++ s.data.toList)) → Hid (w.grownBy w' v.ownBlock) → wpList Tryz.prog ops Q rest (a.put o.dst (.slice A' (l ++ s.data.toList).length c')) w') : wpList Tryz.prog ops Q (o :: rest) a w := by
  refine BigFrame.wpList_want hw fun K hK => ?_
  obtain ⟨v', w', hr, h2, h3⟩ := run_append_str w base o.type v l hown s hlen hs47 hbase
  have hv : ∃ A' c', v' = .slice A' (l ++ s.data.toList).length c' := by
    rcases h2.form with ⟨hv, h0⟩ | ⟨g, cap, hv, _⟩
    · exact ⟨none, 0, by rw [h0]; exact hv⟩
    · exact ⟨_, _, hv⟩
  obtain ⟨A', c', rfl⟩ := hv
  unfold Oper.wp execOp
  simp only [ho, resolve, invoke, builtin, Sem.run_bind, Sem.run_pure, Result.andThen_ok, List.map_toArray, List.map_cons, List.map_nil, hs, hx, hr]
  exact hK _ _ (h A' c' w' (Lib.hid h2) (Lib.hid h3))
end
end Go.Proofs.YtbifnogocmgddaaGreat
namespace Go.Proofs.YtbifnogocmgddaaGreat
open Go.RowKit

/-- of the blocks that were there those of D alone have moved -/
structure Mv (D : Nat → Prop) (w w' : World) : Prop where
  os : w'.os = w.os
  tape : w'.tape = w.tape
  output : w'.output = w.output
  size : w.heap.size ≤ w'.heap.size
  block : ∀ i, i < w.heap.size → ¬ D i → w'.heap[i]? = w.heap[i]?
namespace Mv
variable {D D' : Nat → Prop} {w w' w2 : World}
theorem refl (D : Nat → Prop) (w : World) : Mv D w w := ⟨rfl, rfl, rfl, Nat.le_refl _, fun _ _ _ => rfl⟩
theorem mono (h : Mv D w w') (hD : ∀ i, i < w.heap.size → D i → D' i) : Mv D' w w' := ⟨h.os, h.tape, h.output, h.size, fun i hi hn => h.block i hi fun hd => hn (hD i hi hd)⟩
theorem trans (h : Mv D w w') (h2 : Mv D' w' w2) (hD : ∀ i, i < w.heap.size → D' i → D i) : Mv D w w2 :=
  ⟨h2.os.trans h.os, h2.tape.trans h.tape, h2.output.trans h.output, Nat.le_trans h.size h2.size, fun i hi hn => (h2.block i (Nat.lt_of_lt_of_le hi h.size) fun hd => hn (hD i hi hd)).trans (h.block i hi hn)⟩
theorem of_grown {row : Option Nat} (h : w.grownBy w' row) : Mv (fun i => some i = row) w w' := ⟨h.os, h.tape, h.output, h.size, fun i hi hn => h.block i hi hn⟩
theorem grown {row : Option Nat} (h : Mv D w w') (h2 : w'.grownBy w2 row) (hD : ∀ i, i < w.heap.size → some i = row → D i) : Mv D w w2 := h.trans (of_grown h2) hD
theorem alloc (h : Mv D w w') (o : Obj) : Mv D w (w'.alloc o) :=
  h.trans (D' := fun _ => False) ⟨rfl, rfl, rfl, by simp, fun i hi _ => Below.heap_alloc w' o i hi⟩ (fun _ _ h => h.elim)
theorem setCell (h : Mv D w w') {p : Addr} (hp : p.block < w.heap.size → D p.block) (u : Value) : Mv D w (w'.setCell p u) := by
  refine h.trans (D' := fun i => i = p.block) ⟨rfl, rfl, rfl, by simp, fun i hi hn => Below.heap_setCell w' p u i hn⟩ ?_
  rintro i hi rfl
  exact hp hi
theorem drew (h : Mv D w w') : Mv D w w'.drew := ⟨h.os, h.tape, h.output, h.size, h.block⟩
theorem below {B : Nat} (h : Mv D w w') (hB : B ≤ w.heap.size) (hD : ∀ i, D i → B ≤ i) : Below B w w' :=
  ⟨h.os, h.tape, h.output, h.size, fun k hk => h.block k (Nat.lt_of_lt_of_le hk hB) fun hd => by have := hD k hd; omega⟩
theorem of_below {B : Nat} (h : Below B w w') : Mv (fun i => B ≤ i) w w' := ⟨h.os, h.tape, h.output, h.size, fun i _ hn => h.block i (by omega)⟩
theorem of_new (h : Below w.heap.size w w') (D : Nat → Prop) : Mv D w w' := ⟨h.os, h.tape, h.output, h.size, fun i hi _ => h.block i hi⟩
theorem whole {g : Nat} {t : TypeId} {cs : List Value} (hg : Whole w g t cs) (h : Mv D w w') (hn : ¬ D g) : Whole w' g t cs := (h.block g hg.size hn).trans hg
end Mv

/-- a slice of bytes of the call's own; behind it its block may go on -/
def HoldB (w : World) (base : Nat) (v : Value) (l : List UInt8) : Prop :=
  (v = .slice none 0 0 ∧ l = []) ∨ ∃ g cap cur, v = .slice (some ⟨g, 0, none⟩) l.length cap ∧ base ≤ g ∧ w.heap[g]? = some (.cells cur 5 (0, 0)) ∧ l.length ≤ cap ∧ cap ≤ maxLen ∧ cap ≤ cur.size ∧ cur.toList.take l.length = cellsB l
section
variable {w w' : World} {base : Nat} {v : Value} {l : List UInt8}
theorem HoldB.nil (w : World) (base : Nat) : HoldB w base (.slice none 0 0) [] := .inl ⟨rfl, rfl⟩
set_option maxRecDepth 100000 in
theorem HoldB.ofOwn (h : OwnB w base v l) : HoldB w base v l := by
  rcases h.2 with ⟨hv, h0⟩ | ⟨g, cap, cur, hv, hb, hh, hn, hm, hs, ht⟩
  · exact .inl ⟨hv, List.eq_nil_of_length_eq_zero h0⟩
  · rw [flat_cellsB, Nat.mul_one] at ht
    exact .inr ⟨g, cap, cur, hv, hb, hh, hn, hm, by omega, ht⟩
set_option maxRecDepth 100000 in
theorem HoldB.form (h : HoldB w base v l) : (v = .slice none 0 0 ∧ l = []) ∨ ∃ g cap, v = .slice (some ⟨g, 0, none⟩) l.length cap ∧ base ≤ g ∧ g < w.heap.size ∧ l.length ≤ cap := by
  rcases h with h | ⟨g, cap, cur, hv, hb, hh, hn, _⟩
  · exact .inl h
  · exact .inr ⟨g, cap, hv, hb, (Array.getElem?_eq_some_iff.1 hh).1, hn⟩
set_option maxRecDepth 100000 in
theorem HoldB.low (h : HoldB w base v l) {i : Nat} (hi : v.ownBlock = some i) : base ≤ i ∧ i < w.heap.size := by
  rcases h.form with ⟨rfl, _⟩ | ⟨g, cap, rfl, hb, hl, _⟩
  · cases hi
  · simp only [Value.ownBlock, Option.some.injEq] at hi
    subst hi
    exact ⟨hb, hl⟩
set_option maxRecDepth 100000 in
theorem HoldB.cells {g : Nat} {cur : Array Value} (hh : w.heap[g]? = some (.cells cur 5 (0, 0))) (ht : cur.toList.take l.length = cellsB l) (j : Nat) (u : Value) (hu : (cellsB l)[j]? = some u) : w.cell? ((⟨g, 0, none⟩ : Addr).add j) = some u := by
  have hadd : (⟨g, 0, none⟩ : Addr).add j = ⟨g, 0 + j, none⟩ := by unfold Addr.add; split <;> simp_all
  rw [hadd, Nat.zero_add]
  simp only [World.cell?, hh]
  rw [← ht, List.getElem?_take] at hu
  split at hu
  · simpa using hu
  · cases hu
set_option maxRecDepth 100000 in
theorem HoldB.rdB (h : HoldB w base v l) : RdB w w.heap.size v l := by
  rcases h with ⟨rfl, rfl⟩ | ⟨g, cap, cur, rfl, hb, hh, hn, hm, hs, ht⟩
  · exact Rd.nil _ _
  · refine ⟨_, cap, rfl, hn, fun i hi => ⟨g, 0, rfl, (Array.getElem?_eq_some_iff.1 hh).1, fun j u hu => ?_⟩⟩
    match j, hu with
    | 0, hu =>
      simp only [byteEnc, List.getElem?_cons_zero, Option.some.injEq] at hu
      subst hu
      have := HoldB.cells hh ht i _ (cellsB_get l i hi)
      have hadd : (⟨g, 0, none⟩ : Addr).add i = ⟨g, 0 + i, none⟩ := by unfold Addr.add; split <;> simp_all
      rw [hadd] at this
      simpa using this
    | j + 1, hu => simp [byteEnc] at hu
theorem HoldB.mv {D : Nat → Prop} (h : HoldB w base v l) (hm : Mv D w w') (hn : ∀ g, v.ownBlock = some g → ¬ D g) : HoldB w' base v l := by
  rcases h with h | ⟨g, cap, cur, rfl, hb, hh, r⟩
  · exact .inl h
  · exact .inr ⟨g, cap, cur, rfl, hb, (hm.block g (Array.getElem?_eq_some_iff.1 hh).1 (hn g rfl)).trans hh, r⟩
theorem HoldB.alloc (h : HoldB w base v l) (o : Obj) : HoldB (w.alloc o) base v l := h.mv ((Mv.refl (fun _ => False) w).alloc o) (fun _ _ h => h)
set_option maxRecDepth 100000 in
theorem HoldB.apart {g : Nat} {t : TypeId} {cs : List Value} (h : HoldB w base v l) (hg : Whole w g t cs) (hne : 5 ≠ t) : v.ownBlock ≠ some g := by
  rcases h with ⟨rfl, _⟩ | ⟨g', cap, cur, rfl, hb, hh, r⟩
  · simp [Value.ownBlock]
  · intro he
    simp only [Value.ownBlock, Option.some.injEq] at he
    subst he
    unfold Whole at hg
    rw [hg] at hh
    injection hh with hh
    injection hh with _ ht
    exact hne ht.symm
/-- the first n of them, with nothing behind -/
theorem HoldB.cut {A : Option Addr} {m c : Nat} (h : HoldB w base (.slice A m c) l) (n : Nat) (hn : n ≤ l.length) : HoldB w base (.slice A n n) (l.take n) := by
  rcases h with ⟨hv, rfl⟩ | ⟨g, cap, cur, hv, hb, hh, h1, h2, h3, h4⟩
  · injection hv with h1 _ _
    subst h1
    obtain rfl : n = 0 := by simpa using hn
    exact .inl ⟨rfl, rfl⟩
  · injection hv with e1 _ _
    subst e1
    refine .inr ⟨g, n, cur, by simp [Nat.min_eq_left hn], hb, hh, by simp; omega, by omega, by omega, ?_⟩
    rw [List.length_take, Nat.min_eq_left hn, show cellsB (l.take n) = (cellsB l).take n by simp [cellsB], ← h4, List.take_take, Nat.min_eq_left hn]
/-- one of them turned -/
theorem HoldB.set {g m c : Nat} (h : HoldB w base (.slice (some ⟨g, 0, none⟩) m c) l) (i : Nat) (hi : i < l.length) (x : UInt8) : HoldB (w.setCell ⟨g, i, none⟩ (.int .u8 (x.toNat : Int))) base (.slice (some ⟨g, 0, none⟩) m c) (l.set i x) := by
  rcases h with ⟨hv, _⟩ | ⟨g', cap, cur, hv, hb, hh, h1, h2, h3, h4⟩
  · cases hv
  · injection hv with e1 e2 e3
    injection e1 with e1
    injection e1 with e1
    subst e1 e2 e3
    have hs : i < cur.size := by omega
    refine .inr ⟨g, c, cur.set! i (.int .u8 (x.toNat : Int)), by simp, hb, ?_, by simpa using h1, h2, by simpa using h3, ?_⟩
    · simp [World.setCell, Array.getElem?_modify, hh]
    · rw [List.length_set, cellsB_set, ← h4]
      simp [List.take_set]
end

section
variable {ops : Array Oper} {rest : List Oper} {o : Oper} {a : Act} {Q : Exit → Act → World → Prop} {w : World}
/-- the row is the same, or a new one, or none -/
def NewRow (w : World) (o o' : Option Nat) : Prop := ∀ g, o' = some g → o = some g ∨ w.heap.size ≤ g
theorem NewRow.refl (w : World) (o : Option Nat) : NewRow w o o := fun _ h => .inl h
theorem NewRow.out {w : World} {o o' : Option Nat} (h : NewRow w o o') {r : Nat} (hr : r < w.heap.size) (hn : o ≠ some r) : o' ≠ some r := by
  intro he
  rcases h r he with h1 | h1
  · exact hn h1
  · omega
theorem NewRow.low {w : World} {base : Nat} {o o' : Option Nat} (h : NewRow w o o') (hb : base ≤ w.heap.size) (hl : ∀ g, o = some g → base ≤ g) : ∀ g, o' = some g → base ≤ g := by
  intro g he
  rcases h g he with h1 | h1
  · exact hl g h1
  · omega
theorem NewRow.trans {w w' : World} {o o' o2 : Option Nat} (h : NewRow w o o') (h2 : NewRow w' o' o2) (hs : w.heap.size ≤ w'.heap.size) : NewRow w o o2 := by
  intro g he
  rcases h2 g he with h1 | h1
  · exact h g h1
  · exact .inr (Nat.le_trans hs h1)
set_option maxRecDepth 100000 in
theorem run_append_hold (w : World) (base B : Nat) (ty : TypeId) (v v2 : Value) (l p : List UInt8) (ho : HoldB w base v l) (hp : RdB w B v2 p) (hlen : l.length + p.length ≤ 225179981368000) (hb : base ≤ w.heap.size) :
    ∃ A' c' w', (Builtin.append_ #[51, 51] ty #[v, v2]).run Tryz.prog w = .ok (.slice A' (l ++ p).length c') w' ∧ HoldB w' base (.slice A' (l ++ p).length c') (l ++ p) ∧ w.grownBy w' v.ownBlock ∧ NewRow w v.ownBlock (Value.ownBlock (.slice A' (l ++ p).length c')) := by
  obtain ⟨i0, hi, hz0, hz1, hz2⟩ := info_parts info_u8
  obtain ⟨A2, c2, rfl, hc2, hcell⟩ := hp.at
  have hself : w.grownBy w v.ownBlock := ⟨rfl, rfl, rfl, Nat.le_refl _, fun _ _ _ => rfl⟩
  rcases hpn : p with _ | ⟨x, r⟩
  · -- nothing is appended
    have hform : ∃ A c, v = .slice A l.length c ∧ l.length ≤ c := by
      rcases ho.form with ⟨rfl, rfl⟩ | ⟨g, cap, rfl, _, _, hn⟩
      · exact ⟨none, 0, rfl, Nat.le_refl _⟩
      · exact ⟨_, cap, rfl, hn⟩
    obtain ⟨A, c, rfl, hn⟩ := hform
    subst hpn
    refine ⟨A, c, w, ?_, by simpa using ho, hself, fun _ h => .inl (by simpa using h)⟩
    cases A2 with
    | none => simp [Builtin.append_, run_underlying Tryz.underlying51, sizeOf, typeInfo, hi, Builtin.lenOf, Builtin.firstCells, hn, storeCells]; cases A <;> simp_all
    | some a2 => simp [Builtin.append_, run_underlying Tryz.underlying51, sizeOf, typeInfo, hi, Builtin.lenOf, Builtin.firstCells, hn, storeCells, loadCells, loadCellsFrom]; cases A <;> simp_all
  · obtain ⟨b, o', hA, _, _⟩ := hcell 0 (by rw [hpn]; simp)
    rw [← hpn]
    have hpos : 0 < p.length := by rw [hpn]; simp
    subst hA
    have hnews : ∀ j u, (cellsB p)[j]? = some u → w.cell? ((⟨b, o', none⟩ : Addr).add j) = some u := by
      intro j u hu
      have hj : j < p.length := by
        rcases Nat.lt_or_ge j p.length with h' | h'
        · exact h'
        · rw [List.getElem?_eq_none (by rw [cellsB_len]; exact h')] at hu; cases hu
      obtain ⟨b2, o2, hA2, _, h2⟩ := hcell j hj
      simp only [Option.some.injEq, Addr.mk.injEq, and_true] at hA2
      obtain ⟨rfl, rfl⟩ := hA2
      rw [cellsB_get p j hj] at hu
      simp only [Option.some.injEq] at hu
      subst hu
      have hadd : (⟨b, o', none⟩ : Addr).add j = ⟨b, o' + j, none⟩ := by unfold Addr.add; split <;> simp_all
      rw [hadd]
      exact h2
    have hpl := cellsB_len p
    have hll : (l ++ p).length = l.length + p.length := by simp
    have e63 : maxLen = 9223372036854775807 := rfl
    rcases ho with ⟨rfl, rfl⟩ | ⟨g, cap, cur, rfl, hbg, hh, hn, hm, hs, ht⟩
    · have hr := run_append_nil (P := Tryz.prog) w 51 ty 5 i0 _ Tryz.underlying51 hi hz0 ⟨b, o', none⟩ p.length c2 (cellsB p) (by rw [hz1, hpl, Nat.mul_one]) hnews hpos (by simp at hlen; omega) (by rw [hz2]; simp at hlen; omega)
      have hge := grownCap_ge w p.length 0 5
      have hgm := grownCap_le_maxLen w p.length 0 5 (by unfold maxLen; simp at hlen; omega)
      simp only [List.nil_append]
      refine ⟨_, _, _, hr, .inr ⟨w.heap.size, _, _, rfl, hb, heap_alloc_new w.drew _, hge, hgm, ?_, ?_⟩, ⟨rfl, rfl, rfl, by simp, fun k hk _ => heap_alloc_old w.drew _ hk⟩, fun g hg => .inr (by injection hg with hg; simp only at hg; omega)⟩
      · have hz : (Value.int IntKind.u8 0).cells.size = 1 := rfl
        simp only [Array.size_append, List.size_toArray, size_zeroCells, hz, hpl]
        omega
      · simp only [Array.toList_append]
        exact List.take_left' hpl
    · by_cases hroom : l.length + p.length ≤ cap
      · have hr := run_append_room (P := Tryz.prog) w 51 ty 5 i0 Tryz.underlying51 hi g l.length cap cur hh ⟨b, o', none⟩ p.length c2 (cellsB p) (by rw [hz1, hpl, Nat.mul_one]) hnews (cellsB_one p) hroom (by rw [hz1, hpl]; omega)
        rw [← hll] at hr
        refine ⟨_, _, _, hr, .inr ⟨g, cap, _, rfl, hbg, setRow_heap w g cur _ _ _ hh, by rw [hll]; exact hroom, hm, ?_, ?_⟩, ⟨rfl, rfl, rfl, by simp, fun k _ hk => setRow_other w g k _ (fun e => hk (by simp [Value.ownBlock, e]))⟩, fun _ h => .inl h⟩
        · simp only [List.size_toArray, List.length_append, List.length_take, List.length_drop, Array.length_toList, hpl, hz1]
          omega
        · rw [hz1, Nat.mul_one, ht, cellsB_append, hll]
          exact List.take_left' (by rw [List.length_append, cellsB_len, hpl])
      · have hr := run_append_grow (P := Tryz.prog) w 51 ty 5 i0 _ Tryz.underlying51 hi hz0 ⟨g, 0, none⟩ l.length cap (cellsB l) (by rw [hz1, cellsB_len, Nat.mul_one]) (HoldB.cells hh ht) ⟨b, o', none⟩ p.length c2 (cellsB p) (by rw [hz1, hpl, Nat.mul_one]) hnews (by omega) (by omega) (growslice_fits_wide (by omega) (by rw [hz2]; omega))
        have hge := grownCap_ge w (l.length + p.length) cap 5
        have hgm := grownCap_le_maxLen w (l.length + p.length) cap 5 (by unfold maxLen; omega)
        rw [← hll] at hr
        refine ⟨_, _, _, hr, .inr ⟨w.heap.size, _, _, rfl, hb, heap_alloc_new w.drew _, by rw [hll]; exact hge, by rw [hll]; exact hgm, ?_, ?_⟩, ⟨rfl, rfl, rfl, by simp, fun k hk _ => heap_alloc_old w.drew _ hk⟩, fun g hg => .inr (by injection hg with hg; simp only at hg; omega)⟩
        · have hz : (Value.int IntKind.u8 0).cells.size = 1 := rfl
          simp only [Array.size_append, List.size_toArray, size_zeroCells, hz, hpl, cellsB_len]
          omega
        · simp only [Array.toList_append, cellsB_append]
          exact List.take_left' (by rw [List.length_append, cellsB_len, hpl, hll])

set_option maxRecDepth 100000 in
/-- bytes appended to such a slice -/
theorem wpList_addH (hgd : Region.wanted o (yielded ops a.tmps) = true) (s x : Operand)
    (ho : o.op = .call { callee := .builtin .append, args := #[s, x], argTypes := #[51, 51] })
    (base : Nat) (v : Value) (l : List UInt8) (hs : a.eval s = v) (hown : HoldB w base v l) (B : Nat) (v2 : Value) (p : List UInt8) (hx : a.eval x = v2) (hp : RdB w B v2 p)
    (hlen : l.length + p.length ≤ 225179981368000) (hbase : base ≤ w.heap.size)
    (h : ∀ A' c' w', Hid (HoldB w' base (.slice A' (l ++ p).length c') (l ++ p)) → Hid (w.grownBy w' v.ownBlock) → Hid (NewRow w v.ownBlock (Value.ownBlock (.slice A' (l ++ p).length c'))) → wpList Tryz.prog ops Q rest (a.put o.dst (.slice A' (l ++ p).length c')) w') : wpList Tryz.prog ops Q (o :: rest) a w := by
  refine BigFrame.wpList_want hgd fun K hK => ?_
  obtain ⟨A', c', w', hr, h2, h3, h4⟩ := run_append_hold w base B o.type v v2 l p hown hp hlen hbase
  unfold Oper.wp execOp
  simp only [ho, resolve, invoke, builtin, Sem.run_bind, Sem.run_pure, Result.andThen_ok, List.map_toArray, List.map_cons, List.map_nil, hs, hx, hr]
  exact hK _ _ (h A' c' w' (Lib.hid h2) (Lib.hid h3) (Lib.hid h4))
end
end Go.Proofs.YtbifnogocmgddaaGreat

namespace Go.Proofs.YtbifnogocmgddaaGreat
open Go.RowKit

section
variable {α : Type} {enc : α → List Value} {k : Nat} {e : TypeId}
/-- cells below block B, in no block of G -/
def RdG (enc : α → List Value) (k : Nat) (w : World) (B : Nat) (G : Nat → Prop) (v : Value) (l : List α) : Prop :=
  ∃ A c, v = .slice A l.length c ∧ l.length ≤ c ∧ ∀ i (_ : i < l.length), ∃ b o, A = some ⟨b, o, none⟩ ∧ b < B ∧ ¬ G b ∧ ∀ j u, (enc l[i])[j]? = some u → w.cell? ⟨b, o + i * k + j, none⟩ = some u
variable {w w' : World} {B B' : Nat} {G G' : Nat → Prop} {v : Value} {l : List α}
theorem RdG.rd (h : RdG enc k w B G v l) : Rd enc k w B v l := by
  obtain ⟨A, c, rfl, hc, hi⟩ := h
  refine ⟨A, c, rfl, hc, fun i hs => ?_⟩
  obtain ⟨b, o, hA, hb, _, h1⟩ := hi i hs
  exact ⟨b, o, hA, hb, h1⟩
theorem RdG.of (h : Rd enc k w B v l) (hG : ∀ b, b < B → ¬ G b) : RdG enc k w B G v l := by
  obtain ⟨A, c, rfl, hc, hi⟩ := h
  refine ⟨A, c, rfl, hc, fun i hs => ?_⟩
  obtain ⟨b, o, hA, hb, h1⟩ := hi i hs
  exact ⟨b, o, hA, hb, hG b hb, h1⟩
theorem RdG.mv {D : Nat → Prop} (h : RdG enc k w B G v l) (hm : Mv D w w') (hB : B ≤ w.heap.size) (hD : ∀ b, b < B → D b → G b) : RdG enc k w' B G v l := by
  obtain ⟨A, c, rfl, hc, hi⟩ := h
  refine ⟨A, c, rfl, hc, fun i hs => ?_⟩
  obtain ⟨b, o, hA, hb, hg, h1⟩ := hi i hs
  exact ⟨b, o, hA, hb, hg, fun j u hu => by rw [World.cell?_of_block (w := w) (hm.block b (by omega) (fun h => hg (hD b hb h)))]; exact h1 j u hu⟩
theorem RdG.mono (h : RdG enc k w B G v l) (hB : B ≤ B') (hG : ∀ b, b < B → G' b → G b) : RdG enc k w B' G' v l := by
  obtain ⟨A, c, rfl, hc, hi⟩ := h
  refine ⟨A, c, rfl, hc, fun i hs => ?_⟩
  obtain ⟨b, o, hA, hb, hg, h1⟩ := hi i hs
  exact ⟨b, o, hA, by omega, fun h => hg (hG b hb h), h1⟩
theorem RdG.none_ (w : World) (B : Nat) (G : Nat → Prop) (A : Option Addr) (c : Nat) : RdG enc k w B G (.slice A 0 c) [] := ⟨A, c, rfl, Nat.zero_le _, fun i hi => by simp at hi⟩
theorem RdG.or {G1 G2 : Nat → Prop} (h : RdG enc k w B G1 v l) (h2 : RdG enc k w B G2 v l) : RdG enc k w B (fun i => G1 i ∨ G2 i) v l := by
  obtain ⟨A, c, rfl, hc, hi⟩ := h
  obtain ⟨A2, c2, ee, hc2, hi2⟩ := h2
  injection ee with e1 _ e3
  subst e1 e3
  refine ⟨A, c, rfl, hc, fun i hs => ?_⟩
  obtain ⟨b, o, hA, hb, hg, h1⟩ := hi i hs
  obtain ⟨b2, o2, hA2, _, hg2, _⟩ := hi2 i hs
  rw [hA] at hA2
  injection hA2 with hA2
  injection hA2 with e4
  subst e4
  exact ⟨b, o, hA, hb, fun h => h.elim hg hg2, h1⟩
/-- what is owned from base on -/
theorem RdG.own {base : Nat} (hk : ∀ x, (enc x).length = k) (h : Own enc k e w base v l) (hG : ∀ b, base ≤ b → b < w.heap.size → v.ownBlock = some b → ¬ G b) : RdG enc k w w.heap.size G v l := by
  obtain ⟨A, c, hv, hc, hi⟩ := Own.rd hk h
  refine ⟨A, c, hv, hc, fun i hs => ?_⟩
  obtain ⟨b, o, hA, hb, h1⟩ := hi i hs
  refine ⟨b, o, hA, hb, ?_, h1⟩
  rcases h.form with ⟨_, e0⟩ | ⟨g, cap, ee, hg, _, _⟩
  · rw [e0] at hs; simp at hs
  · rw [hv, hA] at ee
    injection ee with ee _ _
    injection ee with ee
    injection ee with ee _ _
    subst ee
    exact hG b hg hb (by rw [hv, hA]; rfl)
/-- those from n on -/
theorem RdG.drop {A : Option Addr} {c m : Nat} (h : RdG enc k w B G (.slice A m c) l) (n c' : Nat) (hn : n ≤ l.length) (hc' : l.length - n ≤ c') (A' : Option Addr) (hA' : n < l.length → A' = A.map (·.add (n * k))) :
    RdG enc k w B G (.slice A' (l.length - n) c') (l.drop n) := by
  obtain ⟨A0, c0, hv, hc, hi⟩ := h
  injection hv with h1 h2 h3
  subst h1 h3
  refine ⟨A', c', by simp, by simpa using hc', fun i hs => ?_⟩
  have hs' : n + i < l.length := by simp at hs; omega
  obtain ⟨b, o, hA, hb, hg, h1⟩ := hi (n + i) hs'
  refine ⟨b, o + n * k, ?_, hb, hg, fun j u hu => ?_⟩
  · rw [hA' (by omega), hA]
    simp only [Option.map_some, Option.some.injEq]
    unfold Addr.add
    split
    · rename_i hz; rw [hz]; rfl
    · rfl
  · have := h1 j u (by simpa using hu)
    rwa [show o + (n + i) * k + j = o + n * k + i * k + j by rw [Nat.add_mul]; omega] at this
end
end Go.Proofs.YtbifnogocmgddaaGreat
namespace Go.Proofs.YtbifnogocmgddaaGreat
/-- keys stand in the order of their bytes -/
instance : LT ByteArray := ⟨fun a b => a.data.toList < b.data.toList⟩
instance : LE ByteArray := ⟨fun a b => a.data.toList ≤ b.data.toList⟩
instance : DecidableLT ByteArray := fun a b => inferInstanceAs (Decidable (a.data.toList < b.data.toList))
instance : DecidableLE ByteArray := fun a b => inferInstanceAs (Decidable (a.data.toList ≤ b.data.toList))
theorem key_ext {a b : ByteArray} (h : a.data.toList = b.data.toList) : a = b := by
  cases a; cases b; simp at h; simp [h]
instance : Std.LawfulOrderLT ByteArray := ⟨fun a b => Std.LawfulOrderLT.lt_iff a.data.toList b.data.toList⟩
instance : Std.IsLinearOrder ByteArray where
  le_refl a := Std.IsPreorder.le_refl a.data.toList
  le_trans a b c h k := Std.IsPreorder.le_trans a.data.toList b.data.toList c.data.toList h k
  le_antisymm a b h k := key_ext (Std.IsPartialOrder.le_antisymm a.data.toList b.data.toList h k)
  le_total a b := Std.IsLinearPreorder.le_total a.data.toList b.data.toList
abbrev K := ByteArray

/-- a span has a key -/
def has (s : K × K) (k : K) : Prop := s.1 ≤ k ∧ k < s.2
/-- one of the spans has a key -/
def mem (l : List (K × K)) (k : K) : Prop := ∃ s ∈ l, has s k
/-- none empty, rising, none touches the next -/
def Normal : List (K × K) → Prop
  | [] => True
  | s :: r => s.1 < s.2 ∧ (∀ t ∈ r, s.2 < t.1) ∧ Normal r

theorem mem_nil (k : K) : ¬ mem [] k := by simp [mem]
theorem mem_cons (s : K × K) (r : List (K × K)) (k : K) : mem (s :: r) k ↔ has s k ∨ mem r k := by simp [mem]
theorem mem_append (a b : List (K × K)) (k : K) : mem (a ++ b) k ↔ mem a k ∨ mem b k := by simp [mem, or_and_right, exists_or]
theorem mem_perm {a b : List (K × K)} (h : a.Perm b) (k : K) : mem a k ↔ mem b k := by simp [mem, h.mem_iff]

theorem Normal.ne {l : List (K × K)} (h : Normal l) : ∀ t ∈ l, t.1 < t.2 := by
  induction l with
  | nil => simp
  | cons s r ih => intro t ht; rcases List.mem_cons.1 ht with rfl | ht
                   · exact h.1
                   · exact ih h.2.2 t ht
theorem mem_above {s : K × K} {r : List (K × K)} (h : Normal (s :: r)) {k : K} (hk : mem r k) : s.2 < k := by
  obtain ⟨t, ht, h1, _⟩ := hk
  have := h.2.1 t ht
  grind

/-- lists of this form are told apart by their keys -/
theorem normal_ext : ∀ (a b : List (K × K)), Normal a → Normal b → (∀ k, mem a k ↔ mem b k) → a = b
  | [], [], _, _, _ => rfl
  | [], s :: r, _, hb, h => absurd ((h s.1).2 ((mem_cons _ _ _).2 (.inl ⟨Std.IsPreorder.le_refl _, hb.1⟩))) (mem_nil _)
  | s :: r, [], ha, _, h => absurd ((h s.1).1 ((mem_cons _ _ _).2 (.inl ⟨Std.IsPreorder.le_refl _, ha.1⟩))) (mem_nil _)
  | s :: r, t :: q, ha, hb, h => by
    have h1 : s.1 = t.1 := by
      have a1 := (h s.1).1 ((mem_cons _ _ _).2 (.inl ⟨Std.IsPreorder.le_refl _, ha.1⟩))
      have b1 := (h t.1).2 ((mem_cons _ _ _).2 (.inl ⟨Std.IsPreorder.le_refl _, hb.1⟩))
      have a0 := ha.1
      have b0 := hb.1
      rcases (mem_cons _ _ _).1 a1 with a1 | a1 <;> rcases (mem_cons _ _ _).1 b1 with b1 | b1
      · unfold has at a1 b1; grind
      · have := mem_above ha b1; unfold has at a1; grind
      · have := mem_above hb a1; unfold has at b1; grind
      · have := mem_above hb a1; have := mem_above ha b1; grind
    have h2 : s.2 = t.2 := by
      have a0 := ha.1
      have b0 := hb.1
      have na : ¬ mem (s :: r) s.2 := by
        rintro hm
        rcases (mem_cons _ _ _).1 hm with hm | hm
        · unfold has at hm; grind
        · have := mem_above ha hm; grind
      have nb : ¬ mem (t :: q) t.2 := by
        rintro hm
        rcases (mem_cons _ _ _).1 hm with hm | hm
        · unfold has at hm; grind
        · have := mem_above hb hm; grind
      have nb' : ¬ has t s.2 := fun hm => na ((h _).2 ((mem_cons _ _ _).2 (.inl hm)))
      have na' : ¬ has s t.2 := fun hm => nb ((h _).1 ((mem_cons _ _ _).2 (.inl hm)))
      unfold has at na' nb'
      grind
    have hst : s = t := Prod.ext h1 h2
    subst hst
    refine congrArg (s :: ·) (normal_ext r q ha.2.2 hb.2.2 fun k => ?_)
    have hk := h k
    rw [mem_cons, mem_cons] at hk
    constructor
    · intro hm
      have := mem_above ha hm
      rcases hk.1 (.inr hm) with h0 | h0
      · unfold has at h0; grind
      · exact h0
    · intro hm
      have := mem_above hb hm
      rcases hk.2 (.inr hm) with h0 | h0
      · unfold has at h0; grind
      · exact h0

theorem normal_append {a b : List (K × K)} : Normal (a ++ b) ↔ Normal a ∧ Normal b ∧ ∀ s ∈ a, ∀ t ∈ b, s.2 < t.1 := by
  induction a with
  | nil => simp [Normal]
  | cons s r ih =>
    simp only [List.cons_append, Normal, ih, List.mem_append, List.mem_cons]
    constructor
    · rintro ⟨h1, h2, h3, h4, h5⟩
      exact ⟨⟨h1, fun t ht => h2 t (.inl ht), h3⟩, h4, fun u hu t ht => by (rcases hu with rfl | hu); (exact h2 t (.inr ht)); exact h5 u hu t ht⟩
    · rintro ⟨⟨h1, h2, h3⟩, h4, h5⟩
      exact ⟨h1, fun t ht => by ((rcases ht with ht | ht); (exact h2 t ht); exact h5 s (.inl rfl) t ht), h3, h4, fun u hu => h5 u (.inr hu)⟩

/-! ### joining -/
def mx (a b : K) : K := if a < b then b else a
def mn (a b : K) : K := if b < a then b else a
theorem mx_cases (a b : K) : (a < b ∧ mx a b = b) ∨ (¬ a < b ∧ mx a b = a) := by unfold mx; split <;> simp_all
theorem mn_cases (a b : K) : (b < a ∧ mn a b = b) ∨ (¬ b < a ∧ mn a b = a) := by unfold mn; split <;> simp_all

/-- one more span, which begins no earlier than those that are there -/
def jadd (out : List (K × K)) (s : K × K) : List (K × K) :=
  match out.getLast? with
  | none => out ++ [s]
  | some l => if s.1 ≤ l.2 then out.dropLast ++ [(l.1, mx l.2 s.2)] else out ++ [s]
def join (l : List (K × K)) : List (K × K) := l.foldl jadd []

theorem jadd_nil (s : K × K) : jadd [] s = [s] := rfl
theorem jadd_snoc (p : List (K × K)) (l s : K × K) : jadd (p ++ [l]) s = if s.1 ≤ l.2 then p ++ [(l.1, mx l.2 s.2)] else p ++ [l] ++ [s] := by
  simp [jadd]

theorem jadd_ok (out : List (K × K)) (s : K × K) (hn : Normal out) (hs : s.1 < s.2) (hl : ∀ t ∈ out, t.1 ≤ s.1) :
    Normal (jadd out s) ∧ (∀ k, mem (jadd out s) k ↔ mem out k ∨ has s k) ∧ ∀ t ∈ jadd out s, t.1 ≤ s.1 := by
  rcases List.eq_nil_or_concat out with rfl | ⟨p, l, rfl⟩
  · rw [jadd_nil]
    exact ⟨⟨hs, by simp, trivial⟩, fun k => by simp [mem], by simp⟩
  · rw [List.concat_eq_append] at *
    rw [jadd_snoc]
    obtain ⟨n1, n2, n3⟩ := normal_append.1 hn
    have hl0 : l.1 ≤ s.1 := hl l (by simp)
    have n4 : l.1 < l.2 := n2.1
    by_cases h : s.1 ≤ l.2
    · rw [if_pos h]
      have hm := mx_cases l.2 s.2
      refine ⟨normal_append.2 ⟨n1, ⟨by grind, by simp, trivial⟩, fun u hu t ht => ?_⟩, fun k => ?_, fun t ht => ?_⟩
      · simp only [List.mem_singleton] at ht; subst ht; exact n3 u hu l (by simp)
      · simp only [mem_append, mem_cons, mem_nil, or_false, has]; grind
      · simp only [List.mem_append, List.mem_singleton] at ht
        rcases ht with ht | rfl
        · exact hl t (by simp [ht])
        · exact hl0
    · rw [if_neg h]
      refine ⟨normal_append.2 ⟨hn, ⟨hs, by simp, trivial⟩, fun u hu t ht => ?_⟩, fun k => ?_, fun t ht => ?_⟩
      · simp only [List.mem_singleton] at ht; subst ht
        rcases List.mem_append.1 hu with hu | hu
        · have := n3 u hu l (by simp); grind
        · simp only [List.mem_singleton] at hu; subst hu; grind
      · simp only [mem_append, mem_cons, mem_nil, or_false]
      · simp only [List.mem_append, List.mem_singleton] at ht
        rcases ht with ht | rfl
        · exact hl t (by simpa using ht)
        · exact Std.IsPreorder.le_refl _

theorem foldl_ok : ∀ (l out : List (K × K)), Normal out → (∀ s ∈ l, s.1 < s.2) → l.Pairwise (fun a b => a.1 ≤ b.1) → (∀ t ∈ out, ∀ s ∈ l, t.1 ≤ s.1) →
    Normal (l.foldl jadd out) ∧ ∀ k, mem (l.foldl jadd out) k ↔ mem out k ∨ mem l k
  | [], out, hn, _, _, _ => ⟨hn, fun k => by simp [mem]⟩
  | s :: r, out, hn, hs, hp, hl => by
    obtain ⟨a1, a2, a3⟩ := jadd_ok out s hn (hs s (by simp)) fun t ht => hl t ht s (by simp)
    rw [List.pairwise_cons] at hp
    obtain ⟨b1, b2⟩ := foldl_ok r (jadd out s) a1 (fun t ht => hs t (by simp [ht])) hp.2 fun t ht u hu => by
      have := a3 t ht; have := hp.1 u hu; grind
    exact ⟨b1, fun k => by rw [List.foldl_cons, b2, a2, mem_cons, or_assoc]⟩

theorem join_ok (l : List (K × K)) (hs : ∀ s ∈ l, s.1 < s.2) (hp : l.Pairwise fun a b => a.1 ≤ b.1) : Normal (join l) ∧ ∀ k, mem (join l) k ↔ mem l k := by
  obtain ⟨h1, h2⟩ := foldl_ok l [] trivial hs hp (by simp)
  exact ⟨h1, fun k => by simpa [join, mem_nil] using h2 k⟩

/-! ### what is left -/
def piece (a b : K) : List (K × K) := if a < b then [(a, b)] else []
/-- the pieces of from..to outside spans of this form -/
def left : List (K × K) → K → K → List (K × K)
  | [], f, t => piece f t
  | g :: r, f, t => piece f (mn g.1 t) ++ left r (mx f g.2) t

theorem mem_piece (a b k : K) : mem (piece a b) k ↔ a ≤ k ∧ k < b := by
  unfold piece; split <;> simp [mem, has]; grind
theorem normal_piece (a b : K) : Normal (piece a b) := by
  unfold piece; split <;> simp_all [Normal]
theorem left_from : ∀ (l : List (K × K)) (f t : K), ∀ u ∈ left l f t, f ≤ u.1
  | [], f, t, u, hu => by unfold left piece at hu; split at hu <;> simp at hu; subst hu; exact Std.IsPreorder.le_refl _
  | g :: r, f, t, u, hu => by
    rw [left, List.mem_append] at hu
    rcases hu with hu | hu
    · unfold piece at hu; split at hu <;> simp at hu; subst hu; exact Std.IsPreorder.le_refl _
    · have := left_from r _ t u hu; have := mx_cases f g.2; grind
theorem left_ok : ∀ (l : List (K × K)) (f t : K), Normal l → Normal (left l f t) ∧ ∀ k, mem (left l f t) k ↔ (f ≤ k ∧ k < t) ∧ ¬ mem l k
  | [], f, t, _ => ⟨normal_piece f t, fun k => by rw [left, mem_piece]; simp [mem]⟩
  | g :: r, f, t, hn => by
    obtain ⟨a1, a2⟩ := left_ok r (mx f g.2) t hn.2.2
    have c1 := mx_cases f g.2
    have c2 := mn_cases g.1 t
    have c3 := hn.1
    refine ⟨normal_append.2 ⟨normal_piece _ _, a1, fun u hu v hv => ?_⟩, fun k => ?_⟩
    · have := left_from r _ t v hv
      unfold piece at hu; split at hu <;> simp at hu; subst hu; simp only []; grind
    · rw [left, mem_append, mem_piece, a2, mem_cons]
      have c4 : mem r k → g.2 < k := fun h => mem_above hn h
      unfold has
      by_cases hm : mem r k
      · have := c4 hm; simp only [hm]; grind
      · simp only [hm]; grind
end Go.Proofs.YtbifnogocmgddaaGreat
namespace Go.Proofs.YtbifnogocmgddaaGreat
open Go.RowKit

theorem less_eq (a b : ByteArray) : Op.bytesLess a.toList b.toList = decide (a < b) := by
  rw [bytesLess_eq, Lib.toList_data, Lib.toList_data]; rfl
theorem same_eq (a b : ByteArray) : (a.toList == b.toList) = decide (a = b) := by
  rw [Bool.eq_iff_iff, beq_iff_eq, decide_eq_true_iff, Lib.toList_data, Lib.toList_data]
  exact ⟨key_ext, fun h => by rw [h]⟩
theorem le_eq (a b : ByteArray) : (decide (a < b) || decide (a = b)) = decide (a ≤ b) := by
  rw [Bool.eq_iff_iff]; simp; grind
theorem ge_eq (a b : ByteArray) : (!decide (a < b)) = decide (b ≤ a) := by
  rw [Bool.eq_iff_iff]; simp; grind
theorem gt_eq (a b : ByteArray) : (!decide (a ≤ b)) = decide (b < a) := by
  rw [Bool.eq_iff_iff]; simp; grind
attribute [local go_sem] less_eq same_eq le_eq ge_eq gt_eq

theorem maxS_eq (a b : K) : Lib.maxS a b = mx a b := by unfold Lib.maxS mx; rfl
theorem minS_eq (a b : K) : Lib.minS a b = mn a b := by
  unfold Lib.minS mn
  have h : (a.data.toList < b.data.toList ∨ a.data.toList = b.data.toList) ↔ ¬ b < a := by
    show (a < b ∨ _) ↔ _
    constructor
    · rintro (h | h)
      · grind
      · have := key_ext h; grind
    · intro h
      by_cases e : a = b
      · exact .inr (by rw [e])
      · exact .inl (by grind)
  by_cases hb : b < a
  · rw [if_neg (by rw [h]; simpa using hb), if_pos hb]
  · rw [if_pos (h.2 hb), if_neg hb]

def meet (a b : K × K) : K × K := if mn a.2 b.2 ≤ mx a.1 b.1 then (⟨#[]⟩, ⟨#[]⟩) else (mx a.1 b.1, mn a.2 b.2)
def spv (s : K × K) : Value := .agg #[.string s.1, .string s.2]

end Go.Proofs.YtbifnogocmgddaaGreat
namespace Go.Proofs.YtbifnogocmgddaaGreat
open Go.RowKit

def cellsS (s : K × K) : List Value := [.string s.1, .string s.2]
theorem cellsS_len (s : K × K) : (cellsS s).length = 2 := rfl
theorem cellsS_one (s : K × K) : ∀ u ∈ cellsS s, u.oneCell' = true := by
  intro u hu
  simp [cellsS] at hu
  rcases hu with rfl | rfl <;> rfl
def hasB (s : K × K) (k : K) : Bool := decide (s.1 ≤ k) && decide (k < s.2)
end Go.Proofs.YtbifnogocmgddaaGreat
namespace Go.Proofs.YtbifnogocmgddaaGreat
section
variable {P : Program} {ops : Array Oper} {Q : Exit → Act → World → Prop} {S : World → Prop}

/-- the order: true: number i is taken; false: number i comes up alone, and is carried out -/
def planOk (ops : Array Oper) : List (Bool × Nat) → Array Bool → Bool
  | [], listed => (Region.ready .any ops listed).isEmpty
  | (true, i) :: r, listed => Region.free .any ops listed i && (Region.ready .any ops listed).contains i && planOk ops r (listed.setIfInBounds i true)
  | (false, i) :: r, listed => Region.ready .any ops listed == [i] && planOk ops r (listed.setIfInBounds i true)

def Plan (P : Program) (ops : Array Oper) (S : World → Prop) (Q : Exit → Act → World → Prop) : List (Bool × Nat) → Act → World → Prop
  | [], a, w => Q .normal a w
  | (true, i) :: r, a, w => ∃ o v, ops[i]? = some o ∧ YieldsIf P ops S o v a ∧ Plan P ops S Q r (a.put o.dst v) w
  | (false, i) :: r, a, w => wpOp P ops Q i (fun a' w' => S w' ∧ Plan P ops S Q r a' w') a w

theorem Plan.any (hs : Region.noSelect ops = true) (hQ : ∀ c a d v w, Q (.panic c) (Act.put a d v) w → Q (.panic c) a w) : ∀ (plan : List (Bool × Nat)) (fuel : Nat) (listed : Array Bool) (a : Act) (w : World),
    plan.length ≤ fuel → planOk ops plan listed = true → S w → Plan P ops S Q plan a w → wpAnyH P .any ops Q S fuel listed a w
  | [], fuel, listed, a, w, _, hp, _, h => wpAnyH_done (by simpa [planOk] using hp) h fuel
  | (true, i) :: r, fuel + 1, listed, a, w, hf, hp, hS, h => by
    obtain ⟨o, v, ho, hy, hr⟩ := h
    simp only [planOk, Bool.and_eq_true] at hp
    exact wpAnyH_take ho hs hp.1.1 hp.1.2 (fun c a w => hQ c a _ _ w) hy hS (Plan.any hs hQ r fuel _ _ _ (by simpa using hf) hp.2 hS hr)
  | (false, i) :: r, fuel + 1, listed, a, w, hf, hp, _, h => by
    simp only [planOk, Bool.and_eq_true, beq_iff_eq] at hp
    refine wpAnyH_all hp.1 (by simp) fun j hj => ?_
    obtain rfl : j = i := by simpa using hj
    exact wpOp_mono (fun a' w' h' => ⟨h'.1, Plan.any hs hQ r fuel _ _ _ (by simpa using hf) hp.2 h'.1 h'.2⟩) h
  | (true, _) :: _, 0, _, _, _, hf, _, _, _ => by simp at hf
  | (false, _) :: _, 0, _, _, _, hf, _, _, _ => by simp at hf

theorem wp_region_plan (plan : List (Bool × Nat)) {id : Nat} {a : Act} {w : World} (hm : P.follows .mixedOrders = true) (hs : (Region.noSelect ops && planOk ops plan (Array.replicate ops.size false) && decide (plan.length ≤ ops.size)) = true)
    (hQ : ∀ c a d v w, Q (.panic c) (Act.put a d v) w → Q (.panic c) a w) (hS : S w.drew) (h : Plan P ops S Q plan a w.drew) : (Code.region id ops true).wp P Q a w := by
  simp only [Bool.and_eq_true, decide_eq_true_eq] at hs
  exact wp_region_held hm (Plan.any hs.1.1 hQ plan _ _ _ _ hs.2 hs.1.2 hS h)

theorem Plan.take {i : Nat} {o : Oper} {v : Value} {r : List (Bool × Nat)} {a : Act} {w : World} (hi : ops.toList[i]? = some o) (hw : Region.wanted o (yielded ops a.tmps) = true)
    (hy : ∀ W, S W → (execOp a.eval o).run P W = .ok (.value v) W) (h : Plan P ops S Q r (a.put o.dst v) w) : Plan P ops S Q ((true, i) :: r) a w :=
  ⟨o, v, by simpa using hi, .inl ⟨hw, hy⟩, h⟩
theorem Plan.skip {i : Nat} {o : Oper} {r : List (Bool × Nat)} {a : Act} {w : World} (hi : ops.toList[i]? = some o) (hw : Region.wanted o (yielded ops a.tmps) = false)
    (h : Plan P ops S Q r (a.put o.dst undef) w) : Plan P ops S Q ((true, i) :: r) a w :=
  ⟨o, undef, by simpa using hi, .inr ⟨hw, rfl⟩, h⟩
theorem Plan.step {i : Nat} {o : Oper} {r : List (Bool × Nat)} {a : Act} {w : World} (hi : ops.toList[i]? = some o) (hw : Region.wanted o (yielded ops a.tmps) = true)
    (h : ∀ K : Act → World → Prop, Shut (∀ a w, S w → Plan P ops S Q r a w → K a w) → Oper.wp P o a w K Q) : Plan P ops S Q ((false, i) :: r) a w := by
  show wpOp P ops Q i _ a w
  refine wpOp_step (o := o) (by simpa using hi) fun K' hK => ?_
  rw [if_pos hw]
  exact h K' fun a w h1 h2 => hK a w ⟨h1, h2⟩
theorem Plan.pass {i : Nat} {o : Oper} {r : List (Bool × Nat)} {a : Act} {w : World} (hi : ops.toList[i]? = some o) (hw : Region.wanted o (yielded ops a.tmps) = false) (hS : S w)
    (h : Plan P ops S Q r (a.put o.dst undef) w) : Plan P ops S Q ((false, i) :: r) a w := by
  show wpOp P ops Q i _ a w
  unfold wpOp
  have hi' : ops[i]? = some o := by simpa using hi
  simp only [hi', hw, Bool.false_eq_true, if_false]
  exact ⟨hS, h⟩
end
end Go.Proofs.YtbifnogocmgddaaGreat
namespace Go.Proofs.YtbifnogocmgddaaGreat
open Go.RowKit
section
variable {P : Program} {ops : Array Oper} {Q : Exit → Act → World → Prop}

theorem wpAnyH_weaken {S S' : World → Prop} (h : ∀ W, S' W → S W) {md : Region.Mode} : ∀ (fuel : Nat) (listed : Array Bool) (a : Act) (w : World), wpAnyH P md ops Q S' fuel listed a w → wpAnyH P md ops Q S fuel listed a w
  | 0, _, _, _, hh => hh
  | fuel + 1, _, _, _, hh => ⟨hh.1, fun i hi => wpOp_mono (fun a' w' h' => ⟨h _ h'.1, wpAnyH_weaken h fuel _ a' w' h'.2⟩) (hh.2 i hi)⟩

def PlanB (P : Program) (ops : Array Oper) (Q : Exit → Act → World → Prop) : List (Bool × Nat) → Act → World → Prop
  | [], a, w => Q .normal a w
  | (true, i) :: r, a, w => ∃ o v, ops[i]? = some o ∧ YieldsIf P ops (fun W => Below w.heap.size w W) o v a ∧ PlanB P ops Q r (a.put o.dst v) w
  | (false, i) :: r, a, w => wpOp P ops Q i (fun a' w' => Below w.heap.size w w' ∧ PlanB P ops Q r a' w') a w

theorem PlanB.any (hs : Region.noSelect ops = true) (hQ : ∀ c a d v w, Q (.panic c) (Act.put a d v) w → Q (.panic c) a w) : ∀ (plan : List (Bool × Nat)) (fuel : Nat) (listed : Array Bool) (a : Act) (w : World),
    plan.length ≤ fuel → planOk ops plan listed = true → PlanB P ops Q plan a w → wpAnyH P .any ops Q (fun W => Below w.heap.size w W) fuel listed a w
  | [], fuel, listed, a, w, _, hp, h => wpAnyH_done (by simpa [planOk] using hp) h fuel
  | (true, i) :: r, fuel + 1, listed, a, w, hf, hp, h => by
    obtain ⟨o, v, ho, hy, hr⟩ := h
    simp only [planOk, Bool.and_eq_true] at hp
    exact wpAnyH_take ho hs hp.1.1 hp.1.2 (fun c a w => hQ c a _ _ w) hy (Below.refl _ _) (PlanB.any hs hQ r fuel _ _ _ (by simpa using hf) hp.2 hr)
  | (false, i) :: r, fuel + 1, listed, a, w, hf, hp, h => by
    simp only [planOk, Bool.and_eq_true, beq_iff_eq] at hp
    refine wpAnyH_all hp.1 (by simp) fun j hj => ?_
    obtain rfl : j = i := by simpa using hj
    refine wpOp_mono (fun a' w' h' => ⟨h'.1, ?_⟩) h
    exact wpAnyH_weaken (fun W hW => h'.1.trans (hW.mono h'.1.size)) _ _ _ _ (PlanB.any hs hQ r fuel _ _ _ (by simpa using hf) hp.2 h'.2)
  | (true, _) :: _, 0, _, _, _, hf, _, _ => by simp at hf
  | (false, _) :: _, 0, _, _, _, hf, _, _ => by simp at hf

theorem wp_region_planB (plan : List (Bool × Nat)) {id : Nat} {a : Act} {w : World} (hm : P.follows .mixedOrders = true) (hs : (Region.noSelect ops && planOk ops plan (Array.replicate ops.size false) && decide (plan.length ≤ ops.size)) = true)
    (hQ : ∀ c a d v w, Q (.panic c) (Act.put a d v) w → Q (.panic c) a w) (h : PlanB P ops Q plan a w.drew) : (Code.region id ops true).wp P Q a w := by
  simp only [Bool.and_eq_true, decide_eq_true_eq] at hs
  exact wp_region_held hm (PlanB.any hs.1.1 hQ plan _ _ _ _ hs.2 hs.1.2 h)

theorem PlanB.take {i : Nat} {o : Oper} {v : Value} {r : List (Bool × Nat)} {a : Act} {w : World} (hi : ops.toList[i]? = some o) (hw : Region.wanted o (yielded ops a.tmps) = true)
    (hy : ∀ W, Below w.heap.size w W → (execOp a.eval o).run P W = .ok (.value v) W) (h : PlanB P ops Q r (a.put o.dst v) w) : PlanB P ops Q ((true, i) :: r) a w :=
  ⟨o, v, by simpa using hi, .inl ⟨hw, hy⟩, h⟩
theorem PlanB.skip {i : Nat} {o : Oper} {r : List (Bool × Nat)} {a : Act} {w : World} (hi : ops.toList[i]? = some o) (hw : Region.wanted o (yielded ops a.tmps) = false)
    (h : PlanB P ops Q r (a.put o.dst undef) w) : PlanB P ops Q ((true, i) :: r) a w :=
  ⟨o, undef, by simpa using hi, .inr ⟨hw, rfl⟩, h⟩
theorem PlanB.step {i : Nat} {o : Oper} {r : List (Bool × Nat)} {a : Act} {w : World} (hi : ops.toList[i]? = some o) (hw : Region.wanted o (yielded ops a.tmps) = true)
    (h : ∀ K : Act → World → Prop, Shut (∀ a w', Below w.heap.size w w' → PlanB P ops Q r a w' → K a w') → Oper.wp P o a w K Q) : PlanB P ops Q ((false, i) :: r) a w := by
  show wpOp P ops Q i _ a w
  refine wpOp_step (o := o) (by simpa using hi) fun K' hK => ?_
  rw [if_pos hw]
  exact h K' fun a w h1 h2 => hK a w ⟨h1, h2⟩
end
end Go.Proofs.YtbifnogocmgddaaGreat
namespace Go.Proofs.YtbifnogocmgddaaGreat
open Go.RowKit
attribute [local go_sem] less_eq same_eq le_eq ge_eq gt_eq

structure Chg where
  kind : Int
  key : K
  val : K
instance : DecidableEq Chg := fun a b => decidable_of_iff (a.kind = b.kind ∧ a.key = b.key ∧ a.val = b.val) ⟨fun h => by cases a; cases b; simp only at h; obtain ⟨rfl, rfl, rfl⟩ := h; rfl, fun h => by subst h; exact ⟨rfl, rfl, rfl⟩⟩
def cval (c : Chg) : Value := .agg #[.int .i64 c.kind, .string c.key, .string c.val]
def encC (c : Chg) : List Value := [.int .i64 c.kind, .string c.key, .string c.val]
theorem encC_len (c : Chg) : (encC c).length = 3 := rfl
theorem encC_one (c : Chg) : ∀ u ∈ encC c, u.oneCell' = true := by
  intro u hu
  simp [encC] at hu
  rcases hu with rfl | rfl | rfl <;> rfl
abbrev RdC (w : World) (B : Nat) (v : Value) (l : List Chg) : Prop := Rd encC 3 w B v l
abbrev OwnC (w : World) (base : Nat) (v : Value) (l : List Chg) : Prop := Own encC 3 67 w base v l
abbrev RdP (w : World) (B : Nat) (v : Value) (l : List (K × K)) : Prop := Rd cellsS 2 w B v l
abbrev OwnP (w : World) (base : Nat) (v : Value) (l : List (K × K)) : Prop := Own cellsS 2 69 w base v l
theorem info_chg : (Tryz.prog.info? 67).map (fun i => (i.zero, i.size, i.bytes)) = some (some (.agg #[.int .i64 0, .string ⟨#[]⟩, .string ⟨#[]⟩]), 3, 40) := by kernel_rfl
theorem info_pair : (Tryz.prog.info? 69).map (fun i => (i.zero, i.size, i.bytes)) = some (some (.agg #[.string ⟨#[]⟩, .string ⟨#[]⟩]), 2, 32) := by kernel_rfl

theorem RdC.at {w : World} {B : Nat} {v : Value} {l : List Chg} (h : RdC w B v l) : ∃ A c, v = .slice A l.length c ∧ l.length ≤ c ∧ ∀ i (_ : i < l.length), ∃ b o, A = some ⟨b, o, none⟩ ∧ b < B ∧
    w.cell? ⟨b, o + i * 3, none⟩ = some (.int .i64 l[i].kind) ∧ w.cell? ⟨b, o + i * 3 + 1, none⟩ = some (.string l[i].key) ∧ w.cell? ⟨b, o + i * 3 + 2, none⟩ = some (.string l[i].val) := by
  obtain ⟨A, c, hv, hc, hi⟩ := h
  refine ⟨A, c, hv, hc, fun i hs => ?_⟩
  obtain ⟨b, o, hA, hB, h1⟩ := hi i hs
  exact ⟨b, o, hA, hB, h1 0 _ rfl, h1 1 _ rfl, h1 2 _ rfl⟩
theorem RdP.at {w : World} {B : Nat} {v : Value} {l : List (K × K)} (h : RdP w B v l) : ∃ A c, v = .slice A l.length c ∧ l.length ≤ c ∧ ∀ i (_ : i < l.length), ∃ b o, A = some ⟨b, o, none⟩ ∧ b < B ∧
    w.cell? ⟨b, o + i * 2, none⟩ = some (.string l[i].1) ∧ w.cell? ⟨b, o + i * 2 + 1, none⟩ = some (.string l[i].2) := by
  obtain ⟨A, c, hv, hc, hi⟩ := h
  refine ⟨A, c, hv, hc, fun i hs => ?_⟩
  obtain ⟨b, o, hA, hB, h1⟩ := hi i hs
  exact ⟨b, o, hA, hB, h1 0 _ rfl, h1 1 _ rfl⟩

/-- what Check answers -/
def checkAns (c : Chg) : Int :=
  if c.kind = 1 then (if c.key.size > 16 ∨ c.val.size > 64 then 6 else 0)
  else if c.kind = 2 then (if c.key.size > 16 ∨ c.val.size > 0 then 6 else 0)
  else if c.kind = 3 then (if c.key.size > 17 ∨ c.val.size > 17 then 6 else if c.val < c.key then 5 else 0)
  else 1
/-- the keys that a change names -/
def cspan (c : Chg) : K × K := if c.kind = 3 then (c.key, c.val) else (c.key, c.key ++ ⟨#[0]⟩)

set_option maxHeartbeats 4000000 in
set_option maxRecDepth 100000 in
theorem rcheck_any (c : Chg) (w : World) (hk : c.key.size < 9223372036854775807) (hv : c.val.size < 9223372036854775807) : Calls Tryz.prog 22 #[cval c] w fun e w' => e = .returned (.int .i64 (checkAns c)) ∧ Below w.heap.size w w' := by
  obtain ⟨k, x, y⟩ := c
  obtain ⟨R, hR⟩ : ∃ R, R = checkAns ⟨k, x, y⟩ := ⟨_, rfl⟩
  rw [← hR]
  unfold checkAns at hR
  unfold cval
  simp only at hR hk hv ⊢
  go_enter Tryz.func22, Tryz.ntmps22
  go_wp2_with fail
  have HB := Lib.hid (((Below.refl _ w).alloc (Nat.le_refl _) (.cells #[.int .i64 k, .string x, .string y] 67)).drew)
  have HC := Lib.hid (show ∀ W, Below (w.alloc (.cells #[.int .i64 k, .string x, .string y] 67)).drew.heap.size (w.alloc (.cells #[.int .i64 k, .string x, .string y] 67)).drew W →
      W.cell? ⟨w.heap.size, 0, none⟩ = some (.int .i64 k) ∧ W.cell? ⟨w.heap.size, 1, none⟩ = some (.string x) ∧ W.cell? ⟨w.heap.size, 2, none⟩ = some (.string y) from fun W hW => by
    have hlt : w.heap.size < (w.alloc (.cells #[.int .i64 k, .string x, .string y] 67)).drew.heap.size := by show _ < (w.alloc _).heap.size; simp
    exact ⟨(hW.cell (p := ⟨w.heap.size, 0, none⟩) hlt).trans (World.cell?_alloc_at _ _ _ _ rfl), (hW.cell (p := ⟨w.heap.size, 1, none⟩) hlt).trans (World.cell?_alloc_at _ _ _ _ rfl), (hW.cell (p := ⟨w.heap.size, 2, none⟩) hlt).trans (World.cell?_alloc_at _ _ _ _ rfl)⟩)
  refine wp_region_planB [(true, 0), (true, 1), (true, 2), (true, 3), (true, 4), (true, 5), (true, 6), (true, 7)] (by kernel_rfl) (by kernel_rfl) (fun _ _ d _ _ h => by cases d <;> exact h) ?_
  generalize (w.alloc (.cells #[.int .i64 k, .string x, .string y] 67)).drew = w1 at HB HC ⊢
  obtain ⟨g, hg⟩ : ∃ g, g = w.heap.size := ⟨_, rfl⟩
  rw [← hg] at HC ⊢
  clear hg
  repeat (refine PlanB.take (v := ?_) rfl rfl ?_ ?_; rotate_left; (focus (intro W hW; obtain ⟨k0, k1, k2⟩ := HC.out W hW; go_simp; (try with_reducible rfl); done)); (try simp only [Act.put, List.setIfInBounds_toArray, List.set_cons_zero, List.set_cons_succ]))
  simp only [PlanB]
  obtain ⟨k0, k1, k2⟩ := HC.out w1 (Below.refl _ _)
  by_cases h1 : k = 1
  · rw [if_pos h1] at hR
    subst h1
    by_cases ha : x.size > 16
    · rw [if_pos (.inl ha)] at hR
      have HR := Lib.hid hR; clear hR
      have ha1 : (16 : Int) < (x.size : Int) := by omega
      go_wp2_with fail
      go_ret
      exact ⟨by rw [HR.out]; rfl, HB.out⟩
    by_cases hb : y.size > 64
    · rw [if_pos (.inr hb)] at hR
      have HR := Lib.hid hR; clear hR
      have ha1 : ¬ (16 : Int) < (x.size : Int) := by omega
      have hb1 : (64 : Int) < (y.size : Int) := by omega
      go_wp2_with fail
      go_ret
      exact ⟨by rw [HR.out]; rfl, HB.out⟩
    rw [if_neg (by omega)] at hR
    have ha1 : ¬ (16 : Int) < (x.size : Int) := by omega
    have hb1 : ¬ (64 : Int) < (y.size : Int) := by omega
    have HR := Lib.hid hR; clear hR
    go_wp2_with fail
    go_ret
    exact ⟨by rw [HR.out]; rfl, HB.out⟩
  by_cases h2 : k = 2
  · rw [if_neg h1, if_pos h2] at hR
    subst h2
    clear h1
    by_cases ha : x.size > 16
    · rw [if_pos (.inl ha)] at hR
      have HR := Lib.hid hR; clear hR
      have ha1 : (16 : Int) < (x.size : Int) := by omega
      go_wp2_with fail
      go_ret
      exact ⟨by rw [HR.out]; rfl, HB.out⟩
    by_cases hb : y.size > 0
    · rw [if_pos (.inr hb)] at hR
      have HR := Lib.hid hR; clear hR
      have ha1 : ¬ (16 : Int) < (x.size : Int) := by omega
      have hb1 : (0 : Int) < (y.size : Int) := by omega
      go_wp2_with fail
      go_ret
      exact ⟨by rw [HR.out]; rfl, HB.out⟩
    rw [if_neg (by omega)] at hR
    have ha1 : ¬ (16 : Int) < (x.size : Int) := by omega
    have hb1 : ¬ (0 : Int) < (y.size : Int) := by omega
    have HR := Lib.hid hR; clear hR
    go_wp2_with fail
    go_ret
    exact ⟨by rw [HR.out]; rfl, HB.out⟩
  by_cases h3 : k = 3
  · rw [if_neg h1, if_neg h2, if_pos h3] at hR
    subst h3
    clear h1 h2
    by_cases ha : x.size > 17
    · rw [if_pos (.inl ha)] at hR
      have HR := Lib.hid hR; clear hR
      have ha1 : (17 : Int) < (x.size : Int) := by omega
      go_wp2_with fail
      go_ret
      exact ⟨by rw [HR.out]; rfl, HB.out⟩
    by_cases hb : y.size > 17
    · rw [if_pos (.inr hb)] at hR
      have HR := Lib.hid hR; clear hR
      have ha1 : ¬ (17 : Int) < (x.size : Int) := by omega
      have hb1 : (17 : Int) < (y.size : Int) := by omega
      go_wp2_with fail
      go_ret
      exact ⟨by rw [HR.out]; rfl, HB.out⟩
    rw [if_neg (by omega)] at hR
    have ha1 : ¬ (17 : Int) < (x.size : Int) := by omega
    have hb1 : ¬ (17 : Int) < (y.size : Int) := by omega
    by_cases hl : y < x
    · rw [if_pos hl] at hR
      have HR := Lib.hid hR; clear hR
      go_wp2_with fail
      go_ret
      exact ⟨by rw [HR.out]; rfl, HB.out⟩
    rw [if_neg hl] at hR
    have HR := Lib.hid hR; clear hR
    go_wp2_with fail
    go_ret
    exact ⟨by rw [HR.out]; rfl, HB.out⟩
  rw [if_neg h1, if_neg h2, if_neg h3] at hR
  have HR := Lib.hid hR; clear hR
  go_wp2_with fail
  go_ret
  exact ⟨by rw [HR.out]; rfl, HB.out⟩
end Go.Proofs.YtbifnogocmgddaaGreat

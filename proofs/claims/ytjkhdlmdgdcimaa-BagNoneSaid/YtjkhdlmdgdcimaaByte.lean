/- Bytes: their cells, rows of them made, stored into, copied, appended to; as texts. -/
import Derived.Test.YtjkhdlmdgdcimaaGen
import Derived.WalkKit
import Derived.WalkSpells
import Derived.WalkLawsBesides
import Derived.Lib.Hide
import Derived.Lib.EndianBits
import Derived.Sort.Walk0
import Derived.Laws.CopyOwn
import Derived.Laws.BytesArg
import Derived.Deep.OwnRows
import Derived.Lib.SlBytesConst
import Derived.Lib.SmallJoins
import Derived.BigQuiet
import Derived.Deep.QuietTactic
namespace Go.Proofs.Ytjkhdlmdgdcimaa
open Go.RowKit

set_option maxRecDepth 100000 in
theorem byte_lt (c : UInt8) : c.toNat < 256 := c.toNat_lt
/-- a byte's cell -/
def byteEnc (c : UInt8) : List Value := [.int .u8 (c.toNat : Int)]
set_option maxRecDepth 100000 in
theorem byteEnc_len (c : UInt8) : (byteEnc c).length = 1 := rfl
set_option maxRecDepth 100000 in
theorem byteEnc_one (c : UInt8) : ∀ u ∈ byteEnc c, u.oneCell' = true := by simp [byteEnc, Value.oneCell']
abbrev RdB (w : World) (B : Nat) (v : Value) (l : List UInt8) : Prop := Rd byteEnc 1 w B v l
set_option maxRecDepth 100000 in
theorem RdB.at {w : World} {B : Nat} {v : Value} {l : List UInt8} (h : RdB w B v l) : ∃ A c, v = .slice A l.length c ∧ l.length ≤ c ∧ ∀ i (_ : i < l.length), ∃ b o, A = some ⟨b, o, none⟩ ∧ b < B ∧ w.cell? ⟨b, o + i, none⟩ = some (.int .u8 (l[i].toNat : Int)) := by
  obtain ⟨A, c, hv, hc, hi⟩ := h
  refine ⟨A, c, hv, hc, fun i hs => ?_⟩
  obtain ⟨b, o, hA, hB, h1⟩ := hi i hs
  have := h1 0 _ rfl
  simp only [Nat.mul_one, Nat.add_zero] at this
  exact ⟨b, o, hA, hB, this⟩
set_option maxRecDepth 100000 in
theorem info_u8 : (Try.prog.info? 5).map (fun i => (i.zero, i.size, i.bytes)) = some (some (.int .u8 0), 1, 1) := by kernel_rfl

/-- the cells of bytes -/
def cellsB (l : List UInt8) : List Value := l.map fun c => .int .u8 (c.toNat : Int)
set_option maxRecDepth 100000 in
theorem cellsB_len (l : List UInt8) : (cellsB l).length = l.length := by simp [cellsB]
set_option maxRecDepth 100000 in
theorem flat_cellsB (l : List UInt8) : flatG byteEnc l = cellsB l := by
  induction l with
  | nil => rfl
  | cons c l ih => rw [cellsB, List.map_cons, ← cellsB, ← ih]; rfl
set_option maxRecDepth 100000 in
theorem cellsB_get (l : List UInt8) (i : Nat) (h : i < l.length) : (cellsB l)[i]? = some (.int .u8 (l[i].toNat : Int)) := by simp [cellsB, h]
set_option maxRecDepth 100000 in
theorem cellsB_one (l : List UInt8) : ∀ v ∈ cellsB l, v.oneCell' = true := by
  intro v hv
  obtain ⟨c, _, rfl⟩ := List.mem_map.1 hv
  rfl
set_option maxRecDepth 100000 in
theorem cellsB_append (a b : List UInt8) : cellsB (a ++ b) = cellsB a ++ cellsB b := by simp [cellsB]
set_option maxRecDepth 100000 in
theorem cellsB_set (l : List UInt8) (i : Nat) (c : UInt8) : cellsB (l.set i c) = (cellsB l).set i (.int .u8 (c.toNat : Int)) := by simp [cellsB, List.map_set]

/-- a whole row of bytes -/
def RowB (w : World) (g : Nat) (l : List UInt8) : Prop := w.heap[g]? = some (.cells (cellsB l).toArray 5 (0, 0))
set_option maxRecDepth 100000 in
theorem RowB.lt {w : World} {g : Nat} {l : List UInt8} (h : RowB w g l) : g < w.heap.size := (Array.getElem?_eq_some_iff.1 h).1
set_option maxRecDepth 100000 in
theorem RowB.cell {w : World} {g : Nat} {l : List UInt8} (h : RowB w g l) (i : Nat) (hi : i < l.length) : w.cell? ⟨g, i, none⟩ = some (.int .u8 (l[i].toNat : Int)) := by
  unfold RowB at h
  simp only [World.cell?, h, List.getElem?_toArray]
  exact cellsB_get l i hi
set_option maxRecDepth 100000 in
theorem RowB.frozen {w : World} {g : Nat} {l : List UInt8} (h : RowB w g l) (i : Nat) : w.frozen? ⟨g, i, none⟩ = false := by
  unfold RowB at h
  simp [World.frozen?, h]
set_option maxRecDepth 100000 in
theorem RowB.set {w : World} {g : Nat} {l : List UInt8} (h : RowB w g l) (i : Nat) (c : UInt8) : RowB (w.setCell ⟨g, i, none⟩ (.int .u8 (c.toNat : Int))) g (l.set i c) := by
  unfold RowB at h ⊢
  rw [cellsB_set]
  simp [World.setCell, Array.getElem?_modify, h]
set_option maxRecDepth 100000 in
theorem RowB.below {w w' : World} {g B : Nat} {l : List UInt8} (h : RowB w g l) (hb : Below B w w') (hg : g < B) : RowB w' g l := (hb.block g hg).trans h
set_option maxRecDepth 100000 in
theorem RowB.next {w w' : World} {g : Nat} {l : List UInt8} (h : RowB w g l) (hb : Below w.heap.size w w') : RowB w' g l := h.below hb h.lt
set_option maxRecDepth 100000 in
theorem RowB.alloc {w : World} {g : Nat} {l : List UInt8} (h : RowB w g l) (o : Obj) : RowB (w.alloc o) g l := h.next ((Below.refl _ w).alloc (Nat.le_refl _) o)
set_option maxRecDepth 100000 in
/-- the bytes from k on, up to n of them -/
theorem RowB.rd {w : World} {g : Nat} {l : List UInt8} (h : RowB w g l) (k c : Nat) (m : List UInt8) (hm : m = l.drop k) (hc : m.length ≤ c) : RdB w w.heap.size (.slice (some ⟨g, k, none⟩) m.length c) m := by
  subst hm
  refine ⟨_, c, rfl, hc, fun i hi => ⟨g, k, rfl, h.lt, fun j u hu => ?_⟩⟩
  have hi' : k + i < l.length := by simp at hi; omega
  match j, hu with
  | 0, hu =>
    simp only [byteEnc, List.getElem?_cons_zero, Option.some.injEq] at hu
    subst hu
    simp only [Nat.mul_one, Nat.add_zero]
    rw [h.cell (k + i) hi']
    simp
  | j + 1, hu => simp [byteEnc] at hu
set_option maxRecDepth 100000 in
theorem RowB.whole {w : World} {g : Nat} {l : List UInt8} (h : RowB w g l) : RdB w w.heap.size (.slice (some ⟨g, 0, none⟩) l.length l.length) l := h.rd 0 l.length l (by simp) (Nat.le_refl _)
set_option maxRecDepth 100000 in
theorem RowB.own {w : World} {g base : Nat} {l : List UInt8} (h : RowB w g l) (hb : base ≤ g) (hm : l.length ≤ maxLen) : Own byteEnc 1 5 w base (.slice (some ⟨g, 0, none⟩) l.length l.length) l := by
  refine ⟨by rw [flat_cellsB, cellsB_len]; omega, .inr ⟨g, l.length, _, rfl, hb, h, Nat.le_refl _, hm, by simp [cellsB_len], ?_⟩⟩
  rw [flat_cellsB]
  exact List.take_of_length_le (by simp [cellsB_len])

section
variable {ops : Array Oper} {rest : List Oper} {o : Oper} {a : Act} {Q : Exit → Act → World → Prop} {w : World}
set_option maxRecDepth 100000 in
/-- a new row of zeros -/
theorem wpList_makeB (hg : o.guard = none) (l c : Operand) (hop : o.op = Op.makeSlice 32 l c) (n : Nat) (hl : a.eval l = .int .i64 (n : Int)) (hc : a.eval c = .int .i64 (n : Int)) (hn : n ≤ 281474976710656)
    (hK : ∀ w', RowB w' w.heap.size (List.replicate n 0) → Below w.heap.size w w' → wpList Try.prog ops Q rest (a.put o.dst (.slice (some ⟨w.heap.size, 0, none⟩) n n)) w') : wpList Try.prog ops Q (o :: rest) a w := by
  obtain ⟨i, hi, hz0, hz1, hz2⟩ := info_parts info_u8
  refine wpList_make_row w hg l c 32 hop 5 i _ Try.underlying32 hi hz0 hz1 rfl .i64 .i64 n hl hc (by rw [hz2]; omega) (by omega) (hK _ ?_ ((Below.refl _ w).alloc (Nat.le_refl _) _))
  unfold RowB
  have e : madeCells #[Value.int .u8 0] n = (cellsB (List.replicate n 0)).toArray := by
    apply Array.toList_inj.1
    rw [toList_madeCells_one]
    simp [cellsB]
  rw [e]
  exact heap_alloc_new w _

set_option maxRecDepth 100000 in
/-- bytes copied into a row of the call's own, from off on: as many as there are -/
theorem wpList_copyB (hgd : o.guard = none) (d s : Operand) (ho : o.op = .call { callee := .builtin .copy, args := #[d, s], argTypes := #[32, 32] }) (g off : Nat) (dp : Option Addr) (dCap : Nat) (cur l : List UInt8) (v : Value) (B : Nat)
    (hd : a.eval d = .slice dp l.length dCap) (hdp : 0 < l.length → dp = some ⟨g, off, none⟩) (hs : a.eval s = v) (hv : RdB w B v l) (hg : RowB w g cur) (hfit : off + l.length ≤ cur.length) (C : Nat) (w0 : World) (hb : Below C w0 w) (hC : C ≤ g)
    (h : ∀ w', Hid (RowB w' g (cur.take off ++ (l ++ cur.drop (off + l.length)))) → Below C w0 w' → wpList Try.prog ops Q rest (a.put o.dst (goInt l.length)) w') : wpList Try.prog ops Q (o :: rest) a w := by
  obtain ⟨i, hi, hz0, hz1, hz2⟩ := info_parts info_u8
  obtain ⟨A, c, rfl, hc, hcell⟩ := hv.at
  have hlen := cellsB_len l
  refine wpList_copy_splice hgd d s _ _ ho 5 Try.underlying32 (by rw [hi]; simp [hz1]) dp A l.length dCap l.length c hd hs g off (cellsB cur) 5 hg (cellsB l) (by rw [hlen]; exact (Nat.min_self _).symm) ?_ (by rw [hlen, cellsB_len]; exact hfit) (cellsB_one l) C w0 hb hC ?_
  · rw [hlen]
    intro hpos
    obtain ⟨b, o', hA, hbB, _⟩ := hcell 0 hpos
    refine ⟨hdp hpos, ⟨b, o', none⟩, hA, fun j u hu => ?_⟩
    have hj : j < l.length := by
      rcases Nat.lt_or_ge j l.length with h' | h'
      · exact h'
      · rw [List.getElem?_eq_none (by rw [cellsB_len]; exact h')] at hu; cases hu
    obtain ⟨b2, o2, hA2, _, h2⟩ := hcell j hj
    rw [hA] at hA2
    simp only [Option.some.injEq, Addr.mk.injEq, and_true] at hA2
    obtain ⟨rfl, rfl⟩ := hA2
    rw [cellsB_get l j hj] at hu
    simp only [Option.some.injEq] at hu
    subst hu
    have hadd : (⟨b, o', none⟩ : Addr).add j = ⟨b, o' + j, none⟩ := by unfold Addr.add; split <;> simp_all
    rw [hadd]
    exact h2
  · intro w' hg' hb'
    rw [hlen]
    refine h w' (Lib.hid ?_) hb'
    have := hg'.out
    unfold RowB
    rw [this]
    congr 3
    rw [splice, hlen]
    simp [cellsB, List.map_take, List.map_drop]
end

abbrev OwnB (w : World) (base : Nat) (v : Value) (l : List UInt8) : Prop := Own byteEnc 1 5 w base v l
set_option maxRecDepth 100000 in
theorem OwnB.rdB {w : World} {base : Nat} {v : Value} {l : List UInt8} (h : OwnB w base v l) : RdB w w.heap.size v l := Own.rd byteEnc_len h
set_option maxRecDepth 100000 in
/-- a literal of one byte -/
theorem RdB.one (w : World) (c : UInt8) : RdB (w.alloc (.cells #[.int .u8 (c.toNat : Int)] 5)) (w.heap.size + 1) (.slice (some ⟨w.heap.size, 0, none⟩) 1 1) [c] := by
  refine ⟨_, 1, rfl, Nat.le_refl _, fun i hi => ⟨w.heap.size, 0, rfl, Nat.lt_succ_self _, fun j u hu => ?_⟩⟩
  obtain rfl : i = 0 := by simp at hi; omega
  match j, hu with
  | 0, hu =>
    simp only [byteEnc, List.getElem_cons_zero, List.getElem?_cons_zero, Option.some.injEq] at hu
    subst hu
    exact World.cell?_alloc_at _ _ _ _ rfl
  | j + 1, hu => simp [byteEnc] at hu
set_option maxRecDepth 100000 in
theorem wpList_addB {ops : Array Oper} {rest : List Oper} {o : Oper} {a : Act} {Q : Exit → Act → World → Prop} {w : World} (hgd : o.guard = none) (s x : Operand)
    (ho : o.op = .call { callee := .builtin .append, args := #[s, x], argTypes := #[32, 32] })
    (base : Nat) (v : Value) (l : List UInt8) (hs : a.eval s = v) (hown : OwnB w base v l) (B : Nat) (v2 : Value) (p : List UInt8) (hx : a.eval x = v2) (hp : RdB w B v2 p)
    (hlen : l.length + p.length ≤ 225179981368000) (hbase : base ≤ w.heap.size) (C : Nat) (w0 : World) (hb : Below C w0 w) (hC : C ≤ base)
    (h : ∀ A' c' w', Hid (OwnB w' base (.slice A' (l ++ p).length c') (l ++ p)) → Hid (Below C w0 w') → Hid (base ≤ w'.heap.size) → wpList Try.prog ops Q rest (a.put o.dst (.slice A' (l ++ p).length c')) w') : wpList Try.prog ops Q (o :: rest) a w := by
  obtain ⟨i0, hi, hz0, hz1, hz2⟩ := info_parts info_u8
  refine wpList_addAny (enc := byteEnc) (k := 1) 32 5 1 i0 _ Try.underlying32 hi hz0 hz1 hz2 rfl (by decide) byteEnc_len byteEnc_one hgd s x ho base v l hs hown B v2 p hx hp (by unfold maxLen; omega) (by omega) hbase fun A' c' w' h1 h2 => ?_
  exact h A' c' w' (Lib.hid h1) (Lib.hid (hown.grown hb h2 hC (Nat.le_trans hC hbase))) (Lib.hid (Nat.le_trans hbase h2.size))

set_option maxRecDepth 100000 in
/-- the same for an operation of a region that draws -/
theorem wp_addB {o : Oper} {a : Act} {K : Act → World → Prop} {Q : Exit → Act → World → Prop} {w : World} (s x : Operand)
    (ho : o.op = .call { callee := .builtin .append, args := #[s, x], argTypes := #[32, 32] })
    (base : Nat) (v : Value) (l : List UInt8) (hs : a.eval s = v) (hown : OwnB w base v l) (B : Nat) (v2 : Value) (p : List UInt8) (hx : a.eval x = v2) (hp : RdB w B v2 p)
    (hlen : l.length + p.length ≤ 225179981368000) (hbase : base ≤ w.heap.size) (C : Nat) (w0 : World) (hb : Below C w0 w) (hC : C ≤ base)
    (h : ∀ A' c' w', OwnB w' base (.slice A' (l ++ p).length c') (l ++ p) → Below C w0 w' → base ≤ w'.heap.size → K (a.put o.dst (.slice A' (l ++ p).length c')) w') : o.wp Try.prog a w K Q := by
  obtain ⟨i0, hi, hz0, hz1, hz2⟩ := info_parts info_u8
  refine wp_addAny (enc := byteEnc) (k := 1) 32 5 1 i0 _ Try.underlying32 hi hz0 hz1 hz2 rfl (by decide) byteEnc_len byteEnc_one s x ho base v l hs hown B v2 p hx hp (by unfold maxLen; omega) (by omega) hbase fun A' c' w' h1 h2 => ?_
  exact h A' c' w' h1 (hown.grown hb h2 hC (Nat.le_trans hC hbase)) (Nat.le_trans hbase h2.size)

set_option maxRecDepth 100000 in
/-- the same where the operation has a guard that says yes -/
theorem wpList_addW {ops : Array Oper} {rest : List Oper} {o : Oper} {a : Act} {Q : Exit → Act → World → Prop} {w : World} (hgd : Region.wanted o (yielded ops a.tmps) = true) (s x : Operand)
    (ho : o.op = .call { callee := .builtin .append, args := #[s, x], argTypes := #[32, 32] })
    (base : Nat) (v : Value) (l : List UInt8) (hs : a.eval s = v) (hown : OwnB w base v l) (B : Nat) (v2 : Value) (p : List UInt8) (hx : a.eval x = v2) (hp : RdB w B v2 p)
    (hlen : l.length + p.length ≤ 225179981368000) (hbase : base ≤ w.heap.size) (C : Nat) (w0 : World) (hb : Below C w0 w) (hC : C ≤ base)
    (h : ∀ A' c' w', Hid (OwnB w' base (.slice A' (l ++ p).length c') (l ++ p)) → Hid (Below C w0 w') → Hid (base ≤ w'.heap.size) → wpList Try.prog ops Q rest (a.put o.dst (.slice A' (l ++ p).length c')) w') : wpList Try.prog ops Q (o :: rest) a w := by
  obtain ⟨i0, hi, hz0, hz1, hz2⟩ := info_parts info_u8
  refine BigFrame.wpList_want hgd fun K hK => ?_
  refine wp_addAny (enc := byteEnc) (k := 1) 32 5 1 i0 _ Try.underlying32 hi hz0 hz1 hz2 rfl (by decide) byteEnc_len byteEnc_one s x ho base v l hs hown B v2 p hx hp (by unfold maxLen; omega) (by omega) hbase fun A' c' w' h1 h2 => ?_
  exact hK _ _ (h A' c' w' (Lib.hid h1) (Lib.hid (hown.grown hb h2 hC (Nat.le_trans hC hbase))) (Lib.hid (Nat.le_trans hbase h2.size)))

/-- a text out of bytes -/
def strB (l : List UInt8) : ByteArray := ⟨l.toArray⟩
set_option maxRecDepth 100000 in
theorem strB_inj {a b : List UInt8} (h : strB a = strB b) : a = b := by
  simpa [strB] using h
set_option maxRecDepth 100000 in
theorem run_convB {w : World} {B : Nat} {v : Value} {l : List UInt8} (hv : RdB w B v l) : (convert 32 9 v).run Try.prog w = .ok (.string (strB l)) w := by
  obtain ⟨A, c, rfl, hc, hcell⟩ := hv.at
  rw [run_convert_bytes_string w 32 9 5 _ _ _ Try.underlying32 Try.underlying5 Try.underlying9]
  cases A with
  | none =>
    have : l = [] := by
      cases l with
      | nil => rfl
      | cons x r => obtain ⟨b, o, hA, _⟩ := hcell 0 (by simp); cases hA
    subst this
    simp [Conv.bytesToString, strB, ByteArray.empty, ByteArray.emptyWithCapacity]
    rfl
  | some ad =>
    have hl := run_loadCells_list (P := Try.prog) w ad ((l.map fun c => (c.toNat : Int)).map (Value.int .u8)) (fun j u hj => by
      have hjl : j < l.length := by
        rcases Nat.lt_or_ge j l.length with h | h
        · exact h
        · simp [List.getElem?_eq_none (show l.length ≤ j from h)] at hj
      obtain ⟨b, o, hA, _, h1⟩ := hcell j hjl
      simp only [Option.some.injEq] at hA
      subst hA
      have hadd : (⟨b, o, none⟩ : Addr).add j = ⟨b, o + j, none⟩ := by unfold Addr.add; split <;> simp_all
      rw [hadd, h1]
      simp [hjl] at hj
      simp [hj])
    rw [run_bytesToString w ad l.length c (l.map fun c => (c.toNat : Int)) (by simpa using hl), foldl_push_bytes]
    have e : (l.map fun c => (c.toNat : Int)).map (fun n => UInt8.ofNat n.toNat) = l := by
      rw [List.map_map]
      conv => rhs; rw [← List.map_id l]
      exact List.map_congr_left fun x _ => by simp
    rw [e]
    simp [strB, ByteArray.empty, ByteArray.emptyWithCapacity]
    rfl
set_option maxRecDepth 100000 in
theorem same_str (a b : List UInt8) : ((strB a).toList == (strB b).toList) = decide (a = b) := by
  rw [Lib.toList_data, Lib.toList_data]
  rw [Bool.eq_iff_iff]
  simp [strB]

set_option maxRecDepth 100000 in
theorem RdB.lit (w : World) (l : List UInt8) (fr : Nat × Nat) : RdB (w.alloc (.cells (cellsB l).toArray 5 fr)) (w.heap.size + 1) (.slice (some ⟨w.heap.size, 0, none⟩) l.length l.length) l := by
  refine ⟨_, l.length, rfl, Nat.le_refl _, fun i hi => ⟨w.heap.size, 0, rfl, Nat.lt_succ_self _, fun j u hu => ?_⟩⟩
  match j, hu with
  | 0, hu =>
    simp only [byteEnc, List.getElem?_cons_zero, Option.some.injEq] at hu
    subst hu
    rw [World.cell?_alloc_mark, Nat.zero_add, Nat.mul_one, Nat.add_zero, List.getElem?_toArray]
    exact cellsB_get l i hi
  | j + 1, hu => simp [byteEnc] at hu

end Go.Proofs.Ytjkhdlmdgdcimaa

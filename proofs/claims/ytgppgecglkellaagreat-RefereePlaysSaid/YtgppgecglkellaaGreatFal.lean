/- Bytes; what the code layer writes: numbers and texts. -/
import Derived.Test.YtgppgecglkellaaGreatFaa
import Derived.Test.YtgppgecglkellaaGreatFac
import Derived.Test.YtgppgecglkellaaGreatFad
import Derived.Test.YtgppgecglkellaaGreatFae
import Derived.Test.YtgppgecglkellaaGreatFak
import Derived.WalkKit
import Derived.WalkSpells
import Derived.WalkLawsBesides
import Derived.Lib.Hide
import Derived.Lib.EndianBits
import Derived.Sort.Walk0
import Derived.Laws.CopyOwn
import Derived.Laws.BytesArg
import Derived.Deep.OwnRows
import Derived.Lib.SlBytesConst
import Derived.Lib.SmallJoins
import Derived.BigQuiet
import Derived.Deep.QuietTactic
import Derived.Lib.AppendStr
namespace Go.Proofs.YtgppgecglkellaaGreat
open Go.RowKit

set_option maxRecDepth 100000 in
theorem byte_lt (c : UInt8) : c.toNat < 256 := c.toNat_lt
/-- a byte's cell -/
def byteEnc (c : UInt8) : List Value := [.int .u8 (c.toNat : Int)]
set_option maxRecDepth 100000 in
theorem byteEnc_len (c : UInt8) : (byteEnc c).length = 1 := rfl
set_option maxRecDepth 100000 in
theorem byteEnc_one (c : UInt8) : ∀ u ∈ byteEnc c, u.oneCell' = true := by simp [byteEnc, Value.oneCell']
abbrev RdB (w : World) (B : Nat) (v : Value) (l : List UInt8) : Prop := Rd byteEnc 1 w B v l
set_option maxRecDepth 100000 in
theorem RdB.at {w : World} {B : Nat} {v : Value} {l : List UInt8} (h : RdB w B v l) : ∃ A c, v = .slice A l.length c ∧ l.length ≤ c ∧ ∀ i (_ : i < l.length), ∃ b o, A = some ⟨b, o, none⟩ ∧ b < B ∧ w.cell? ⟨b, o + i, none⟩ = some (.int .u8 (l[i].toNat : Int)) := by
  obtain ⟨A, c, hv, hc, hi⟩ := h
  refine ⟨A, c, hv, hc, fun i hs => ?_⟩
  obtain ⟨b, o, hA, hB, h1⟩ := hi i hs
  have := h1 0 _ rfl
  simp only [Nat.mul_one, Nat.add_zero] at this
  exact ⟨b, o, hA, hB, this⟩
set_option maxRecDepth 100000 in
theorem info_u8 : (Tryz.prog.info? 5).map (fun i => (i.zero, i.size, i.bytes)) = some (some (.int .u8 0), 1, 1) := by kernel_rfl

/-- the cells of bytes -/
def cellsB (l : List UInt8) : List Value := l.map fun c => .int .u8 (c.toNat : Int)
set_option maxRecDepth 100000 in
theorem cellsB_len (l : List UInt8) : (cellsB l).length = l.length := by simp [cellsB]
set_option maxRecDepth 100000 in
theorem flat_cellsB (l : List UInt8) : flatG byteEnc l = cellsB l := by
  induction l with
  | nil => rfl
  | cons c l ih => rw [cellsB, List.map_cons, ← cellsB, ← ih]; rfl
set_option maxRecDepth 100000 in
theorem cellsB_get (l : List UInt8) (i : Nat) (h : i < l.length) : (cellsB l)[i]? = some (.int .u8 (l[i].toNat : Int)) := by simp [cellsB, h]
set_option maxRecDepth 100000 in
theorem cellsB_one (l : List UInt8) : ∀ v ∈ cellsB l, v.oneCell' = true := by
  intro v hv
  obtain ⟨c, _, rfl⟩ := List.mem_map.1 hv
  rfl
set_option maxRecDepth 100000 in
theorem cellsB_append (a b : List UInt8) : cellsB (a ++ b) = cellsB a ++ cellsB b := by simp [cellsB]
set_option maxRecDepth 100000 in
theorem cellsB_set (l : List UInt8) (i : Nat) (c : UInt8) : cellsB (l.set i c) = (cellsB l).set i (.int .u8 (c.toNat : Int)) := by simp [cellsB, List.map_set]

/-- a whole row of bytes -/
def RowB (w : World) (g : Nat) (l : List UInt8) : Prop := w.heap[g]? = some (.cells (cellsB l).toArray 5 (0, 0))
set_option maxRecDepth 100000 in
theorem RowB.lt {w : World} {g : Nat} {l : List UInt8} (h : RowB w g l) : g < w.heap.size := (Array.getElem?_eq_some_iff.1 h).1
set_option maxRecDepth 100000 in
theorem RowB.cell {w : World} {g : Nat} {l : List UInt8} (h : RowB w g l) (i : Nat) (hi : i < l.length) : w.cell? ⟨g, i, none⟩ = some (.int .u8 (l[i].toNat : Int)) := by
  unfold RowB at h
  simp only [World.cell?, h, List.getElem?_toArray]
  exact cellsB_get l i hi
set_option maxRecDepth 100000 in
theorem RowB.frozen {w : World} {g : Nat} {l : List UInt8} (h : RowB w g l) (i : Nat) : w.frozen? ⟨g, i, none⟩ = false := by
  unfold RowB at h
  simp [World.frozen?, h]
set_option maxRecDepth 100000 in
theorem RowB.set {w : World} {g : Nat} {l : List UInt8} (h : RowB w g l) (i : Nat) (c : UInt8) : RowB (w.setCell ⟨g, i, none⟩ (.int .u8 (c.toNat : Int))) g (l.set i c) := by
  unfold RowB at h ⊢
  rw [cellsB_set]
  simp [World.setCell, Array.getElem?_modify, h]
set_option maxRecDepth 100000 in
theorem RowB.below {w w' : World} {g B : Nat} {l : List UInt8} (h : RowB w g l) (hb : Below B w w') (hg : g < B) : RowB w' g l := (hb.block g hg).trans h
set_option maxRecDepth 100000 in
theorem RowB.next {w w' : World} {g : Nat} {l : List UInt8} (h : RowB w g l) (hb : Below w.heap.size w w') : RowB w' g l := h.below hb h.lt
set_option maxRecDepth 100000 in
theorem RowB.alloc {w : World} {g : Nat} {l : List UInt8} (h : RowB w g l) (o : Obj) : RowB (w.alloc o) g l := h.next ((Below.refl _ w).alloc (Nat.le_refl _) o)
set_option maxRecDepth 100000 in
/-- the bytes from k on, up to n of them -/
theorem RowB.rd {w : World} {g : Nat} {l : List UInt8} (h : RowB w g l) (k c : Nat) (m : List UInt8) (hm : m = l.drop k) (hc : m.length ≤ c) : RdB w w.heap.size (.slice (some ⟨g, k, none⟩) m.length c) m := by
  subst hm
  refine ⟨_, c, rfl, hc, fun i hi => ⟨g, k, rfl, h.lt, fun j u hu => ?_⟩⟩
  have hi' : k + i < l.length := by simp at hi; omega
  match j, hu with
  | 0, hu =>
    simp only [byteEnc, List.getElem?_cons_zero, Option.some.injEq] at hu
    subst hu
    simp only [Nat.mul_one, Nat.add_zero]
    rw [h.cell (k + i) hi']
    simp
  | j + 1, hu => simp [byteEnc] at hu
set_option maxRecDepth 100000 in
theorem RowB.whole {w : World} {g : Nat} {l : List UInt8} (h : RowB w g l) : RdB w w.heap.size (.slice (some ⟨g, 0, none⟩) l.length l.length) l := h.rd 0 l.length l (by simp) (Nat.le_refl _)
set_option maxRecDepth 100000 in
theorem RowB.own {w : World} {g base : Nat} {l : List UInt8} (h : RowB w g l) (hb : base ≤ g) (hm : l.length ≤ maxLen) : Own byteEnc 1 5 w base (.slice (some ⟨g, 0, none⟩) l.length l.length) l := by
  refine ⟨by rw [flat_cellsB, cellsB_len]; omega, .inr ⟨g, l.length, _, rfl, hb, h, Nat.le_refl _, hm, by simp [cellsB_len], ?_⟩⟩
  rw [flat_cellsB]
  exact List.take_of_length_le (by simp [cellsB_len])

section
variable {ops : Array Oper} {rest : List Oper} {o : Oper} {a : Act} {Q : Exit → Act → World → Prop} {w : World}
set_option maxRecDepth 100000 in
/-- a new row of zeros -/
theorem wpList_makeB (hg : o.guard = none) (l c : Operand) (hop : o.op = Op.makeSlice 83 l c) (n : Nat) (hl : a.eval l = .int .i64 (n : Int)) (hc : a.eval c = .int .i64 (n : Int)) (hn : n ≤ 281474976710656)
    (hK : ∀ w', RowB w' w.heap.size (List.replicate n 0) → Below w.heap.size w w' → wpList Tryz.prog ops Q rest (a.put o.dst (.slice (some ⟨w.heap.size, 0, none⟩) n n)) w') : wpList Tryz.prog ops Q (o :: rest) a w := by
  obtain ⟨i, hi, hz0, hz1, hz2⟩ := info_parts info_u8
  refine wpList_make_row w hg l c 83 hop 5 i _ Tryz.underlying83 hi hz0 hz1 rfl .i64 .i64 n hl hc (by rw [hz2]; omega) (by omega) (hK _ ?_ ((Below.refl _ w).alloc (Nat.le_refl _) _))
  unfold RowB
  have e : madeCells #[Value.int .u8 0] n = (cellsB (List.replicate n 0)).toArray := by
    apply Array.toList_inj.1
    rw [toList_madeCells_one]
    simp [cellsB]
  rw [e]
  exact heap_alloc_new w _

set_option maxRecDepth 100000 in
/-- bytes copied into a row of the call's own, from off on: as many as there are -/
theorem wpList_copyB (hgd : o.guard = none) (d s : Operand) (ho : o.op = .call { callee := .builtin .copy, args := #[d, s], argTypes := #[83, 83] }) (g off : Nat) (dp : Option Addr) (dCap : Nat) (cur l : List UInt8) (v : Value) (B : Nat)
    (hd : a.eval d = .slice dp l.length dCap) (hdp : 0 < l.length → dp = some ⟨g, off, none⟩) (hs : a.eval s = v) (hv : RdB w B v l) (hg : RowB w g cur) (hfit : off + l.length ≤ cur.length) (C : Nat) (w0 : World) (hb : Below C w0 w) (hC : C ≤ g)
    (h : ∀ w', Hid (RowB w' g (cur.take off ++ (l ++ cur.drop (off + l.length)))) → Below C w0 w' → wpList Tryz.prog ops Q rest (a.put o.dst (goInt l.length)) w') : wpList Tryz.prog ops Q (o :: rest) a w := by
  obtain ⟨i, hi, hz0, hz1, hz2⟩ := info_parts info_u8
  obtain ⟨A, c, rfl, hc, hcell⟩ := hv.at
  have hlen := cellsB_len l
  refine wpList_copy_splice hgd d s _ _ ho 5 Tryz.underlying83 (by rw [hi]; simp [hz1]) dp A l.length dCap l.length c hd hs g off (cellsB cur) 5 hg (cellsB l) (by rw [hlen]; exact (Nat.min_self _).symm) ?_ (by rw [hlen, cellsB_len]; exact hfit) (cellsB_one l) C w0 hb hC ?_
  · rw [hlen]
    intro hpos
    obtain ⟨b, o', hA, hbB, _⟩ := hcell 0 hpos
    refine ⟨hdp hpos, ⟨b, o', none⟩, hA, fun j u hu => ?_⟩
    have hj : j < l.length := by
      rcases Nat.lt_or_ge j l.length with h' | h'
      · exact h'
      · rw [List.getElem?_eq_none (by rw [cellsB_len]; exact h')] at hu; cases hu
    obtain ⟨b2, o2, hA2, _, h2⟩ := hcell j hj
    rw [hA] at hA2
    simp only [Option.some.injEq, Addr.mk.injEq, and_true] at hA2
    obtain ⟨rfl, rfl⟩ := hA2
    rw [cellsB_get l j hj] at hu
    simp only [Option.some.injEq] at hu
    subst hu
    have hadd : (⟨b, o', none⟩ : Addr).add j = ⟨b, o' + j, none⟩ := by unfold Addr.add; split <;> simp_all
    rw [hadd]
    exact h2
  · intro w' hg' hb'
    rw [hlen]
    refine h w' (Lib.hid ?_) hb'
    have := hg'.out
    unfold RowB
    rw [this]
    congr 3
    rw [splice, hlen]
    simp [cellsB, List.map_take, List.map_drop]
end

abbrev OwnB (w : World) (base : Nat) (v : Value) (l : List UInt8) : Prop := Own byteEnc 1 5 w base v l
set_option maxRecDepth 100000 in
theorem OwnB.rdB {w : World} {base : Nat} {v : Value} {l : List UInt8} (h : OwnB w base v l) : RdB w w.heap.size v l := Own.rd byteEnc_len h
set_option maxRecDepth 100000 in
/-- a literal of one byte -/
theorem RdB.one (w : World) (c : UInt8) : RdB (w.alloc (.cells #[.int .u8 (c.toNat : Int)] 5)) (w.heap.size + 1) (.slice (some ⟨w.heap.size, 0, none⟩) 1 1) [c] := by
  refine ⟨_, 1, rfl, Nat.le_refl _, fun i hi => ⟨w.heap.size, 0, rfl, Nat.lt_succ_self _, fun j u hu => ?_⟩⟩
  obtain rfl : i = 0 := by simp at hi; omega
  match j, hu with
  | 0, hu =>
    simp only [byteEnc, List.getElem_cons_zero, List.getElem?_cons_zero, Option.some.injEq] at hu
    subst hu
    exact World.cell?_alloc_at _ _ _ _ rfl
  | j + 1, hu => simp [byteEnc] at hu
set_option maxRecDepth 100000 in
theorem wpList_addB {ops : Array Oper} {rest : List Oper} {o : Oper} {a : Act} {Q : Exit → Act → World → Prop} {w : World} (hgd : o.guard = none) (s x : Operand)
    (ho : o.op = .call { callee := .builtin .append, args := #[s, x], argTypes := #[83, 83] })
    (base : Nat) (v : Value) (l : List UInt8) (hs : a.eval s = v) (hown : OwnB w base v l) (B : Nat) (v2 : Value) (p : List UInt8) (hx : a.eval x = v2) (hp : RdB w B v2 p)
    (hlen : l.length + p.length ≤ 225179981368000) (hbase : base ≤ w.heap.size) (C : Nat) (w0 : World) (hb : Below C w0 w) (hC : C ≤ base)
    (h : ∀ A' c' w', Hid (OwnB w' base (.slice A' (l ++ p).length c') (l ++ p)) → Hid (Below C w0 w') → Hid (base ≤ w'.heap.size) → wpList Tryz.prog ops Q rest (a.put o.dst (.slice A' (l ++ p).length c')) w') : wpList Tryz.prog ops Q (o :: rest) a w := by
  obtain ⟨i0, hi, hz0, hz1, hz2⟩ := info_parts info_u8
  refine wpList_addAny (enc := byteEnc) (k := 1) 83 5 1 i0 _ Tryz.underlying83 hi hz0 hz1 hz2 rfl (by decide) byteEnc_len byteEnc_one hgd s x ho base v l hs hown B v2 p hx hp (by unfold maxLen; omega) (by omega) hbase fun A' c' w' h1 h2 => ?_
  exact h A' c' w' (Lib.hid h1) (Lib.hid (hown.grown hb h2 hC (Nat.le_trans hC hbase))) (Lib.hid (Nat.le_trans hbase h2.size))

set_option maxRecDepth 100000 in
/-- the same for an operation of a region that draws -/
theorem wp_addB {o : Oper} {a : Act} {K : Act → World → Prop} {Q : Exit → Act → World → Prop} {w : World} (s x : Operand)
    (ho : o.op = .call { callee := .builtin .append, args := #[s, x], argTypes := #[83, 83] })
    (base : Nat) (v : Value) (l : List UInt8) (hs : a.eval s = v) (hown : OwnB w base v l) (B : Nat) (v2 : Value) (p : List UInt8) (hx : a.eval x = v2) (hp : RdB w B v2 p)
    (hlen : l.length + p.length ≤ 225179981368000) (hbase : base ≤ w.heap.size) (C : Nat) (w0 : World) (hb : Below C w0 w) (hC : C ≤ base)
    (h : ∀ A' c' w', OwnB w' base (.slice A' (l ++ p).length c') (l ++ p) → Below C w0 w' → base ≤ w'.heap.size → K (a.put o.dst (.slice A' (l ++ p).length c')) w') : o.wp Tryz.prog a w K Q := by
  obtain ⟨i0, hi, hz0, hz1, hz2⟩ := info_parts info_u8
  refine wp_addAny (enc := byteEnc) (k := 1) 83 5 1 i0 _ Tryz.underlying83 hi hz0 hz1 hz2 rfl (by decide) byteEnc_len byteEnc_one s x ho base v l hs hown B v2 p hx hp (by unfold maxLen; omega) (by omega) hbase fun A' c' w' h1 h2 => ?_
  exact h A' c' w' h1 (hown.grown hb h2 hC (Nat.le_trans hC hbase)) (Nat.le_trans hbase h2.size)

set_option maxRecDepth 100000 in
/-- the same where the operation has a guard that says yes -/
theorem wpList_addW {ops : Array Oper} {rest : List Oper} {o : Oper} {a : Act} {Q : Exit → Act → World → Prop} {w : World} (hgd : Region.wanted o (yielded ops a.tmps) = true) (s x : Operand)
    (ho : o.op = .call { callee := .builtin .append, args := #[s, x], argTypes := #[83, 83] })
    (base : Nat) (v : Value) (l : List UInt8) (hs : a.eval s = v) (hown : OwnB w base v l) (B : Nat) (v2 : Value) (p : List UInt8) (hx : a.eval x = v2) (hp : RdB w B v2 p)
    (hlen : l.length + p.length ≤ 225179981368000) (hbase : base ≤ w.heap.size) (C : Nat) (w0 : World) (hb : Below C w0 w) (hC : C ≤ base)
    (h : ∀ A' c' w', Hid (OwnB w' base (.slice A' (l ++ p).length c') (l ++ p)) → Hid (Below C w0 w') → Hid (base ≤ w'.heap.size) → wpList Tryz.prog ops Q rest (a.put o.dst (.slice A' (l ++ p).length c')) w') : wpList Tryz.prog ops Q (o :: rest) a w := by
  obtain ⟨i0, hi, hz0, hz1, hz2⟩ := info_parts info_u8
  refine BigFrame.wpList_want hgd fun K hK => ?_
  refine wp_addAny (enc := byteEnc) (k := 1) 83 5 1 i0 _ Tryz.underlying83 hi hz0 hz1 hz2 rfl (by decide) byteEnc_len byteEnc_one s x ho base v l hs hown B v2 p hx hp (by unfold maxLen; omega) (by omega) hbase fun A' c' w' h1 h2 => ?_
  exact hK _ _ (h A' c' w' (Lib.hid h1) (Lib.hid (hown.grown hb h2 hC (Nat.le_trans hC hbase))) (Lib.hid (Nat.le_trans hbase h2.size)))

/-- a text out of bytes -/
def strB (l : List UInt8) : ByteArray := ⟨l.toArray⟩
set_option maxRecDepth 100000 in
theorem strB_inj {a b : List UInt8} (h : strB a = strB b) : a = b := by
  simpa [strB] using h
set_option maxRecDepth 100000 in
theorem run_convB {w : World} {B : Nat} {v : Value} {l : List UInt8} (hv : RdB w B v l) : (convert 83 9 v).run Tryz.prog w = .ok (.string (strB l)) w := by
  obtain ⟨A, c, rfl, hc, hcell⟩ := hv.at
  rw [run_convert_bytes_string w 83 9 5 _ _ _ Tryz.underlying83 Tryz.underlying5 Tryz.underlying9]
  cases A with
  | none =>
    have : l = [] := by
      cases l with
      | nil => rfl
      | cons x r => obtain ⟨b, o, hA, _⟩ := hcell 0 (by simp); cases hA
    subst this
    simp [Conv.bytesToString, strB, ByteArray.empty, ByteArray.emptyWithCapacity]
    rfl
  | some ad =>
    have hl := run_loadCells_list (P := Tryz.prog) w ad ((l.map fun c => (c.toNat : Int)).map (Value.int .u8)) (fun j u hj => by
      have hjl : j < l.length := by
        rcases Nat.lt_or_ge j l.length with h | h
        · exact h
        · simp [List.getElem?_eq_none (show l.length ≤ j from h)] at hj
      obtain ⟨b, o, hA, _, h1⟩ := hcell j hjl
      simp only [Option.some.injEq] at hA
      subst hA
      have hadd : (⟨b, o, none⟩ : Addr).add j = ⟨b, o + j, none⟩ := by unfold Addr.add; split <;> simp_all
      rw [hadd, h1]
      simp [hjl] at hj
      simp [hj])
    rw [run_bytesToString w ad l.length c (l.map fun c => (c.toNat : Int)) (by simpa using hl), foldl_push_bytes]
    have e : (l.map fun c => (c.toNat : Int)).map (fun n => UInt8.ofNat n.toNat) = l := by
      rw [List.map_map]
      conv => rhs; rw [← List.map_id l]
      exact List.map_congr_left fun x _ => by simp
    rw [e]
    simp [strB, ByteArray.empty, ByteArray.emptyWithCapacity]
    rfl
set_option maxRecDepth 100000 in
theorem same_str (a b : List UInt8) : ((strB a).toList == (strB b).toList) = decide (a = b) := by
  rw [Lib.toList_data, Lib.toList_data]
  rw [Bool.eq_iff_iff]
  simp [strB]

set_option maxRecDepth 100000 in
theorem RdB.lit (w : World) (l : List UInt8) (fr : Nat × Nat) : RdB (w.alloc (.cells (cellsB l).toArray 5 fr)) (w.heap.size + 1) (.slice (some ⟨w.heap.size, 0, none⟩) l.length l.length) l := by
  refine ⟨_, l.length, rfl, Nat.le_refl _, fun i hi => ⟨w.heap.size, 0, rfl, Nat.lt_succ_self _, fun j u hu => ?_⟩⟩
  match j, hu with
  | 0, hu =>
    simp only [byteEnc, List.getElem?_cons_zero, Option.some.injEq] at hu
    subst hu
    rw [World.cell?_alloc_mark, Nat.zero_add, Nat.mul_one, Nat.add_zero, List.getElem?_toArray]
    exact cellsB_get l i hi
  | j + 1, hu => simp [byteEnc] at hu

end Go.Proofs.YtgppgecglkellaaGreat
namespace Go.Proofs.YtgppgecglkellaaGreat
open Go.RowKit

set_option maxRecDepth 100000 in
theorem strCells_bytes (s : ByteArray) : Lib.strCells s = cellsB s.data.toList := rfl
set_option maxRecDepth 100000 in
theorem data_len (s : ByteArray) : s.data.toList.length = s.size := by simp

set_option maxRecDepth 100000 in
theorem run_append_str (w : World) (base : Nat) (ty : TypeId) (v : Value) (l : List UInt8) (ho : OwnB w base v l) (s : ByteArray) (hlen : l.length + s.size ≤ 225179981368000) (hs : s.size ≤ 140737488355328) (hb : base ≤ w.heap.size) :
    ∃ v' w', (Builtin.append_ #[83, 9] ty #[v, .string s]).run Tryz.prog w = .ok v' w' ∧ OwnB w' base v' (l ++ s.data.toList) ∧ w.grownBy w' v.ownBlock := by
  obtain ⟨i0, hi, hz0, hz1, hz2⟩ := info_parts info_u8
  have small : l.length + s.size ≤ 140737488355328 → ∃ v' w', (Builtin.append_ #[83, 9] ty #[v, .string s]).run Tryz.prog w = .ok v' w' ∧ OwnB w' base v' (l ++ s.data.toList) ∧ w.grownBy w' v.ownBlock := fun hle => by
    obtain ⟨v', w', h1, h2, h3, _⟩ := Lib.run_append_own_string (P := Tryz.prog) w base 83 9 ty 5 i0 Tryz.underlying83 Tryz.underlying9 hi hz0 hz1 hz2 v l.length _ ho s (by unfold maxLen; omega) hle hb
    refine ⟨v', w', h1, ?_, h3⟩
    show w'.ownsRow base _ 1 v' _ _
    rw [List.length_append, data_len, flat_cellsB, cellsB_append, ← strCells_bytes, ← flat_cellsB]
    exact h2
  by_cases hle : l.length + s.size ≤ 140737488355328
  · exact small hle
  rcases ho.form with ⟨_, h0⟩ | ⟨g, cap, rfl, hbg, hglt, hnc⟩
  · rw [h0] at hle; simp at hle; omega
  have hfl : flatG byteEnc (l ++ s.data.toList) = cellsB l ++ Lib.strCells s := by rw [flat_cellsB, cellsB_append, strCells_bytes]
  have hll : (l ++ s.data.toList).length = l.length + s.size := by rw [List.length_append, data_len]
  have hcl := cellsB_len l
  have hsl := Lib.strCells_length s
  rcases ho.2 with ⟨h', _⟩ | ⟨g', cap', cur, h', _, hg, _, hcm, hcs, htake⟩
  · simp at h'
  simp only [Value.slice.injEq, Option.some.injEq, Addr.mk.injEq, and_true, true_and] at h'
  obtain ⟨rfl, rfl⟩ := h'
  rw [flat_cellsB, Nat.mul_one] at htake
  rw [Nat.mul_one] at hcs
  by_cases hroom : l.length + s.size ≤ cap
  · have hr := Lib.run_append_room_string (P := Tryz.prog) w 83 9 ty 5 i0 Tryz.underlying83 Tryz.underlying9 hi hz1 g l.length cap cur hg s hroom (by omega)
    refine ⟨_, _, hr, ⟨by rw [hfl, List.length_append, hcl, hsl, hll, Nat.mul_one], .inr ⟨g, cap, _, by rw [hll], hbg, setRow_heap w g cur _ _ _ hg, by rw [hll]; exact hroom, hcm, ?_, ?_⟩⟩, ⟨rfl, rfl, rfl, by simp, fun k _ hk => setRow_other w g k _ (fun e => hk (by simp [Value.ownBlock, e]))⟩⟩
    · simp only [List.size_toArray, List.length_append, List.length_take, List.length_drop, Array.length_toList, hsl]
      omega
    · rw [htake, hfl, hll, Nat.mul_one]
      exact List.take_left' (by rw [List.length_append, hcl, hsl])
  · have hold : ∀ j u, (cellsB l)[j]? = some u → w.cell? ((⟨g, 0, none⟩ : Addr).add j) = some u := by
      have := World.ownsRow.cells ho (g := g) rfl
      rwa [flat_cellsB] at this
    have hr := Lib.run_append_grow_string (P := Tryz.prog) w 83 9 ty 5 i0 _ Tryz.underlying83 Tryz.underlying9 hi hz0 ⟨g, 0, none⟩ l.length cap (cellsB l) (by rw [hz1, hcl, Nat.mul_one]) hold s (by omega) (by omega) (growslice_fits_wide (by omega) (by rw [hz2]; omega))
    have hge := grownCap_ge w (l.length + s.size) cap 5
    have hgm := grownCap_le_maxLen w (l.length + s.size) cap 5 (by unfold maxLen; omega)
    refine ⟨_, _, hr, ⟨by rw [hfl, List.length_append, hcl, hsl, hll, Nat.mul_one], .inr ⟨w.heap.size, _, _, by rw [hll], hb, heap_alloc_new w.drew _, by rw [hll]; exact hge, hgm, ?_, ?_⟩⟩, ⟨rfl, rfl, rfl, by simp, fun k hk _ => heap_alloc_old w.drew _ hk⟩⟩
    · have hz : (Value.int IntKind.u8 0).cells.size = 1 := rfl
      simp only [Array.size_append, List.size_toArray, size_zeroCells, hz, hcl, hsl]
      omega
    · rw [hfl, hll, Nat.mul_one]
      simp only [Array.toList_append]
      exact List.take_left' (by rw [List.length_append, hcl, hsl])

set_option maxRecDepth 100000 in
theorem wpList_addStr {ops : Array Oper} {rest : List Oper} {o : Oper} {a : Act} {Q : Exit → Act → World → Prop} {w : World} (hw : Region.wanted o (yielded ops a.tmps) = true) (sl x : Operand)
    (ho : o.op = .call { callee := .builtin .append, args := #[sl, x], argTypes := #[83, 9] })
    (base : Nat) (v : Value) (l : List UInt8) (hs : a.eval sl = v) (hown : OwnB w base v l) (s : ByteArray) (hx : a.eval x = .string s)
    (hlen : l.length + s.size ≤ 225179981368000) (hs47 : s.size ≤ 140737488355328) (hbase : base ≤ w.heap.size) (C : Nat) (w0 : World) (hb : Below C w0 w) (hC : C ≤ base)
    (h : ∀ A' c' w', Hid (OwnB w' base (.slice A' (l ++ s.data.toList).length c') (l ++ s.data.toList)) → Hid (Below C w0 w') → Hid (base ≤ w'.heap.size) → wpList Tryz.prog ops Q rest (a.put o.dst (.slice A' (l ++ s.data.toList).length c')) w') : wpList Tryz.prog ops Q (o :: rest) a w := by
  refine BigFrame.wpList_want hw fun K hK => ?_
  obtain ⟨v', w', hr, h2, h3⟩ := run_append_str w base o.type v l hown s hlen hs47 hbase
  have hv : ∃ A' c', v' = .slice A' (l ++ s.data.toList).length c' := by
    rcases h2.form with ⟨hv, h0⟩ | ⟨g, cap, hv, _⟩
    · exact ⟨none, 0, by rw [h0]; exact hv⟩
    · exact ⟨_, _, hv⟩
  obtain ⟨A', c', rfl⟩ := hv
  unfold Oper.wp execOp
  simp only [ho, resolve, invoke, builtin, Sem.run_bind, Sem.run_pure, Result.andThen_ok, List.map_toArray, List.map_cons, List.map_nil, hs, hx, hr]
  exact hK _ _ (h A' c' w' (Lib.hid h2) (Lib.hid (hown.grown hb h3 hC (Nat.le_trans hC hbase))) (Lib.hid (Nat.le_trans hbase h3.size)))
end Go.Proofs.YtgppgecglkellaaGreat
namespace Go.Proofs.YtgppgecglkellaaGreat
open Go.RowKit
section
variable {ops : Array Oper} {rest : List Oper} {o : Oper} {a : Act} {Q : Exit → Act → World → Prop} {w : World}
set_option maxRecDepth 100000 in
/-- bytes appended; what grew is told -/
theorem wpList_addBG (hgd : Region.wanted o (yielded ops a.tmps) = true) (s x : Operand)
    (ho : o.op = .call { callee := .builtin .append, args := #[s, x], argTypes := #[83, 83] })
    (base : Nat) (v : Value) (l : List UInt8) (hs : a.eval s = v) (hown : OwnB w base v l) (B : Nat) (v2 : Value) (p : List UInt8) (hx : a.eval x = v2) (hp : RdB w B v2 p)
    (hlen : l.length + p.length ≤ 225179981368000) (hbase : base ≤ w.heap.size)
    (h : ∀ A' c' w', Hid (OwnB w' base (.slice A' (l ++ p).length c') (l ++ p)) → Hid (w.grownBy w' v.ownBlock) → wpList Tryz.prog ops Q rest (a.put o.dst (.slice A' (l ++ p).length c')) w') : wpList Tryz.prog ops Q (o :: rest) a w := by
  obtain ⟨i0, hi, hz0, hz1, hz2⟩ := info_parts info_u8
  refine BigFrame.wpList_want hgd fun K hK => ?_
  refine wp_addAny (enc := byteEnc) (k := 1) 83 5 1 i0 _ Tryz.underlying83 hi hz0 hz1 hz2 rfl (by decide) byteEnc_len byteEnc_one s x ho base v l hs hown B v2 p hx hp (by unfold maxLen; omega) (by omega) hbase fun A' c' w' h1 h2 => ?_
  exact hK _ _ (h A' c' w' (Lib.hid h1) (Lib.hid h2))
set_option maxRecDepth 100000 in
/-- a text's bytes appended; what grew is told -/
theorem wpList_addStrG (hw : Region.wanted o (yielded ops a.tmps) = true) (sl x : Operand)
    (ho : o.op = .call { callee := .builtin .append, args := #[sl, x], argTypes := #[83, 9] })
    (base : Nat) (v : Value) (l : List UInt8) (hs : a.eval sl = v) (hown : OwnB w base v l) (s : ByteArray) (hx : a.eval x = .string s)
    (hlen : l.length + s.size ≤ 225179981368000) (hs47 : s.size ≤ 140737488355328) (hbase : base ≤ w.heap.size)
    (h : ∀ A' c' w', Hid (OwnB w' base (.slice A' (l ++ s.data.toList).length c') (l ++ s.data.toList)) → Hid (w.grownBy w' v.ownBlock) → wpList Tryz.prog ops Q rest (a.put o.dst (.slice A' (l ++ s.data.toList).length c')) w') : wpList Tryz.prog ops Q (o :: rest) a w := by
  refine BigFrame.wpList_want hw fun K hK => ?_
  obtain ⟨v', w', hr, h2, h3⟩ := run_append_str w base o.type v l hown s hlen hs47 hbase
  have hv : ∃ A' c', v' = .slice A' (l ++ s.data.toList).length c' := by
    rcases h2.form with ⟨hv, h0⟩ | ⟨g, cap, hv, _⟩
    · exact ⟨none, 0, by rw [h0]; exact hv⟩
    · exact ⟨_, _, hv⟩
  obtain ⟨A', c', rfl⟩ := hv
  unfold Oper.wp execOp
  simp only [ho, resolve, invoke, builtin, Sem.run_bind, Sem.run_pure, Result.andThen_ok, List.map_toArray, List.map_cons, List.map_nil, hs, hx, hr]
  exact hK _ _ (h A' c' w' (Lib.hid h2) (Lib.hid h3))
end
end Go.Proofs.YtgppgecglkellaaGreat
namespace Go.Proofs.YtgppgecglkellaaGreat

theorem u8_ofNat {x : Nat} (h : x < 256) : (UInt8.ofNat x).toNat = x := by simp; omega

/-- a number's bytes -/
def enc (n : Nat) : List UInt8 := if n > 127 then UInt8.ofNat (128 + n % 128) :: enc (n / 128) else [UInt8.ofNat n]
decreasing_by omega
theorem enc_big {n : Nat} (h : n > 127) : enc n = UInt8.ofNat (128 + n % 128) :: enc (n / 128) := by rw [enc, if_pos h]
theorem enc_small {n : Nat} (h : n ≤ 127) : enc n = [UInt8.ofNat n] := by rw [enc, if_neg (by omega)]
theorem enc_ne (n : Nat) : enc n ≠ [] := by
  rw [enc]; split <;> simp
theorem enc_pos (n : Nat) : 1 ≤ (enc n).length := by
  have := enc_ne n
  cases h : enc n with
  | nil => exact absurd h this
  | cons => simp
/-- how many bytes a number has -/
theorem enc_len : ∀ (k n : Nat), n < 128 ^ (k + 1) → (enc n).length ≤ k + 1
  | 0, n, h => by rw [enc_small (by omega)]; simp
  | k + 1, n, h => by
    by_cases hn : n > 127
    · rw [enc_big hn, List.length_cons]
      have := enc_len k (n / 128) (by rw [Nat.pow_succ] at h; omega)
      omega
    · rw [enc_small (by omega)]; simp
theorem enc_len9 {n : Nat} (h : n < 9223372036854775808) : (enc n).length ≤ 9 := enc_len 8 n (by omega)
theorem enc_mono : ∀ (n m : Nat), n ≤ m → (enc n).length ≤ (enc m).length := by
  intro n
  induction n using Nat.strongRecOn with
  | ind n ih =>
    intro m hm
    by_cases hn : n > 127
    · rw [enc_big hn, enc_big (n := m) (by omega), List.length_cons, List.length_cons]
      have := ih (n / 128) (by omega) (m / 128) (by omega)
      omega
    · rw [enc_small (by omega)]
      exact enc_pos m

/-- what the reading of a number answers, behind i bytes of it: the number, how many bytes, the error -/
def numGo : Nat → Nat → Nat → List UInt8 → Nat × Nat × Nat
  | i, _, _, [] => if i ≥ 9 then (0, 0, 2) else (0, 0, 3)
  | i, n, t, c :: r => if i ≥ 9 then (0, 0, 2) else
    if c.toNat < 128 then (if c.toNat = 0 ∧ i > 0 then (0, 0, 2) else (n + c.toNat % 128 * t, i + 1, 0)) else numGo (i + 1) (n + c.toNat % 128 * t) (t * 128) r
def numAns (l : List UInt8) : Nat × Nat × Nat := numGo 0 0 1 l

/-- a number that was laid comes back, whatever stands behind -/
theorem numGo_enc (s : List UInt8) : ∀ (n i a t : Nat), i + (enc n).length ≤ 9 → (i > 0 → n > 0) → numGo i a t (enc n ++ s) = (a + n * t, i + (enc n).length, 0) := by
  intro n
  induction n using Nat.strongRecOn with
  | ind n ih =>
    intro i a t hi h0
    by_cases hn : n > 127
    · rw [enc_big hn, List.length_cons] at hi
      rw [enc_big hn, List.cons_append, numGo, if_neg (by omega), u8_ofNat (by omega), if_neg (by omega), ih (n / 128) (by omega) (i + 1) _ _ (by omega) (by omega), List.length_cons]
      rw [show (128 + n % 128) % 128 = n % 128 by omega]
      have e : n * t = n % 128 * t + n / 128 * (t * 128) := by
        conv => lhs; rw [← Nat.mod_add_div n 128]
        rw [Nat.add_mul]
        congr 1
        rw [Nat.mul_comm 128, Nat.mul_assoc, Nat.mul_comm 128 t]
      rw [e]
      simp only [Prod.mk.injEq, and_true]
      omega
    · rw [enc_small (by omega)] at hi ⊢
      simp only [List.length_singleton] at hi ⊢
      rw [List.singleton_append, numGo, if_neg (by omega), u8_ofNat (by omega), if_pos (by omega), if_neg (by omega), show n % 128 = n by omega]
theorem numAns_enc {n : Nat} (h : n < 9223372036854775808) (s : List UInt8) : numAns (enc n ++ s) = (n, (enc n).length, 0) := by
  have := numGo_enc s n 0 0 1 (by have := enc_len9 h; omega) (by omega)
  simpa [numAns] using this
/-- cut off, it is told to be -/
theorem numGo_cut : ∀ (n i a t k : Nat), i + (enc n).length ≤ 9 → k < (enc n).length → numGo i a t ((enc n).take k) = (0, 0, 3) := by
  intro n
  induction n using Nat.strongRecOn with
  | ind n ih =>
    intro i a t k hi hk
    match k with
    | 0 => rw [List.take_zero, numGo, if_neg (by have := enc_pos n; omega)]
    | k + 1 =>
      by_cases hn : n > 127
      · rw [enc_big hn, List.length_cons] at hi hk
        rw [enc_big hn, List.take_succ_cons, numGo, if_neg (by omega), u8_ofNat (by omega), if_neg (by omega)]
        exact ih (n / 128) (by omega) _ _ _ _ (by omega) (by omega)
      · rw [enc_small (by omega)] at hk
        simp at hk
theorem numAns_cut {n k : Nat} (h : n < 9223372036854775808) (hk : k < (enc n).length) : numAns ((enc n).take k) = (0, 0, 3) :=
  numGo_cut n 0 0 1 k (by have := enc_len9 h; omega) hk

/-- bytes that are read as a number are that number's bytes -/
theorem numGo_once : ∀ (l : List UInt8) (i a t m u : Nat), numGo i a t l = (m, u, 0) → ∃ n, m = a + n * t ∧ u = i + (enc n).length ∧ u ≤ 9 ∧ (i > 0 → n > 0) ∧ ∃ s, l = enc n ++ s
  | [], i, a, t, m, u, h => by
    rw [numGo] at h
    split at h <;> simp at h
  | c :: r, i, a, t, m, u, h => by
    have hc : c.toNat < 256 := c.toNat_lt
    rw [numGo] at h
    by_cases hi : i ≥ 9
    · rw [if_pos hi] at h; simp at h
    · rw [if_neg hi] at h
      by_cases hs : c.toNat < 128
      · rw [if_pos hs] at h
        by_cases hz : c.toNat = 0 ∧ i > 0
        · rw [if_pos hz] at h; simp at h
        · rw [if_neg hz] at h
          simp only [Prod.mk.injEq, and_true] at h
          refine ⟨c.toNat, by rw [← h.1]; congr 2; omega, ?_, by omega, by omega, r, ?_⟩
          · rw [enc_small (by omega)]; simp; omega
          · rw [enc_small (by omega)]; simp
      · rw [if_neg hs] at h
        obtain ⟨n, h1, h2, h3, h4, s, rfl⟩ := numGo_once r _ _ _ _ _ h
        have hn := h4 (by omega)
        have hb : c.toNat % 128 + 128 * n > 127 := by omega
        refine ⟨c.toNat % 128 + 128 * n, ?_, ?_, h3, by omega, s, ?_⟩
        · rw [h1, Nat.add_mul, Nat.add_assoc]
          congr 2
          rw [Nat.mul_comm t, ← Nat.mul_assoc, Nat.mul_comm n]
        · rw [h2, enc_big hb, List.length_cons, show (c.toNat % 128 + 128 * n) / 128 = n by omega]
          omega
        · rw [enc_big hb, show (c.toNat % 128 + 128 * n) / 128 = n by omega, show 128 + (c.toNat % 128 + 128 * n) % 128 = c.toNat by omega]
          simp
theorem numAns_once {l : List UInt8} {m u : Nat} (h : numAns l = (m, u, 0)) : u = (enc m).length ∧ u ≤ 9 ∧ 1 ≤ u ∧ ∃ s, l = enc m ++ s := by
  obtain ⟨n, h1, h2, h3, _, s, rfl⟩ := numGo_once l _ _ _ _ _ h
  simp only [Nat.zero_add, Nat.mul_one] at h1 h2
  subst h1
  have := enc_pos m
  exact ⟨h2, h3, by omega, s, rfl⟩
/-- what is answered beside an error -/
theorem numGo_err : ∀ (l : List UInt8) (i a t : Nat), (numGo i a t l).2.2 = 0 ∨ numGo i a t l = (0, 0, 2) ∨ numGo i a t l = (0, 0, 3)
  | [], i, a, t => by rw [numGo]; split <;> simp
  | c :: r, i, a, t => by
    rw [numGo]
    split
    · simp
    · split
      · split <;> simp
      · exact numGo_err r _ _ _
theorem numAns_err (l : List UInt8) : (numAns l).2.2 = 0 ∨ numAns l = (0, 0, 2) ∨ numAns l = (0, 0, 3) := numGo_err l 0 0 1
/-- the number fits -/
theorem enc_lt {n : Nat} (h : (enc n).length ≤ 9) : n < 9223372036854775808 := by
  have key : ∀ (k n : Nat), (enc n).length ≤ k + 1 → n < 128 ^ (k + 1) := by
    intro k
    induction k with
    | zero =>
      intro n h
      by_cases hn : n > 127
      · rw [enc_big hn, List.length_cons] at h
        have := enc_pos (n / 128); omega
      · omega
    | succ k ih =>
      intro n h
      by_cases hn : n > 127
      · rw [enc_big hn, List.length_cons] at h
        have := ih (n / 128) (by omega)
        rw [Nat.pow_succ]; omega
      · have : 1 ≤ 128 ^ (k + 1) := Nat.pow_pos (by decide)
        rw [Nat.pow_succ]; omega
  exact key 8 n (by omega)
theorem enc_inj {n m : Nat} (hn : n < 9223372036854775808) (h : enc n = enc m) : n = m := by
  have h9 := enc_len9 hn
  have hm := enc_lt (n := m) (by rw [← h]; exact h9)
  have a := numAns_enc hn []
  have b := numAns_enc hm []
  rw [h, b] at a
  simpa using (congrArg (·.1) a).symm
end Go.Proofs.YtgppgecglkellaaGreat
namespace Go.Proofs.YtgppgecglkellaaGreat
open Go.RowKit
/-- a text's bytes -/
def encT (s : List UInt8) : List UInt8 := enc s.length ++ s
/-- what PutNum and PutText answer: the bytes, and the error -/
def putAns (l : List UInt8) (n : Int) : List UInt8 × Int := if n < 0 then ([], 5) else (l ++ enc n.toNat, 0)
def putTAns (l : List UInt8) (s : ByteArray) : List UInt8 × Int := if s.size > 65536 then ([], 6) else (l ++ encT s.data.toList, 0)
end Go.Proofs.YtgppgecglkellaaGreat
namespace Go.Proofs.YtgppgecglkellaaGreat
open Go.RowKit
/-- numbers' bytes, one behind the other -/
def encs (l : List Int) : List UInt8 := l.flatMap fun n => enc n.toNat
set_option maxRecDepth 100000 in
theorem encs_append (a b : List Int) : encs (a ++ b) = encs a ++ encs b := by simp [encs]
set_option maxRecDepth 100000 in
theorem encs_len (l : List Int) (h : ∀ n ∈ l, n < 9223372036854775808) : (encs l).length ≤ l.length * 9 := by
  induction l with
  | nil => simp [encs]
  | cons x r ih =>
    have h1 := ih (fun n hn => h n (by simp [hn]))
    have h2 := enc_len9 (n := x.toNat) (by have := h x (by simp); omega)
    have : encs (x :: r) = enc x.toNat ++ encs r := rfl
    rw [this, List.length_append, List.length_cons]
    omega
/-- what Nums answers -/
def numsAns (l : List Int) : List UInt8 × Int := if l.length > 4096 then ([], 6) else if l.any (· < 0) then ([], 5) else (encs l, 0)
end Go.Proofs.YtgppgecglkellaaGreat
namespace Go.Proofs.YtgppgecglkellaaGreat
open Go.RowKit

/-- a writer at block p: what was written till now, and its error -/
def CWr (w : World) (base p : Nat) (l : List UInt8) (e : Int) : Prop :=
  ∃ A c, Whole w p 156 [.slice A l.length c, .int .i64 e] ∧ OwnB w base (.slice A l.length c) l ∧ base ≤ p ∧ base ≤ w.heap.size
set_option maxRecDepth 100000 in
theorem CWr.more {w w' : World} {base p B : Nat} {l : List UInt8} {e : Int} (h : CWr w base p l e) (hb : Below B w w') (hB : w.heap.size ≤ B) : CWr w' base p l e := by
  obtain ⟨A, c, hw, ho, hp, hs⟩ := h
  exact ⟨A, c, hw.below hb (Nat.lt_of_lt_of_le hw.size hB), ho.below hb hB, hp, Nat.le_trans hs hb.size⟩

set_option maxHeartbeats 1000000 in
set_option maxRecDepth 100000 in
theorem clone_any (l : List UInt8) (v : Value) (w : World) (hv : RdB w w.heap.size v l) (hl : l.length ≤ 140737488351232) :
    Calls Tryz.prog 98 #[v] w fun e w' => ∃ A c, e = .returned (.slice A l.length c) ∧ OwnB w' w.heap.size (.slice A l.length c) l ∧ Below w.heap.size w w' := by
  obtain ⟨A, c, rfl, hc, hi⟩ := hv.at
  have HV := Lib.hid hv; clear hv
  cases A with
  | none =>
    have hl0 : l = [] := by
      cases l with
      | nil => rfl
      | cons x r => obtain ⟨b, o, hA, _⟩ := hi 0 (by simp); cases hA
    subst hl0
    clear hi
    have hnil := fun W => Lib.run_eql_slice_nil (P := Tryz.prog) W 83 5 none 0 c 0 0 Tryz.underlying83
    go_enter Tryz.func98, Tryz.ntmps98
    go_wp2_with fail
    go_ret
    exact ⟨_, _, rfl, Own.nil _ _, Below.refl _ _⟩
  | some ad =>
    clear hi
    have hnil := fun W => Lib.run_eql_slice_nil (P := Tryz.prog) W 83 5 (some ad) l.length c 0 0 Tryz.underlying83
    go_enter Tryz.func98, Tryz.ntmps98
    go_wp2_with (at_builtin; go_must (refine wpList_addBG rfl _ _ rfl w.heap.size _ [] rfl (Own.empty _ _ (Nat.le_refl _)) w.heap.size _ l rfl (HV.out.below ((Below.refl _ _).alloc (Nat.le_refl _) _) (Nat.le_refl _)) (by simp; omega) (by simp) ?_))
    intro A' c' w' ho hg
    have HO := Lib.hid (show OwnB w' w.heap.size (.slice A' l.length c') l from ho.out)
    have HG := Lib.hid hg.out
    go_wp2_with fail
    go_ret
    exact ⟨A', c', rfl, HO.out, ((Below.refl _ w).alloc (Nat.le_refl _) _).grown HG.out (by simp) (by simp [Value.ownBlock])⟩

set_option maxHeartbeats 1000000 in
set_option maxRecDepth 100000 in
theorem behind_any (l : List UInt8) (v : Value) (w : World) (hv : RdB w w.heap.size v l) (hl : l.length ≤ 140737488351232) :
    Calls Tryz.prog 78 #[v] w fun e w' => ∃ p, e = .returned (.pointer (some ⟨p, 0, none⟩)) ∧ CWr w' w.heap.size p l 0 ∧ Below w.heap.size w w' := by
  have hc := clone_any l v w hv hl
  have HC := Lib.hid hc; clear hc
  clear hv
  go_enter Tryz.func78, Tryz.ntmps78
  go_wp2_with fail
  refine HC.out.mono ?_
  rintro e w1 ⟨A, c, rfl, ho, hb⟩
  have HO := Lib.hid ho; clear ho
  have HB := Lib.hid hb; clear hb
  go_wp2_with fail
  go_ret
  exact ⟨_, rfl, ⟨A, c, Whole.fresh _ _ [_, _], HO.out.alloc _, HB.out.size, by simp; exact Nat.le_succ_of_le HB.out.size⟩, HB.out.alloc HB.out.size _⟩

/-- the first error -/
def firstErr (e f : Int) : Int := if e = 0 then f else e
def IsZ (e : Int) : Prop := e = 0

set_option maxHeartbeats 1000000 in
set_option maxRecDepth 100000 in
theorem or_any (e f : Int) (g c : Nat) (w : World) (h0 : w.cell? ⟨g, 0, none⟩ = some (.int .i64 e)) (h1 : w.cell? ⟨g, 1, none⟩ = some (.int .i64 f)) :
    Calls Tryz.prog 110 #[.slice (some ⟨g, 0, none⟩) 2 c] w fun x w' => x = .returned (.int .i64 (firstErr e f)) ∧ w' = w := by
  obtain ⟨R, hR⟩ : ∃ R, R = firstErr e f := ⟨_, rfl⟩
  rw [← hR]
  unfold firstErr at hR
  have HR := Lib.hid hR; clear hR
  go_enter Tryz.func110, Tryz.ntmps110
  go_wp2_with fail
  go_loop [8] (fun kv => kv = .int .i64 0 ∨ (kv = .int .i64 1 ∧ IsZ e) ∨ (kv = .int .i64 2 ∧ IsZ e ∧ IsZ f)) (fun kv => 2 - (intOf kv).toNat)
  case atStart => exact .inl rfl
  case round =>
    rcases hrel with rfl | ⟨rfl, he⟩ | ⟨rfl, he, hf⟩
    · by_cases hz : e = 0
      · have HZ : IsZ e := hz
        subst hz
        go_wp2_with fail
        go_round
        case rel => exact .inr (.inl ⟨by go_num, HZ⟩)
        case measure => simp [intOf]
      · have hr := HR.out
        rw [if_neg hz] at hr
        have HR2 := Lib.hid hr; clear hr
        go_wp2_with fail
        go_ret
        exact ⟨by rw [HR2.out]; rfl, rfl⟩
    · have hr := HR.out
      rw [if_pos (show e = 0 from he)] at hr
      have HR2 := Lib.hid hr; clear hr
      by_cases hz : f = 0
      · have HZ : IsZ f := hz
        subst hz
        go_wp2_with fail
        go_round
        case rel => exact .inr (.inr ⟨by go_num, he, HZ⟩)
        case measure => simp [intOf]
      · go_wp2_with fail
        go_ret
        exact ⟨by rw [HR2.out]; rfl, rfl⟩
    · have hr := HR.out
      rw [if_pos (show e = 0 from he), show f = 0 from hf] at hr
      have HR2 := Lib.hid hr; clear hr
      go_wp2_with fail
      go_ret
      exact ⟨by rw [HR2.out]; rfl, rfl⟩

set_option maxHeartbeats 1000000 in
set_option maxRecDepth 100000 in
theorem wfail_any (base p : Nat) (l : List UInt8) (e f : Int) (w : World) (hw : CWr w base p l e) :
    Calls Tryz.prog 99 #[.pointer (some ⟨p, 0, none⟩), .int .i64 f] w fun x w' => x = .returned (.pointer (some ⟨p, 0, none⟩)) ∧ CWr w' base p l (firstErr e f) ∧ Below base w w' := by
  obtain ⟨A, c, hb, ho, hp, hs⟩ := hw
  have c0 := hb.cell 0 _ rfl
  have c1 := hb.cell 1 _ rfl
  have f1 := hb.frozen 1
  have hlt := hb.size
  have HB := Lib.hid hb; clear hb
  have HO := Lib.hid ho; clear ho
  go_enter Tryz.func99, Tryz.ntmps99
  go_wp2_with fail
  refine (or_any e f w.heap.size 2 _ (by go_simp) (by go_simp)).mono ?_
  rintro x w1 ⟨rfl, rfl⟩
  go_wp2_with fail
  go_ret
  refine ⟨rfl, ⟨A, c, (HB.out.put 1 _).alloc _, (HO.out.put HB.out (by decide) 1 _).alloc _, hp, by simp; omega⟩, ((Below.refl _ _).setCell hp _).alloc (by simpa using hs) _⟩

set_option maxHeartbeats 1000000 in
set_option maxRecDepth 100000 in
theorem wdone_any (base p : Nat) (l : List UInt8) (e : Int) (w : World) (hw : CWr w base p l e) :
    Calls Tryz.prog 80 #[.pointer (some ⟨p, 0, none⟩)] w fun x w' => ∃ v', x = .returned (.tuple #[v', .int .i64 e]) ∧ RdB w' w'.heap.size v' (if e = 0 then l else []) ∧ Below base w w' := by
  obtain ⟨A, c, hb, ho, hp, hs⟩ := hw
  have c0 := hb.cell 0 _ rfl
  have c1 := hb.cell 1 _ rfl
  have hlt := hb.size
  have HO := Lib.hid ho; clear ho
  clear hb
  by_cases he : e = 0
  · subst he
    go_enter Tryz.func80, Tryz.ntmps80
    go_wp2_with fail
    go_ret2
    exact ⟨_, rfl, HO.out.rdB, Below.refl _ _⟩
  · rw [if_neg he]
    go_enter Tryz.func80, Tryz.ntmps80
    go_wp2_with fail
    refine wp_region_planB [(true, 0), (true, 1), (true, 2), (true, 3), (true, 4), (true, 5)] (by kernel_rfl) (by kernel_rfl) (fun _ _ d _ _ h => by cases d <;> exact h) ?_
    repeat (refine PlanB.take (v := ?_) rfl rfl ?_ ?_; rotate_left; (focus (intro W hW; have k1 := (hW.cell (p := ⟨p, 1, none⟩) hlt).trans c1; go_simp; (try with_reducible rfl); done)); (try simp only [Act.put, List.setIfInBounds_toArray, List.set_cons_zero, List.set_cons_succ]))
    simp only [PlanB]
    go_wp2_with fail
    go_ret2
    exact ⟨_, rfl, Rd.nil _ _, (Below.refl _ _).drew⟩
end Go.Proofs.YtgppgecglkellaaGreat
namespace Go.Proofs.YtgppgecglkellaaGreat
open Go.RowKit

set_option maxRecDepth 100000 in
theorem or128 : ∀ a : Fin 256, bits .or .u8 (a.val : Int) 128 = ((128 + a.val % 128 : Nat) : Int) := by decide +kernel
set_option maxRecDepth 100000 in
theorem CWr.size {w : World} {base p : Nat} {l : List UInt8} {e : Int} (h : CWr w base p l e) : p < w.heap.size := by
  obtain ⟨A, c, hb, _⟩ := h
  exact hb.size

set_option maxRecDepth 100000 in
theorem CWr.still {w w2 : World} {base p : Nat} {l : List UInt8} {A : Option Addr} {c : Nat} {e : Int} (hb : Whole w p 156 [.slice A l.length c, .int .i64 e]) (ho : OwnB w base (.slice A l.length c) l) (o : Obj) (hg : (w.alloc o).grownBy w2 (Value.slice A l.length c).ownBlock) :
    Whole w2 p 156 [.slice A l.length c, .int .i64 e] := (hb.alloc o).grown hg ((ho.alloc o).apart (hb.alloc o) (by decide))
set_option maxRecDepth 100000 in
theorem CWr.stored {w w2 wb : World} {base p : Nat} {l l2 : List UInt8} {A A2 : Option Addr} {c c2 : Nat} {e : Int} (hb : Whole w p 156 [.slice A l.length c, .int .i64 e]) (ho : OwnB w base (.slice A l.length c) l) (o : Obj) (hg : (w.alloc o).grownBy w2 (Value.slice A l.length c).ownBlock)
    (h2 : OwnB w2 base (.slice A2 l2.length c2) l2) (hs : base ≤ w.heap.size) (hp : base ≤ p) (hw : Below base wb w) :
    CWr (w2.setCell ⟨p, 0, none⟩ (.slice A2 l2.length c2)) base p l2 e ∧ Below base wb (w2.setCell ⟨p, 0, none⟩ (.slice A2 l2.length c2)) := by
  have hb2 := CWr.still hb ho o hg
  have hz : base ≤ (w.alloc o).heap.size := by simp; omega
  exact ⟨⟨A2, c2, hb2.put 0 _, h2.put hb2 (by decide) 0 _, hp, by have := hg.size; simp at this ⊢; omega⟩, ((ho.alloc o).grown (hw.alloc hs o) hg (Nat.le_refl _) hz).setCell hp _⟩

set_option maxHeartbeats 4000000 in
set_option maxRecDepth 100000 in
theorem wnum_any (n : Nat) (hn : n < 9223372036854775808) (base p : Nat) (l : List UInt8) (e : Int) (w : World) (hw : CWr w base p l e) (hl : l.length ≤ 225179981367000) :
    Calls Tryz.prog 79 #[.pointer (some ⟨p, 0, none⟩), .int .i64 (n : Int)] w fun x w' => x = .returned (.pointer (some ⟨p, 0, none⟩)) ∧ CWr w' base p (l ++ enc n) e ∧ Below base w w' := by
  have h9 := enc_len9 hn
  obtain ⟨R, hR⟩ : ∃ R, R = l ++ enc n := ⟨_, rfl⟩
  rw [← hR]
  have hRl : R.length ≤ 225179981367009 := by rw [hR, List.length_append]; omega
  have HW := Lib.hid hw; clear hw
  have HR := Lib.hid hR; clear hR h9
  go_enter Tryz.func79, Tryz.ntmps79
  go_wp2_with fail
  go_loopw [1] (fun nv wr => ∃ (m : Nat) (l' : List UInt8), m ≤ n ∧ nv = .int .i64 m ∧ CWr wr base p l' e ∧ R = l' ++ enc m ∧ Below base w wr) (fun nv _ => (intOf nv).toNat)
  case atStart => exact ⟨n, l, Nat.le_refl _, rfl, HW.out, HR.out, Below.refl _ _⟩
  case round =>
    obtain ⟨m, l', hm, rfl, ⟨A, c, hb, ho, hp, hs⟩, he, hbw⟩ := hrel
    have hlen : l'.length + (enc m).length = R.length := by rw [he, List.length_append]
    have hep := enc_pos m
    have hl' : l'.length + 1 ≤ 225179981368000 := by omega
    have c0 := hb.cell 0 _ rfl
    have f0 := hb.frozen 0
    have hlt := hb.size
    have HE := Lib.hid he; clear he
    have HO := Lib.hid ho; clear ho
    have HB := Lib.hid hb; clear hb
    have HBW := Lib.hid hbw; clear hbw
    clear hlen hep
    by_cases hlt : m > 127
    · obtain ⟨bt, hbt⟩ : ∃ bt, bt = UInt8.ofNat (128 + m % 128) := ⟨_, rfl⟩
      have HBT := Lib.hid hbt; clear hbt
      have hm2 : (128 : Int) ≤ (m : Int) := by omega
      have h1 : bits .or .u8 ((m : Int) % 256) 128 = (bt.toNat : Int) := by
        have := or128 ⟨m % 256, by omega⟩
        rw [HBT.out, u8_ofNat (by omega)]
        simp only [Int.natCast_emod] at this
        rw [show 128 + m % 128 = 128 + m % 256 % 128 by omega]
        exact this
      go_wp2_with (at_builtin; go_must (refine wpList_addBG rfl _ _ rfl base (.slice A l'.length c) l' rfl ?x1 (wr.heap.size + 1) _ [bt] rfl (RdB.one wr _) hl' ?x2 ?x3))
      case x1 => exact HO.out.alloc _
      case x2 => simp; omega
      intro A2 c2 w2 ho2 hg2
      have hb2 := CWr.still HB.out HO.out _ hg2.out
      have k0 := hb2.cell 0 _ rfl
      have g0 := hb2.frozen 0
      go_wp2_with fail
      have hre : R = (l' ++ [bt]) ++ enc (m / 128) := by rw [HE.out, enc_big hlt, HBT.out]; simp
      have ho3 : OwnB w2 base (.slice A2 (l' ++ [bt]).length c2) (l' ++ [bt]) := by simpa using ho2.out
      obtain ⟨q1, q2⟩ := CWr.stored HB.out HO.out _ hg2.out ho3 hs hp HBW.out
      simp only [List.length_append, List.length_singleton] at q1 q2
      go_roundw
      case rel => exact ⟨m / 128, l' ++ [bt], by omega, by go_num, q1, hre, q2⟩
      case measure => simp [intOf]; omega
    · obtain ⟨bt, hbt⟩ : ∃ bt, bt = UInt8.ofNat m := ⟨_, rfl⟩
      have HBT := Lib.hid hbt
      have h1 : (m : Int) = (bt.toNat : Int) := by rw [hbt, u8_ofNat (by omega)]
      clear hbt
      have hm7 : (m : Int) ≤ 127 := by omega
      have H1 := Lib.hid h1; clear h1
      go_wp2_with (at_builtin; go_must (refine wpList_addBG rfl _ _ rfl base (.slice A l'.length c) l' rfl ?y1 (wr.heap.size + 1) _ [bt] rfl ?y5 hl' ?y2 ?y3))
      case y1 => exact HO.out.alloc _
      case y5 => rw [H1.out]; exact RdB.one wr _
      case y2 => simp; omega
      intro A2 c2 w2 ho2 hg2
      have hb2 := CWr.still HB.out HO.out _ hg2.out
      have k0 := hb2.cell 0 _ rfl
      have g0 := hb2.frozen 0
      go_wp2_with fail
      have hre : R = l' ++ [bt] := by rw [HE.out, enc_small (by omega), HBT.out]
      have ho3 : OwnB w2 base (.slice A2 (l' ++ [bt]).length c2) (l' ++ [bt]) := by simpa using ho2.out
      obtain ⟨q1, q2⟩ := CWr.stored HB.out HO.out _ hg2.out ho3 hs hp HBW.out
      simp only [List.length_append, List.length_singleton] at q1 q2
      go_ret
      exact ⟨rfl, by rw [hre]; exact q1, q2⟩

set_option maxHeartbeats 1000000 in
set_option maxRecDepth 100000 in
theorem wnum_neg (n : Int) (hn : n < 0) (base p : Nat) (l : List UInt8) (e : Int) (w : World) (hw : CWr w base p l e) :
    Calls Tryz.prog 79 #[.pointer (some ⟨p, 0, none⟩), .int .i64 n] w fun x w' => x = .returned (.pointer (some ⟨p, 0, none⟩)) ∧ CWr w' base p l (firstErr e 5) ∧ Below base w w' := by
  have HF := Lib.hid (wfail_any base p l e 5 w hw)
  clear hw
  go_enter Tryz.func79, Tryz.ntmps79
  go_wp2_with fail
  refine HF.out.mono ?_
  rintro x w1 ⟨rfl, hw, hb⟩
  have HW := Lib.hid hw; clear hw
  have HB := Lib.hid hb; clear hb
  go_wp2_with fail
  go_ret
  exact ⟨rfl, HW.out, HB.out⟩

set_option maxHeartbeats 2000000 in
set_option maxRecDepth 100000 in
theorem wtext_any (s : ByteArray) (hs : s.size ≤ 65536) (base p : Nat) (l : List UInt8) (e : Int) (w : World) (hw : CWr w base p l e) (hl : l.length ≤ 200000000000000) :
    Calls Tryz.prog 100 #[.pointer (some ⟨p, 0, none⟩), .string s] w fun x w' => x = .returned (.pointer (some ⟨p, 0, none⟩)) ∧ CWr w' base p (l ++ encT s.data.toList) e ∧ Below base w w' := by
  have hnum := wnum_any s.size (by omega) base p l e w hw (by omega)
  obtain ⟨R, hR⟩ : ∃ R, R = l ++ enc s.size := ⟨_, rfl⟩
  have hRl : R.length ≤ l.length + 9 := by rw [hR, List.length_append]; have := enc_len9 (n := s.size) (by omega); omega
  have hF : l ++ encT s.data.toList = R ++ s.data.toList := by rw [hR, encT, data_len, List.append_assoc]
  rw [← hR] at hnum
  rw [hF]
  have HP := Lib.hid hnum; clear hnum
  clear hw hR hF
  go_enter Tryz.func100, Tryz.ntmps100
  go_wp2_with fail
  refine HP.out.mono ?_
  rintro x w1 ⟨rfl, ⟨A, c, hb, ho, hp, hs1⟩, hbw⟩
  have c0 := hb.cell 0 _ rfl
  have HB := Lib.hid hb; clear hb
  have HO := Lib.hid ho; clear ho
  have HBW := Lib.hid hbw; clear hbw
  go_wp2_with (at_builtin; go_must (refine wpList_addStrG rfl _ _ rfl base (.slice A R.length c) R rfl HO.out s rfl (by omega) (by omega) hs1 ?_))
  intro A2 c2 w2 ho2 hg2
  have hb2 := HB.out.grown hg2.out (HO.out.apart HB.out (by decide))
  have k0 := hb2.cell 0 _ rfl
  have g0 := hb2.frozen 0
  go_wp2_with fail
  go_ret
  have e1 : (R ++ s.data.toList).length = R.length + s.size := by rw [List.length_append, data_len]
  have ho3 := ho2.out
  exact ⟨rfl, ⟨A2, c2, by rw [e1]; exact hb2.put 0 _, by rw [e1]; exact ho3.put hb2 (by decide) 0 _, hp, by have := hg2.out.size; simp; omega⟩, (HO.out.grown HBW.out hg2.out (Nat.le_refl _) hs1).setCell hp _⟩

set_option maxHeartbeats 1000000 in
set_option maxRecDepth 100000 in
theorem wtext_big (s : ByteArray) (hs : s.size > 65536) (hs2 : s.size ≤ 140737488351232) (base p : Nat) (l : List UInt8) (e : Int) (w : World) (hw : CWr w base p l e) :
    Calls Tryz.prog 100 #[.pointer (some ⟨p, 0, none⟩), .string s] w fun x w' => x = .returned (.pointer (some ⟨p, 0, none⟩)) ∧ CWr w' base p l (firstErr e 6) ∧ Below base w w' := by
  have HF := Lib.hid (wfail_any base p l e 6 w hw)
  clear hw
  have hb : (65536 : Int) < (s.size : Int) := by omega
  go_enter Tryz.func100, Tryz.ntmps100
  go_wp2_with fail
  refine HF.out.mono ?_
  rintro x w1 ⟨rfl, hw, hb⟩
  have HW := Lib.hid hw; clear hw
  have HB := Lib.hid hb; clear hb
  go_wp2_with fail
  go_ret
  exact ⟨rfl, HW.out, HB.out⟩



set_option maxRecDepth 100000 in
theorem putText_any (l : List UInt8) (v : Value) (s : ByteArray) (w : World) (hv : RdB w w.heap.size v l) (hl : l.length ≤ 140737488351232) (hs : s.size ≤ 140737488351232) :
    Calls Tryz.prog 81 #[v, .string s] w fun e w' => ∃ v', e = .returned (.tuple #[v', .int .i64 (putTAns l s).2]) ∧ RdB w' w'.heap.size v' (putTAns l s).1 ∧ Below w.heap.size w w' := by
  have hbe := behind_any l v w hv hl
  obtain ⟨R, hR⟩ : ∃ R, R = putTAns l s := ⟨_, rfl⟩
  rw [← hR]
  unfold putTAns at hR
  have HB := Lib.hid hbe; clear hbe
  have HR := Lib.hid hR; clear hR
  clear hv
  go_enter Tryz.func81, Tryz.ntmps81
  go_wp2_with fail
  refine HB.out.mono ?_
  rintro e w1 ⟨p, rfl, hw, hb⟩
  have HW := Lib.hid hw; clear hw
  have HB1 := Lib.hid hb; clear hb
  by_cases hbig : s.size > 65536
  · have hr := HR.out
    rw [if_pos hbig] at hr
    have HR2 := Lib.hid hr; clear hr
    go_wp2_with fail
    refine (wtext_big s hbig hs _ p l 0 w1 HW.out).mono ?_
    rintro e w2 ⟨rfl, hw2, hb2⟩
    have HD := Lib.hid (wdone_any _ p l 6 w2 hw2)
    have HB2 := Lib.hid hb2; clear hb2 hw2
    go_wp2_with fail
    refine HD.out.mono ?_
    rintro e w3 ⟨v', rfl, hr3, hb3⟩
    have HR3 := Lib.hid hr3; clear hr3
    have HB3 := Lib.hid hb3; clear hb3
    go_wp2_with fail
    go_ret2
    exact ⟨v', by rw [HR2.out]; rfl, by rw [HR2.out]; exact HR3.out, (HB1.out.trans HB2.out).trans HB3.out⟩
  · have hr := HR.out
    rw [if_neg hbig] at hr
    have HR2 := Lib.hid hr; clear hr
    go_wp2_with fail
    refine (wtext_any s (by omega) _ p l 0 w1 HW.out (by omega)).mono ?_
    rintro e w2 ⟨rfl, hw2, hb2⟩
    have HD := Lib.hid (wdone_any _ p (l ++ encT s.data.toList) 0 w2 hw2)
    have HB2 := Lib.hid hb2; clear hb2 hw2
    go_wp2_with fail
    refine HD.out.mono ?_
    rintro e w3 ⟨v', rfl, hr3, hb3⟩
    have HR3 := Lib.hid hr3; clear hr3
    have HB3 := Lib.hid hb3; clear hb3
    go_wp2_with fail
    go_ret2
    exact ⟨v', by rw [HR2.out]; rfl, by rw [HR2.out]; exact HR3.out, (HB1.out.trans HB2.out).trans HB3.out⟩

set_option maxRecDepth 100000 in
theorem any_take_succ (l : List Int) (i : Nat) (h : i < l.length) : (l.take (i + 1)).any (· < 0) = ((l.take i).any (· < 0) || decide (l[i] < 0)) := by
  rw [List.take_add_one, List.getElem?_eq_getElem h, List.any_append]; simp

/-- the error behind the first numbers -/
def negErr (l : List Int) : Int := if l.any (· < 0) then 5 else 0

set_option maxHeartbeats 2000000 in
set_option maxRecDepth 100000 in
theorem nums_any (l : List Int) (hr : ∀ n ∈ l, n < 9223372036854775808) (v : Value) (w : World) (hv : RdI w w.heap.size v l) (hl : l.length < 4611686018427387904) :
    Calls Tryz.prog 59 #[v] w fun e w' => ∃ v', e = .returned (.tuple #[v', .int .i64 (numsAns l).2]) ∧ RdB w' w'.heap.size v' (numsAns l).1 ∧ Below w.heap.size w w' := by
  obtain ⟨A, c, rfl, hc, hi⟩ := hv.at
  by_cases hbig : l.length > 4096
  · rw [numsAns, if_pos hbig]
    have hb : (4096 : Int) < (l.length : Int) := by omega
    clear hi hv
    go_enter Tryz.func59, Tryz.ntmps59
    go_wp2_with fail
    go_ret2
    exact ⟨_, rfl, Rd.nil _ _, Below.refl _ _⟩
  · obtain ⟨R, hR⟩ : ∃ R, R = numsAns l := ⟨_, rfl⟩
    rw [← hR]
    rw [numsAns, if_neg hbig] at hR
    have hb : ¬ (4096 : Int) < (l.length : Int) := by omega
    have HR := Lib.hid hR; clear hR
    have HI := Lib.hid hi; clear hi
    have HV := Lib.hid hv; clear hv
    have HH := Lib.hid hr; clear hr
    obtain ⟨g, hg⟩ : ∃ g, g = w.heap.size := ⟨_, rfl⟩
    have HG := Lib.hid hg; clear hg
    have HBE := Lib.hid (behind_any [] (.slice none 0 0) w (Rd.nil _ _) (by simp))
    go_enter Tryz.func59, Tryz.ntmps59
    go_wp2_with fail
    refine HBE.out.mono ?_
    rintro e w1 ⟨p, rfl, hw, hb⟩
    rw [← HG.out] at hw hb
    have HW := Lib.hid hw; clear hw
    have HB1 := Lib.hid hb; clear hb
    go_wp2_with fail
    go_loopw [4, 13] (fun pv iv wr => ∃ (i : Nat) (l' : List UInt8) (e : Int), i ≤ l.length ∧ iv = .int .i64 i ∧ pv = .pointer (some ⟨p, 0, none⟩) ∧ CWr wr g p l' e ∧ Below g w wr ∧ e = negErr (l.take i) ∧ l'.length ≤ i * 9 ∧ (e = 0 → l' = encs (l.take i))) (fun _ iv _ => l.length - (intOf iv).toNat)
    case atStart => exact ⟨0, [], 0, Nat.zero_le _, rfl, rfl, HW.out, HB1.out, rfl, by simp, fun _ => rfl⟩
    case round =>
      obtain ⟨i, l', e, hil, rfl, rfl, hw, hbw, he, hll, hle⟩ := hrel
      have HW := Lib.hid hw; clear hw
      have HB := Lib.hid hbw; clear hbw
      have HE := Lib.hid he; clear he
      have HLE := Lib.hid hle; clear hle
      by_cases hlt : i < l.length
      · obtain ⟨b, o, rfl, hbB, h1⟩ := HI.out i hlt
        have hx := HB.out.cell (p := ⟨b, o + i, none⟩) (by rw [HG.out]; exact hbB)
        rw [h1] at hx
        have hmem := HH.out l[i] (List.getElem_mem hlt)
        have htk : l.take (i + 1) = l.take i ++ [l[i]] := by rw [List.take_add_one, List.getElem?_eq_getElem hlt]; rfl
        have hany := any_take_succ l i hlt
        generalize l[i] = z at h1 hx hmem htk hany
        clear h1
        by_cases hz : z < 0
        · have hn := wnum_neg z hz g p l' e wr HW.out
          have he2 : firstErr e 5 = negErr (l.take (i + 1)) := by
            rw [HE.out]; unfold firstErr negErr; rw [hany]
            by_cases h : (l.take i).any (· < 0) = true <;> simp [h, hz]
          have hne : firstErr e 5 ≠ 0 := by rw [he2]; unfold negErr; rw [hany]; simp [hz]
          have HN := Lib.hid hn
          have HE2 := Lib.hid he2
          clear hn he2 hany htk hmem
          go_wp2_with fail
          refine HN.out.mono ?_
          rintro x w2 ⟨rfl, hw2, hb2⟩
          have HW2 := Lib.hid hw2
          have HB2 := Lib.hid (HB.out.trans hb2)
          clear hw2 hb2
          generalize firstErr e 5 = e2 at hne HE2 HW2
          have HNE := Lib.hid hne; clear hne
          go_wp2_with fail
          go_roundw
          case rel => exact ⟨i + 1, l', e2, by omega, by go_num, rfl, HW2.out, HB2.out, HE2.out, by omega, fun h => absurd h HNE.out⟩
          case measure => simp [intOf]; omega
        · obtain ⟨n, rfl⟩ : ∃ n : Nat, z = (n : Int) := ⟨z.toNat, by omega⟩
          have hn := wnum_any n (by omega) g p l' e wr HW.out (by omega)
          have he2 : e = negErr (l.take (i + 1)) := by
            rw [HE.out]; unfold negErr; rw [hany, decide_eq_false hz, Bool.or_false]
          have hle2 : (l' ++ enc n).length ≤ (i + 1) * 9 := by rw [List.length_append]; have := enc_len9 (n := n) (by omega); omega
          have hl2 : e = 0 → l' ++ enc n = encs (l.take (i + 1)) := fun h => by rw [htk, encs_append, HLE.out h]; simp [encs]
          have HN := Lib.hid hn
          have HE2 := Lib.hid he2
          have HL2 := Lib.hid hl2
          have HLE2 := Lib.hid hle2
          clear hn he2 hany htk hmem hl2 hle2 hz
          generalize l' ++ enc n = l2 at HN HL2 HLE2
          go_wp2_with fail
          refine HN.out.mono ?_
          rintro x w2 ⟨rfl, hw2, hb2⟩
          have HW2 := Lib.hid hw2
          have HB2 := Lib.hid (HB.out.trans hb2)
          clear hw2 hb2
          go_wp2_with fail
          go_roundw
          case rel => exact ⟨i + 1, l2, e, by omega, by go_num, rfl, HW2.out, HB2.out, HE2.out, HLE2.out, HL2.out⟩
          case measure => simp [intOf]; omega
      · obtain rfl : i = l.length := by omega
        have HD := Lib.hid (wdone_any _ p l' e wr HW.out)
        have hee := HE.out
        rw [List.take_length] at hee
        unfold negErr at hee
        have hr := HR.out
        have hle := HLE.out
        rw [List.take_length] at hle
        have key : R = (if e = 0 then l' else [], e) := by
          rw [hr]
          by_cases h : l.any (· < 0) = true
          · rw [if_pos h] at hee ⊢; rw [hee]; rfl
          · rw [if_neg h] at hee ⊢; rw [hee, if_pos rfl, hle hee]
        have HK := Lib.hid key
        clear key hr hle hee
        go_wp2_with fail
        refine HD.out.mono ?_
        rintro x w2 ⟨v', rfl, hr2, hb2⟩
        have HR2 := Lib.hid hr2
        have HB2 := Lib.hid (HB.out.trans hb2)
        clear hr2 hb2
        go_wp2_with fail
        go_ret2
        exact ⟨v', by rw [HK.out]; rfl, by rw [HK.out]; exact HR2.out, by have h := HB2.out; rw [HG.out] at h; exact h⟩
end Go.Proofs.YtgppgecglkellaaGreat

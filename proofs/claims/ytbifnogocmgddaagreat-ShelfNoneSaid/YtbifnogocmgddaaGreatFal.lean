/- Slices of ints: read, owned, appended to; those that came in. What the reference's Nums, Split and Ints answer. The writer's numbers and texts; what PutNum, PutText and Nums answer. The program's records as they stand on a tape. The program's tape: the calls that write. The program's tape: Sync, Replace. What the program's lay leaves: the deferred note, the two ways of writing. What the program's lay leaves, with either way of writing. -/
import Derived.Test.YtbifnogocmgddaaGreatFaa
import Derived.Test.YtbifnogocmgddaaGreatFaj
import Derived.Test.YtbifnogocmgddaaGreatFai
import Derived.Test.YtbifnogocmgddaaGreatFab
import Derived.Test.YtbifnogocmgddaaGreatFak
import Derived.Defers
namespace Go.Proofs.YtbifnogocmgddaaGreat
open Go.ChangeShapes Go.WideShapes Go.ChangeAt Go.RowKit Go.Joins Go.Deep

set_option maxRecDepth 100000 in
theorem info_int : (Tryz.prog.info? 3).map (fun i => (i.zero, i.size, i.bytes)) = some (some (.int .i64 0), 1, 8) := by kernel_rfl
/-- an int's cell -/
def encI (n : Int) : List Value := [.int .i64 n]
set_option maxRecDepth 100000 in
theorem encI_len (n : Int) : (encI n).length = 1 := rfl
set_option maxRecDepth 100000 in
theorem encI_one (n : Int) : ∀ u ∈ encI n, u.oneCell' = true := by simp [encI, Value.oneCell']
abbrev RdI (w : World) (B : Nat) (v : Value) (l : List Int) : Prop := Rd encI 1 w B v l
abbrev OwnI (w : World) (base : Nat) (v : Value) (l : List Int) : Prop := Own encI 1 3 w base v l
set_option maxRecDepth 100000 in
theorem OwnI.rdI {w : World} {base : Nat} {v : Value} {l : List Int} (h : OwnI w base v l) : RdI w w.heap.size v l := Own.rd encI_len h
set_option maxRecDepth 100000 in
theorem RdI.at {w : World} {B : Nat} {v : Value} {l : List Int} (h : RdI w B v l) : ∃ A c, v = .slice A l.length c ∧ l.length ≤ c ∧ ∀ i (_ : i < l.length), ∃ b o, A = some ⟨b, o, none⟩ ∧ b < B ∧ w.cell? ⟨b, o + i, none⟩ = some (.int .i64 l[i]) := by
  obtain ⟨A, c, hv, hc, hi⟩ := h
  refine ⟨A, c, hv, hc, fun i hs => ?_⟩
  obtain ⟨b, o, hA, hB, h1⟩ := hi i hs
  have := h1 0 _ rfl
  simp only [Nat.mul_one, Nat.add_zero] at this
  exact ⟨b, o, hA, hB, this⟩
set_option maxRecDepth 100000 in
theorem RdI.one (w : World) (n : Int) : RdI (w.alloc (.cells #[.int .i64 n] 3)) (w.heap.size + 1) (.slice (some ⟨w.heap.size, 0, none⟩) 1 1) [n] := by
  refine ⟨_, 1, rfl, Nat.le_refl _, fun i hi => ⟨w.heap.size, 0, rfl, Nat.lt_succ_self _, fun j u hu => ?_⟩⟩
  obtain rfl : i = 0 := by simp at hi; omega
  match j, hu with
  | 0, hu =>
    simp only [encI, List.getElem_cons_zero, List.getElem?_cons_zero, Option.some.injEq] at hu
    subst hu
    exact World.cell?_alloc_at _ _ _ _ rfl
  | j + 1, hu => simp [encI] at hu
set_option maxRecDepth 100000 in
theorem wpList_addI {ops : Array Oper} {rest : List Oper} {o : Oper} {a : Act} {Q : Exit → Act → World → Prop} {w : World} (hgd : Region.wanted o (yielded ops a.tmps) = true) (s x : Operand)
    (ho : o.op = .call { callee := .builtin .append, args := #[s, x], argTypes := #[144, 144] })
    (base : Nat) (v : Value) (l : List Int) (hs : a.eval s = v) (hown : OwnI w base v l) (B : Nat) (v2 : Value) (p : List Int) (hx : a.eval x = v2) (hp : RdI w B v2 p)
    (hlen : l.length + p.length ≤ 28147497670000) (hbase : base ≤ w.heap.size) (C : Nat) (w0 : World) (hb : Below C w0 w) (hC : C ≤ base)
    (h : ∀ A' c' w', Hid (OwnI w' base (.slice A' (l ++ p).length c') (l ++ p)) → Hid (Below C w0 w') → Hid (base ≤ w'.heap.size) → wpList Tryz.prog ops Q rest (a.put o.dst (.slice A' (l ++ p).length c')) w') : wpList Tryz.prog ops Q (o :: rest) a w := by
  obtain ⟨i0, hi, hz0, hz1, hz2⟩ := info_parts info_int
  refine BigFrame.wpList_want hgd fun K hK => ?_
  refine wp_addAny (enc := encI) (k := 1) 144 3 8 i0 _ Tryz.underlying144 hi hz0 hz1 hz2 rfl (by decide) encI_len encI_one s x ho base v l hs hown B v2 p hx hp (by unfold maxLen; omega) (by omega) hbase fun A' c' w' h1 h2 => ?_
  exact hK _ _ (h A' c' w' (Lib.hid h1) (Lib.hid (hown.grown hb h2 hC (Nat.le_trans hC hbase))) (Lib.hid (Nat.le_trans hbase h2.size)))

/-- what is known of the data of ints -/
def SizedI {H : Type} (d : DataW H) (l : List Int) : Prop := (d = .nil ∧ l = []) ∨ ∃ el sp, d = .slice el sp ∧ el.length = l.length
set_option maxRecDepth 100000 in
/-- a slice of ints that came in reads as a list -/
theorem open_intsI {H : Type} {enc : TypeId × Value → H} {W : World} {base : Nat} {v : Value} {d : DataW H} {p : List MemPlace} (hv : Value.okWide Tryz.prog W .any base 144 v) (h : DataW.Trod enc Tryz.prog W 0 (fun _ => true) true 144 v d p) :
    ∃ l, RdI W W.heap.size v l ∧ SizedI d l ∧ ∀ n ∈ l, -9223372036854775808 ≤ n ∧ n < 9223372036854775808 := by
  obtain ⟨a0, len, cap, rfl⟩ := okWide_slice Tryz.underlying144 hv
  obtain ⟨fuel, hf⟩ := h
  rcases open_ints Tryz.underlying144 Tryz.underlying3 (by kernel_rfl) hf with ⟨hcs, hx⟩ | ⟨a, len', cap', zs, hcs, _, hl, hm, hz, hx, hcell, hwz⟩
  · simp only [Value.cells] at hcs
    have e : Value.slice a0 len cap = .slice none 0 0 := by simpa using hcs
    injection e with e1 e2 e3
    subst e1 e2 e3
    simp only [Prod.mk.injEq] at hx
    exact ⟨[], Rd.nil _ _, .inl ⟨hx.1, rfl⟩, by simp⟩
  · simp only [Value.cells] at hcs
    have e : Value.slice a0 len cap = .slice (some a) len' cap' := by simpa using hcs
    injection e with e1 e2 e3
    subst e1 e2 e3
    simp only [Prod.mk.injEq] at hx
    obtain ⟨rfl, rfl⟩ := hx
    simp only [if_true] at hz
    have hb : ∀ n ∈ zs, -9223372036854775808 ≤ n ∧ n < 9223372036854775808 := fun n hn => by
      have h := hwz n hn
      have h1 : IntKind.i64.min = -9223372036854775808 := rfl
      have h2 : IntKind.i64.max = 9223372036854775807 := rfl
      simp only [Lit.wf, Bool.and_eq_true, decide_eq_true_eq] at h
      omega
    have hlen : (zs.take len).length = len := by simp; omega
    refine ⟨zs.take len, ⟨some a, cap, by rw [hlen], by rw [hlen]; exact hl, fun i hi => ?_⟩, .inr ⟨_, _, rfl, by simp [lits]⟩, fun n hn => hb n (List.mem_of_mem_take hn)⟩
    have hi' : i < len := by omega
    have hc := hcell i (by omega)
    have hsp : a.spot = none := by
      have h0 := hcell 0 (by omega)
      have e0 : a.add 0 = a := rfl
      rw [e0] at h0
      exact World.cell?_spot h0
    rw [addr_add a i hsp] at hc
    have hblk := World.block_lt_of_cell? _ _ hc
    refine ⟨a.block, a.off, by cases a; simp only at hsp; subst hsp; rfl, hblk, fun j u hu => ?_⟩
    match j, hu with
    | 0, hu =>
      simp only [encI, List.getElem?_cons_zero, Option.some.injEq] at hu
      subst hu
      have hlt : i < zs.length := by omega
      rw [Nat.mul_one, Nat.add_zero, hc]
      simp [List.getD, hlt]
    | j + 1, hu => simp [encI] at hu
set_option maxRecDepth 100000 in
theorem SizedI.reach {H : Type} {ts : List TypeId} {ds : List (DataW H)} (h : (DataW.weightsEach Tryz.prog ts ds).all (· ≤ reachBytes) = true) {j : Nat} {d : DataW H} {l : List Int} (hs : SizedI d l) (ht : ts[j]? = some 144) (hd : ds[j]? = some d) : l.length ≤ 17592186043904 := by
  rcases hs with ⟨_, rfl⟩ | ⟨el, sp, rfl, he⟩
  · simp
  · have := sized_slice h ht hd Tryz.underlying144
    rw [show Tryz.prog.bytesOf 3 = 8 by kernel_rfl, show reachBytes = 140737488351232 from rfl] at this
    omega
end Go.Proofs.YtbifnogocmgddaaGreat
namespace Go.Proofs.YtbifnogocmgddaaGreat
open Go.RowKit

/-- numbers' bytes, one behind the other -/
def encs (l : List Int) : List UInt8 := l.flatMap fun n => enc n.toNat
set_option maxRecDepth 100000 in
theorem encs_append (a b : List Int) : encs (a ++ b) = encs a ++ encs b := by simp [encs]
set_option maxRecDepth 100000 in
theorem encs_len (l : List Int) (h : ∀ n ∈ l, n < 9223372036854775808) : (encs l).length ≤ l.length * 9 := by
  induction l with
  | nil => simp [encs]
  | cons x r ih =>
    have h1 := ih (fun n hn => h n (by simp [hn]))
    have h2 := enc_len9 (n := x.toNat) (by have := h x (by simp); omega)
    have : encs (x :: r) = enc x.toNat ++ encs r := rfl
    rw [this, List.length_append, List.length_cons]
    omega
/-- what Nums answers -/
def numsAns (l : List Int) : List UInt8 × Int := if l.length > 4096 then ([], 6) else if l.any (· < 0) then ([], 5) else (encs l, 0)
end Go.Proofs.YtbifnogocmgddaaGreat
namespace Go.Proofs.YtbifnogocmgddaaGreat
open Go.RowKit

set_option maxRecDepth 100000 in
theorem or128 : ∀ a : Fin 256, bits .or .u8 (a.val : Int) 128 = ((128 + a.val % 128 : Nat) : Int) := by decide +kernel
set_option maxRecDepth 100000 in
theorem Wr.size {w : World} {base p : Nat} {l : List UInt8} {e : Int} (h : Wr w base p l e) : p < w.heap.size := by
  obtain ⟨A, c, hb, _⟩ := h
  exact hb.size

set_option maxRecDepth 100000 in
theorem Wr.still {w w2 : World} {base p : Nat} {l : List UInt8} {A : Option Addr} {c : Nat} {e : Int} (hb : Whole w p 163 [.slice A l.length c, .int .i64 e]) (ho : OwnB w base (.slice A l.length c) l) (o : Obj) (hg : (w.alloc o).grownBy w2 (Value.slice A l.length c).ownBlock) :
    Whole w2 p 163 [.slice A l.length c, .int .i64 e] := (hb.alloc o).grown hg ((ho.alloc o).apart (hb.alloc o) (by decide))
set_option maxRecDepth 100000 in
theorem Wr.stored {w w2 wb : World} {base p : Nat} {l l2 : List UInt8} {A A2 : Option Addr} {c c2 : Nat} {e : Int} (hb : Whole w p 163 [.slice A l.length c, .int .i64 e]) (ho : OwnB w base (.slice A l.length c) l) (o : Obj) (hg : (w.alloc o).grownBy w2 (Value.slice A l.length c).ownBlock)
    (h2 : OwnB w2 base (.slice A2 l2.length c2) l2) (hs : base ≤ w.heap.size) (hp : base ≤ p) (hw : Below base wb w) :
    Wr (w2.setCell ⟨p, 0, none⟩ (.slice A2 l2.length c2)) base p l2 e ∧ Below base wb (w2.setCell ⟨p, 0, none⟩ (.slice A2 l2.length c2)) := by
  have hb2 := Wr.still hb ho o hg
  have hz : base ≤ (w.alloc o).heap.size := by simp; omega
  exact ⟨⟨A2, c2, hb2.put 0 _, h2.put hb2 (by decide) 0 _, hp, by have := hg.size; simp at this ⊢; omega⟩, ((ho.alloc o).grown (hw.alloc hs o) hg (Nat.le_refl _) hz).setCell hp _⟩

set_option maxHeartbeats 4000000 in
set_option maxRecDepth 100000 in
theorem wnum_any (n : Nat) (hn : n < 9223372036854775808) (base p : Nat) (l : List UInt8) (e : Int) (w : World) (hw : Wr w base p l e) (hl : l.length ≤ 225179981367000) :
    Calls Tryz.prog 83 #[.pointer (some ⟨p, 0, none⟩), .int .i64 (n : Int)] w fun x w' => x = .returned (.pointer (some ⟨p, 0, none⟩)) ∧ Wr w' base p (l ++ enc n) e ∧ Below base w w' := by
  have h9 := enc_len9 hn
  obtain ⟨R, hR⟩ : ∃ R, R = l ++ enc n := ⟨_, rfl⟩
  rw [← hR]
  have hRl : R.length ≤ 225179981367009 := by rw [hR, List.length_append]; omega
  have HW := Lib.hid hw; clear hw
  have HR := Lib.hid hR; clear hR h9
  go_enter Tryz.func83, Tryz.ntmps83
  go_wp2_with fail
  go_loopw [1] (fun nv wr => ∃ (m : Nat) (l' : List UInt8), m ≤ n ∧ nv = .int .i64 m ∧ Wr wr base p l' e ∧ R = l' ++ enc m ∧ Below base w wr) (fun nv _ => (intOf nv).toNat)
  case atStart => exact ⟨n, l, Nat.le_refl _, rfl, HW.out, HR.out, Below.refl _ _⟩
  case round =>
    obtain ⟨m, l', hm, rfl, ⟨A, c, hb, ho, hp, hs⟩, he, hbw⟩ := hrel
    have hlen : l'.length + (enc m).length = R.length := by rw [he, List.length_append]
    have hep := enc_pos m
    have hl' : l'.length + 1 ≤ 225179981368000 := by omega
    have c0 := hb.cell 0 _ rfl
    have f0 := hb.frozen 0
    have hlt := hb.size
    have HE := Lib.hid he; clear he
    have HO := Lib.hid ho; clear ho
    have HB := Lib.hid hb; clear hb
    have HBW := Lib.hid hbw; clear hbw
    clear hlen hep
    by_cases hlt : m > 127
    · obtain ⟨bt, hbt⟩ : ∃ bt, bt = UInt8.ofNat (128 + m % 128) := ⟨_, rfl⟩
      have HBT := Lib.hid hbt; clear hbt
      have hm2 : (128 : Int) ≤ (m : Int) := by omega
      have h1 : bits .or .u8 ((m : Int) % 256) 128 = (bt.toNat : Int) := by
        have := or128 ⟨m % 256, by omega⟩
        rw [HBT.out, u8_ofNat (by omega)]
        simp only [Int.natCast_emod] at this
        rw [show 128 + m % 128 = 128 + m % 256 % 128 by omega]
        exact this
      go_wp2_with (at_builtin; go_must (refine wpList_addBG rfl _ _ rfl base (.slice A l'.length c) l' rfl ?x1 (wr.heap.size + 1) _ [bt] rfl (RdB.one wr _) hl' ?x2 ?x3))
      case x1 => exact HO.out.alloc _
      case x2 => simp; omega
      intro A2 c2 w2 ho2 hg2
      have hb2 := Wr.still HB.out HO.out _ hg2.out
      have k0 := hb2.cell 0 _ rfl
      have g0 := hb2.frozen 0
      go_wp2_with fail
      have hre : R = (l' ++ [bt]) ++ enc (m / 128) := by rw [HE.out, enc_big hlt, HBT.out]; simp
      have ho3 : OwnB w2 base (.slice A2 (l' ++ [bt]).length c2) (l' ++ [bt]) := by simpa using ho2.out
      obtain ⟨q1, q2⟩ := Wr.stored HB.out HO.out _ hg2.out ho3 hs hp HBW.out
      simp only [List.length_append, List.length_singleton] at q1 q2
      go_roundw
      case rel => exact ⟨m / 128, l' ++ [bt], by omega, by go_num, q1, hre, q2⟩
      case measure => simp [intOf]; omega
    · obtain ⟨bt, hbt⟩ : ∃ bt, bt = UInt8.ofNat m := ⟨_, rfl⟩
      have HBT := Lib.hid hbt
      have h1 : (m : Int) = (bt.toNat : Int) := by rw [hbt, u8_ofNat (by omega)]
      clear hbt
      have hm7 : (m : Int) ≤ 127 := by omega
      have H1 := Lib.hid h1; clear h1
      go_wp2_with (at_builtin; go_must (refine wpList_addBG rfl _ _ rfl base (.slice A l'.length c) l' rfl ?y1 (wr.heap.size + 1) _ [bt] rfl ?y5 hl' ?y2 ?y3))
      case y1 => exact HO.out.alloc _
      case y5 => rw [H1.out]; exact RdB.one wr _
      case y2 => simp; omega
      intro A2 c2 w2 ho2 hg2
      have hb2 := Wr.still HB.out HO.out _ hg2.out
      have k0 := hb2.cell 0 _ rfl
      have g0 := hb2.frozen 0
      go_wp2_with fail
      have hre : R = l' ++ [bt] := by rw [HE.out, enc_small (by omega), HBT.out]
      have ho3 : OwnB w2 base (.slice A2 (l' ++ [bt]).length c2) (l' ++ [bt]) := by simpa using ho2.out
      obtain ⟨q1, q2⟩ := Wr.stored HB.out HO.out _ hg2.out ho3 hs hp HBW.out
      simp only [List.length_append, List.length_singleton] at q1 q2
      go_ret
      exact ⟨rfl, by rw [hre]; exact q1, q2⟩

set_option maxHeartbeats 1000000 in
set_option maxRecDepth 100000 in
theorem wnum_neg (n : Int) (hn : n < 0) (base p : Nat) (l : List UInt8) (e : Int) (w : World) (hw : Wr w base p l e) :
    Calls Tryz.prog 83 #[.pointer (some ⟨p, 0, none⟩), .int .i64 n] w fun x w' => x = .returned (.pointer (some ⟨p, 0, none⟩)) ∧ Wr w' base p l (firstErr e 5) ∧ Below base w w' := by
  have HF := Lib.hid (wfail_any base p l e 5 w hw)
  clear hw
  go_enter Tryz.func83, Tryz.ntmps83
  go_wp2_with fail
  refine HF.out.mono ?_
  rintro x w1 ⟨rfl, hw, hb⟩
  have HW := Lib.hid hw; clear hw
  have HB := Lib.hid hb; clear hb
  go_wp2_with fail
  go_ret
  exact ⟨rfl, HW.out, HB.out⟩

set_option maxHeartbeats 2000000 in
set_option maxRecDepth 100000 in
theorem wtext_any (s : ByteArray) (hs : s.size ≤ 65536) (base p : Nat) (l : List UInt8) (e : Int) (w : World) (hw : Wr w base p l e) (hl : l.length ≤ 200000000000000) :
    Calls Tryz.prog 85 #[.pointer (some ⟨p, 0, none⟩), .string s] w fun x w' => x = .returned (.pointer (some ⟨p, 0, none⟩)) ∧ Wr w' base p (l ++ encT s.data.toList) e ∧ Below base w w' := by
  have hnum := wnum_any s.size (by omega) base p l e w hw (by omega)
  obtain ⟨R, hR⟩ : ∃ R, R = l ++ enc s.size := ⟨_, rfl⟩
  have hRl : R.length ≤ l.length + 9 := by rw [hR, List.length_append]; have := enc_len9 (n := s.size) (by omega); omega
  have hF : l ++ encT s.data.toList = R ++ s.data.toList := by rw [hR, encT, data_len, List.append_assoc]
  rw [← hR] at hnum
  rw [hF]
  have HP := Lib.hid hnum; clear hnum
  clear hw hR hF
  go_enter Tryz.func85, Tryz.ntmps85
  go_wp2_with fail
  refine HP.out.mono ?_
  rintro x w1 ⟨rfl, ⟨A, c, hb, ho, hp, hs1⟩, hbw⟩
  have c0 := hb.cell 0 _ rfl
  have HB := Lib.hid hb; clear hb
  have HO := Lib.hid ho; clear ho
  have HBW := Lib.hid hbw; clear hbw
  go_wp2_with (at_builtin; go_must (refine wpList_addStrG rfl _ _ rfl base (.slice A R.length c) R rfl HO.out s rfl (by omega) (by omega) hs1 ?_))
  intro A2 c2 w2 ho2 hg2
  have hb2 := HB.out.grown hg2.out (HO.out.apart HB.out (by decide))
  have k0 := hb2.cell 0 _ rfl
  have g0 := hb2.frozen 0
  go_wp2_with fail
  go_ret
  have e1 : (R ++ s.data.toList).length = R.length + s.size := by rw [List.length_append, data_len]
  have ho3 := ho2.out
  exact ⟨rfl, ⟨A2, c2, by rw [e1]; exact hb2.put 0 _, by rw [e1]; exact ho3.put hb2 (by decide) 0 _, hp, by have := hg2.out.size; simp; omega⟩, (HO.out.grown HBW.out hg2.out (Nat.le_refl _) hs1).setCell hp _⟩

set_option maxHeartbeats 1000000 in
set_option maxRecDepth 100000 in
theorem wtext_big (s : ByteArray) (hs : s.size > 65536) (hs2 : s.size ≤ 140737488355328) (base p : Nat) (l : List UInt8) (e : Int) (w : World) (hw : Wr w base p l e) :
    Calls Tryz.prog 85 #[.pointer (some ⟨p, 0, none⟩), .string s] w fun x w' => x = .returned (.pointer (some ⟨p, 0, none⟩)) ∧ Wr w' base p l (firstErr e 6) ∧ Below base w w' := by
  have HF := Lib.hid (wfail_any base p l e 6 w hw)
  clear hw
  have hb : (65536 : Int) < (s.size : Int) := by omega
  go_enter Tryz.func85, Tryz.ntmps85
  go_wp2_with fail
  refine HF.out.mono ?_
  rintro x w1 ⟨rfl, hw, hb⟩
  have HW := Lib.hid hw; clear hw
  have HB := Lib.hid hb; clear hb
  go_wp2_with fail
  go_ret
  exact ⟨rfl, HW.out, HB.out⟩



set_option maxRecDepth 100000 in
theorem putText_any (l : List UInt8) (v : Value) (s : ByteArray) (w : World) (hv : RdB w w.heap.size v l) (hl : l.length ≤ 140737488351232) (hs : s.size ≤ 140737488355328) :
    Calls Tryz.prog 62 #[v, .string s] w fun e w' => ∃ v', e = .returned (.tuple #[v', .int .i64 (putTAns l s).2]) ∧ RdB w' w'.heap.size v' (putTAns l s).1 ∧ Below w.heap.size w w' := by
  have hbe := behind_any l v w hv hl
  obtain ⟨R, hR⟩ : ∃ R, R = putTAns l s := ⟨_, rfl⟩
  rw [← hR]
  unfold putTAns at hR
  have HB := Lib.hid hbe; clear hbe
  have HR := Lib.hid hR; clear hR
  clear hv
  go_enter Tryz.func62, Tryz.ntmps62
  go_wp2_with fail
  refine HB.out.mono ?_
  rintro e w1 ⟨p, rfl, hw, hb⟩
  have HW := Lib.hid hw; clear hw
  have HB1 := Lib.hid hb; clear hb
  by_cases hbig : s.size > 65536
  · have hr := HR.out
    rw [if_pos hbig] at hr
    have HR2 := Lib.hid hr; clear hr
    go_wp2_with fail
    refine (wtext_big s hbig hs _ p l 0 w1 HW.out).mono ?_
    rintro e w2 ⟨rfl, hw2, hb2⟩
    have HD := Lib.hid (wdone_any _ p l 6 w2 hw2)
    have HB2 := Lib.hid hb2; clear hb2 hw2
    go_wp2_with fail
    refine HD.out.mono ?_
    rintro e w3 ⟨v', rfl, hr3, hb3⟩
    have HR3 := Lib.hid hr3; clear hr3
    have HB3 := Lib.hid hb3; clear hb3
    go_wp2_with fail
    go_ret2
    exact ⟨v', by rw [HR2.out]; rfl, by rw [HR2.out]; exact HR3.out, (HB1.out.trans HB2.out).trans HB3.out⟩
  · have hr := HR.out
    rw [if_neg hbig] at hr
    have HR2 := Lib.hid hr; clear hr
    go_wp2_with fail
    refine (wtext_any s (by omega) _ p l 0 w1 HW.out (by omega)).mono ?_
    rintro e w2 ⟨rfl, hw2, hb2⟩
    have HD := Lib.hid (wdone_any _ p (l ++ encT s.data.toList) 0 w2 hw2)
    have HB2 := Lib.hid hb2; clear hb2 hw2
    go_wp2_with fail
    refine HD.out.mono ?_
    rintro e w3 ⟨v', rfl, hr3, hb3⟩
    have HR3 := Lib.hid hr3; clear hr3
    have HB3 := Lib.hid hb3; clear hb3
    go_wp2_with fail
    go_ret2
    exact ⟨v', by rw [HR2.out]; rfl, by rw [HR2.out]; exact HR3.out, (HB1.out.trans HB2.out).trans HB3.out⟩

set_option maxRecDepth 100000 in
theorem any_take_succ (l : List Int) (i : Nat) (h : i < l.length) : (l.take (i + 1)).any (· < 0) = ((l.take i).any (· < 0) || decide (l[i] < 0)) := by
  rw [List.take_add_one, List.getElem?_eq_getElem h, List.any_append]; simp

/-- the error behind the first numbers -/
def negErr (l : List Int) : Int := if l.any (· < 0) then 5 else 0

set_option maxHeartbeats 2000000 in
set_option maxRecDepth 100000 in
theorem numsO_any (l : List Int) (hr : ∀ n ∈ l, n < 9223372036854775808) (v : Value) (w : World) (hv : RdI w w.heap.size v l) (hl : l.length < 4611686018427387904) :
    Calls Tryz.prog 61 #[v] w fun e w' => ∃ v', e = .returned (.tuple #[v', .int .i64 (numsAns l).2]) ∧ OwnB w' w.heap.size v' (numsAns l).1 ∧ Below w.heap.size w w' := by
  obtain ⟨A, c, rfl, hc, hi⟩ := hv.at
  by_cases hbig : l.length > 4096
  · rw [numsAns, if_pos hbig]
    have hb : (4096 : Int) < (l.length : Int) := by omega
    clear hi hv
    go_enter Tryz.func61, Tryz.ntmps61
    go_wp2_with fail
    go_ret2
    exact ⟨_, rfl, Own.nil _ _, Below.refl _ _⟩
  · obtain ⟨R, hR⟩ : ∃ R, R = numsAns l := ⟨_, rfl⟩
    rw [← hR]
    rw [numsAns, if_neg hbig] at hR
    have hb : ¬ (4096 : Int) < (l.length : Int) := by omega
    have HR := Lib.hid hR; clear hR
    have HI := Lib.hid hi; clear hi
    have HV := Lib.hid hv; clear hv
    have HH := Lib.hid hr; clear hr
    obtain ⟨g, hg⟩ : ∃ g, g = w.heap.size := ⟨_, rfl⟩
    have HG := Lib.hid hg; clear hg
    have HBE := Lib.hid (behind_any [] (.slice none 0 0) w (Rd.nil _ _) (by simp))
    go_enter Tryz.func61, Tryz.ntmps61
    go_wp2_with fail
    refine HBE.out.mono ?_
    rintro e w1 ⟨p, rfl, hw, hb⟩
    rw [← HG.out] at hw hb
    have HW := Lib.hid hw; clear hw
    have HB1 := Lib.hid hb; clear hb
    go_wp2_with fail
    go_loopw [4, 13] (fun pv iv wr => ∃ (i : Nat) (l' : List UInt8) (e : Int), i ≤ l.length ∧ iv = .int .i64 i ∧ pv = .pointer (some ⟨p, 0, none⟩) ∧ Wr wr g p l' e ∧ Below g w wr ∧ e = negErr (l.take i) ∧ l'.length ≤ i * 9 ∧ (e = 0 → l' = encs (l.take i))) (fun _ iv _ => l.length - (intOf iv).toNat)
    case atStart => exact ⟨0, [], 0, Nat.zero_le _, rfl, rfl, HW.out, HB1.out, rfl, by simp, fun _ => rfl⟩
    case round =>
      obtain ⟨i, l', e, hil, rfl, rfl, hw, hbw, he, hll, hle⟩ := hrel
      have HW := Lib.hid hw; clear hw
      have HB := Lib.hid hbw; clear hbw
      have HE := Lib.hid he; clear he
      have HLE := Lib.hid hle; clear hle
      by_cases hlt : i < l.length
      · obtain ⟨b, o, rfl, hbB, h1⟩ := HI.out i hlt
        have hx := HB.out.cell (p := ⟨b, o + i, none⟩) (by rw [HG.out]; exact hbB)
        rw [h1] at hx
        have hmem := HH.out l[i] (List.getElem_mem hlt)
        have htk : l.take (i + 1) = l.take i ++ [l[i]] := by rw [List.take_add_one, List.getElem?_eq_getElem hlt]; rfl
        have hany := any_take_succ l i hlt
        generalize l[i] = z at h1 hx hmem htk hany
        clear h1
        by_cases hz : z < 0
        · have hn := wnum_neg z hz g p l' e wr HW.out
          have he2 : firstErr e 5 = negErr (l.take (i + 1)) := by
            rw [HE.out]; unfold firstErr negErr; rw [hany]
            by_cases h : (l.take i).any (· < 0) = true <;> simp [h, hz]
          have hne : firstErr e 5 ≠ 0 := by rw [he2]; unfold negErr; rw [hany]; simp [hz]
          have HN := Lib.hid hn
          have HE2 := Lib.hid he2
          clear hn he2 hany htk hmem
          go_wp2_with fail
          refine HN.out.mono ?_
          rintro x w2 ⟨rfl, hw2, hb2⟩
          have HW2 := Lib.hid hw2
          have HB2 := Lib.hid (HB.out.trans hb2)
          clear hw2 hb2
          generalize firstErr e 5 = e2 at hne HE2 HW2
          have HNE := Lib.hid hne; clear hne
          go_wp2_with fail
          go_roundw
          case rel => exact ⟨i + 1, l', e2, by omega, by go_num, rfl, HW2.out, HB2.out, HE2.out, by omega, fun h => absurd h HNE.out⟩
          case measure => simp [intOf]; omega
        · obtain ⟨n, rfl⟩ : ∃ n : Nat, z = (n : Int) := ⟨z.toNat, by omega⟩
          have hn := wnum_any n (by omega) g p l' e wr HW.out (by omega)
          have he2 : e = negErr (l.take (i + 1)) := by
            rw [HE.out]; unfold negErr; rw [hany, decide_eq_false hz, Bool.or_false]
          have hle2 : (l' ++ enc n).length ≤ (i + 1) * 9 := by rw [List.length_append]; have := enc_len9 (n := n) (by omega); omega
          have hl2 : e = 0 → l' ++ enc n = encs (l.take (i + 1)) := fun h => by rw [htk, encs_append, HLE.out h]; simp [encs]
          have HN := Lib.hid hn
          have HE2 := Lib.hid he2
          have HL2 := Lib.hid hl2
          have HLE2 := Lib.hid hle2
          clear hn he2 hany htk hmem hl2 hle2 hz
          generalize l' ++ enc n = l2 at HN HL2 HLE2
          go_wp2_with fail
          refine HN.out.mono ?_
          rintro x w2 ⟨rfl, hw2, hb2⟩
          have HW2 := Lib.hid hw2
          have HB2 := Lib.hid (HB.out.trans hb2)
          clear hw2 hb2
          go_wp2_with fail
          go_roundw
          case rel => exact ⟨i + 1, l2, e, by omega, by go_num, rfl, HW2.out, HB2.out, HE2.out, HLE2.out, HL2.out⟩
          case measure => simp [intOf]; omega
      · obtain rfl : i = l.length := by omega
        have HD := Lib.hid (wdoneO_any _ p l' e wr HW.out)
        have hee := HE.out
        rw [List.take_length] at hee
        unfold negErr at hee
        have hr := HR.out
        have hle := HLE.out
        rw [List.take_length] at hle
        have key : R = (if e = 0 then l' else [], e) := by
          rw [hr]
          by_cases h : l.any (· < 0) = true
          · rw [if_pos h] at hee ⊢; rw [hee]; rfl
          · rw [if_neg h] at hee ⊢; rw [hee, if_pos rfl, hle hee]
        have HK := Lib.hid key
        clear key hr hle hee
        go_wp2_with fail
        refine HD.out.mono ?_
        rintro x w2 ⟨v', rfl, hr2, hb2⟩
        have HR2 := Lib.hid hr2
        have HB2 := Lib.hid (HB.out.trans hb2)
        clear hr2 hb2
        go_wp2_with fail
        go_ret2
        exact ⟨v', by rw [HK.out]; rfl, by rw [HK.out, ← HG.out]; exact HR2.out, by have h := HB2.out; rw [HG.out] at h; exact h⟩
theorem nums_any (l : List Int) (hr : ∀ n ∈ l, n < 9223372036854775808) (v : Value) (w : World) (hv : RdI w w.heap.size v l) (hl : l.length < 4611686018427387904) :
    Calls Tryz.prog 61 #[v] w fun e w' => ∃ v', e = .returned (.tuple #[v', .int .i64 (numsAns l).2]) ∧ RdB w' w'.heap.size v' (numsAns l).1 ∧ Below w.heap.size w w' := by
  refine (numsO_any l hr v w hv hl).mono ?_
  rintro e w' ⟨v', h1, h2, h3⟩
  exact ⟨v', h1, h2.rdB, h3⟩
end Go.Proofs.YtbifnogocmgddaaGreat
namespace Go.Proofs.YtbifnogocmgddaaGreat
open Go.RowKit

theorem fits_step {rows : List Row} {i : Nat} (hgo : i < rows.length) (h : fits (texts (rows.take i))) (h1 : rows[i].l.length ≤ 65532) : fits (texts (rows.take (i + 1))) := by
  rw [List.take_add_one, List.getElem?_eq_getElem hgo]
  simp only [fits, texts, fitR, Option.toList_some, List.map_append, List.map_cons, List.map_nil, List.mem_append, List.mem_cons, List.not_mem_nil, or_false] at h ⊢
  rintro r (hr | rfl)
  · exact h r hr
  · exact h1
theorem texts_take (rows : List Row) (i : Nat) : texts (rows.take i) = (texts rows).take i := by simp [texts]

set_option maxHeartbeats 4000000 in
set_option maxRecDepth 100000 in
theorem bwrite_any (rows : List Row) (G : Nat → Prop) (v : Value) (w : World) (hv : RdRs w w.heap.size G v rows) (hl : rows.length ≤ 1000) (hr : ∀ r ∈ rows, r.l.length ≤ 140737488351232) :
    Calls Tryz.prog 81 #[v] w fun e w' => Below w.heap.size w w' ∧
      ((fits (texts rows) ∧ ∃ A c n, e = .returned (.tuple #[.slice A n c, .int .i64 0]) ∧ n = (lay (texts rows)).length ∧ OwnB w' w.heap.size (.slice A n c) (lay (texts rows))) ∨ (¬ fits (texts rows) ∧ e = .returned (.tuple #[.slice none 0 0, .int .i64 6]))) := by
  obtain ⟨A, c, rfl, hc, -⟩ := hv.1
  have HV := Lib.hid hv; clear hv
  have HR := Lib.hid hr; clear hr
  have hLl : (texts rows).length = rows.length := by simp [texts]
  have HLL := Lib.hid hLl; clear hLl
  go_enter Tryz.func81, Tryz.ntmps81
  go_wp2_with fail
  go_loopw [4, 11] (fun ov iv wr => ∃ (i : Nat) (A' : Option Addr) (c' n : Nat), i ≤ rows.length ∧ iv = .int .i64 (i : Int) ∧ ov = .slice A' n c' ∧ n = (lay ((texts rows).take i)).length ∧ OwnB wr w.heap.size (.slice A' n c') (lay ((texts rows).take i)) ∧ fits (texts (rows.take i)) ∧ Below w.heap.size w wr) (fun _ iv _ => rows.length - (intOf iv).toNat)
  case atStart => exact ⟨0, _, _, 0, Nat.zero_le _, rfl, rfl, rfl, Own.nil _ _, by simp [texts, fits], Below.refl _ _⟩
  case round =>
    obtain ⟨i, A', c', n, hi, rfl, rfl, hn, ho, hf, hb⟩ := hrel
    have hbs := hb.size
    by_cases hgo : i < rows.length
    · have h1 : (i : Int) < (rows.length : Int) := by omega
      have hbnd := lay_bound ((texts rows).take i) (by rw [← texts_take]; exact hf)
      rw [List.length_take, HLL.out] at hbnd
      have hnb : n ≤ 70000000 := by
        have : min i rows.length ≤ 1000 := by omega
        rw [hn]; omega
      have hrs := HV.out.mv (Mv.of_below hb) (Nat.le_refl _) (fun b h1 h2 => by omega)
      obtain ⟨⟨A0, c0, e0, -, hcell⟩, hrow⟩ := hrs
      injection e0 with e1 e2 e3
      subst e1 e3
      obtain ⟨b, o, rfl, hbl, -, q0⟩ := hcell i hgo
      have hrd := (hrow rows[i] (List.getElem_mem hgo)).rdB.mono hbs
      have hbig : rows[i].l.length ≤ 140737488351232 := HR.out _ (List.getElem_mem hgo)
      have hstep := fits_step hgo hf
      have hall : fits (texts rows) → rows[i].l.length ≤ 65532 := fun h => h _ (List.mem_map.2 ⟨rows[i], List.getElem_mem hgo, rfl⟩)
      have hnext : lay ((texts rows).take (i + 1)) = lay ((texts rows).take i) ++ encT (sealed rows[i].l) := by
        rw [lay_take _ _ (by rw [HLL.out]; exact hgo)]
        simp [texts, recB]
      have HNX := Lib.hid hnext
      have HST := Lib.hid hstep
      have HALL := Lib.hid hall
      clear hnext hcell hrow e2 hstep hall hf
      generalize rows[i] = r at q0 hrd hbig HNX HST HALL
      obtain ⟨ra, rc, rl⟩ := r
      simp only [Row.v] at q0 hrd hbig HNX HST HALL
      have HS := Lib.hid (seal_any rl _ wr hrd (by omega))
      have hsl : (sealed rl).length = rl.length + 4 := slen rl
      have HSL := Lib.hid hsl
      obtain ⟨X, hX⟩ : ∃ X, X = lay ((texts rows).take i) := ⟨_, rfl⟩
      rw [← hX] at ho hn HNX
      have HO := Lib.hid ho
      have HB := Lib.hid hb
      have HN := Lib.hid hn
      have HXX := Lib.hid hX
      clear ho hb hrd hbnd hn hX hsl
      go_wp2_with fail
      refine HS.out.mono ?_
      rintro e w1 ⟨rfl, hro, hb1⟩
      have hcv := run_convB hro.whole
      have HO1 := Lib.hid (HO.out.below hb1 (Nat.le_refl _))
      have HB1 := Lib.hid (HB.out.trans (hb1.mono hbs))
      have hbs1 := HB1.out.size
      have hput := putText_any [] (.slice none 0 0) (strB (sealed rl)) w1 (Rd.nil _ _) (by simp) (by rw [strB_size', HSL.out]; omega)
      have hpa : putTAns [] (strB (sealed rl)) = if rl.length ≤ 65532 then (encT (sealed rl), 0) else ([], 6) := by
        unfold putTAns
        rw [strB_size', HSL.out]
        by_cases h : rl.length ≤ 65532
        · rw [if_neg (by omega), if_pos h, data_strB]; rfl
        · rw [if_pos (by omega), if_neg h]
      rw [hpa] at hput
      have HP := Lib.hid hput
      clear hput hro hb1 hpa
      go_wp2_with fail
      refine HP.out.mono ?_
      rintro e w2 ⟨v2, rfl, hrd2, hb2⟩
      have HO2 := Lib.hid (HO1.out.below hb2 (Nat.le_refl _))
      have HB2 := Lib.hid (HB1.out.trans (hb2.mono hbs1))
      have hbs2 := HB2.out.size
      clear hcv HP HS hb2
      by_cases hfit : rl.length ≤ 65532
      · rw [if_pos hfit] at hrd2 ⊢
        have HRD2 := Lib.hid hrd2
        have HFT := Lib.hid (HST.out hfit)
        have hel : (encT (sealed rl)).length ≤ 65545 := by
          rw [encT, List.length_append, HSL.out]
          have := enc_len9 (n := rl.length + 4) (by omega)
          omega
        clear hrd2
        generalize encT (sealed rl) = E at HRD2 HNX hel
        obtain ⟨A9, c9, hv9, -, -⟩ := HRD2.out
        subst hv9
        have hXl : X.length = n := HN.out.symm
        go_wp2_with (at_builtin; go_must (refine wpList_addBG rfl _ _ rfl w.heap.size (.slice A' n c') X rfl HO2.out w2.heap.size _ E rfl HRD2.out (by omega) hbs2 ?_))
        intro A3 c3 w3 ho3 hg3
        have ho4 : OwnB w3 w.heap.size (.slice A3 (n + E.length) c3) (X ++ E) := by have h := ho3.out; simpa only [List.length_append, hXl] using h
        have HB3 := Lib.hid (HO2.out.grown HB2.out hg3.out (Nat.le_refl _) hbs2)
        clear ho3 hg3
        rw [← HNX.out] at ho4
        obtain ⟨n3, hn3⟩ : ∃ n3, n3 = n + E.length := ⟨_, rfl⟩
        rw [← hn3] at ho4 ⊢
        have HO3 := Lib.hid ho4
        have HN3 := Lib.hid (show n3 = (lay ((texts rows).take (i + 1))).length by rw [hn3, HNX.out, List.length_append, hXl])
        clear hn3 hXl ho4
        go_wp2_with fail
        go_roundw
        case rel => exact ⟨i + 1, A3, c3, n3, by omega, by go_num, rfl, HN3.out, HO3.out, HFT.out, HB3.out⟩
        case measure => simp [intOf]; omega
      · rw [if_neg hfit] at hrd2 ⊢
        have HNF := Lib.hid (show ¬ fits (texts rows) from fun h => hfit (HALL.out h))
        clear hrd2
        go_wp2_with fail
        go_ret2
        exact ⟨HB2.out, .inr ⟨HNF.out, rfl⟩⟩
    · have h1 : ¬ (i : Int) < (rows.length : Int) := by omega
      have hie : (texts rows).take i = texts rows := List.take_of_length_le (by rw [HLL.out]; omega)
      rw [hie] at hn ho
      rw [texts_take, hie] at hf
      have HO := Lib.hid ho
      have HB := Lib.hid hb
      have HN := Lib.hid hn
      have HF := Lib.hid hf
      clear hn ho hb hie hf
      go_wp2_with fail
      go_ret2
      exact ⟨HB.out, .inl ⟨HF.out, A', c', n, rfl, HN.out, HO.out⟩⟩
end Go.Proofs.YtbifnogocmgddaaGreat
namespace Go.Proofs.YtbifnogocmgddaaGreat
open Go.RowKit

theorem Tp.write_cases (t : Tp) (n : Nat) : ((t.write n).1 = 0 ∧ ((n : Int) ≤ t.room)) ∨ ((t.write n).1 ≠ 0 ∧ ((t.write n).1 = 10 ∨ (t.write n).1 = 11)) := by
  unfold Tp.write
  split
  · exact .inr ⟨by simp, .inr rfl⟩
  · split
    · exact .inr ⟨by simp, .inl rfl⟩
    · split
      · exact .inr ⟨by simp, .inr rfl⟩
      · split <;> exact .inl ⟨rfl, by omega⟩
theorem Tp.write_fits {t : Tp} {n m : Nat} (hn : (n : Int) ≤ t.room) (hm : (m : Int) ≤ t.room) : t.write n = t.write m := by
  unfold Tp.write
  rw [if_neg (show ¬ (n : Int) > t.room by omega), if_neg (show ¬ (m : Int) > t.room by omega)]

end Go.Proofs.YtbifnogocmgddaaGreat
namespace Go.Proofs.YtbifnogocmgddaaGreat
open Go.RowKit

set_option maxHeartbeats 1000000 in
set_option maxRecDepth 100000 in
theorem repl_any (base p : Nat) (ov : Option Nat) (t : Tp) (v : Value) (b : List UInt8) (w : World) (h : TapeAt w base p ov t) (hv : ∀ w1, Mv (TapeD p ov) w w1 → RdB w1 w1.heap.size v b) (hbl : b.length ≤ 140737488351232) :
    Calls Tryz.prog 37 #[.pointer (some ⟨p, 0, none⟩), v] w fun e w' => e = .returned (.int .i64 (t.repl b).1) ∧ ∃ ov', Went w w' base p ov (t.repl b).2 ov' := by
  have H0 := Lib.hid h
  obtain ⟨sure, loose, room, left, down⟩ := t
  obtain ⟨A, c, rfl, _, _⟩ := (hv w (Mv.refl _ _)).at
  have HV := Lib.hid hv; clear hv
  have hbg := begin_any base p ov ⟨sure, loose, room, left, down⟩ b.length w H0.out
  have hca := Tp.write_cases ⟨sure, loose, room, left, down⟩ b.length
  have hkp := Tp.write_keeps ⟨sure, loose, room, left, down⟩ b.length
  have had : Tp.repl ⟨sure, loose, room, left, down⟩ b = if (Tp.write ⟨sure, loose, room, left, down⟩ b.length).1 = 0 then (0, { (Tp.write ⟨sure, loose, room, left, down⟩ b.length).2 with sure := b, loose := [] }) else Tp.write ⟨sure, loose, room, left, down⟩ b.length := rfl
  rw [had]; clear had h
  generalize Tp.write ⟨sure, loose, room, left, down⟩ b.length = r at hbg hca hkp ⊢
  obtain ⟨e0, t1⟩ := r
  obtain ⟨sure1, loose1, room1, left1, down1⟩ := t1
  simp only at hbg hca hkp ⊢
  obtain ⟨rfl, rfl, rfl⟩ := hkp
  have HG := Lib.hid hbg; clear hbg
  rcases hca with ⟨rfl, hroom⟩ | ⟨hne, hwh⟩
  · go_enter Tryz.func37, Tryz.ntmps37
    go_wp2_with fail
    refine HG.out.mono ?_
    rintro e w1 ⟨rfl, hwent⟩
    have HM1 := Lib.hid hwent.moved
    obtain ⟨A1, c1', hb1, ho1, hv1, hp1, hs1, hk1, hl1⟩ := hwent.now
    simp only at hb1 ho1 hv1 hk1 hl1
    have hlt1 := hb1.size
    have hfr := fresh_any b _ w1 (HV.out w1 hwent.moved) hbl
    have HFR := Lib.hid hfr; clear hfr hwent
    have HB1 := Lib.hid hb1; clear hb1 ho1
    have HK1 := Lib.hid hk1; clear hk1 hv1
    go_wp2_with fail
    refine HFR.out.mono ?_
    rintro e w2 ⟨A2, c2, rfl, ho2, hbw⟩
    have hb2 := HB1.out.below hbw hlt1
    have q1 := hb2.cell 1 _ rfl
    have q2 := hb2.cell 2 _ rfl
    have qf1 := hb2.frozen 1
    have qf2 := hb2.frozen 2
    have hlt2 := hb2.size
    have hap : Value.ownBlock (.slice A2 b.length c2) ≠ some p := fun e => by have := (ho2.low e).1; omega
    have hnr : NewRow w1 ov (Value.ownBlock (.slice A2 b.length c2)) := fun g hg => .inr (ho2.low hg).1
    have HB2 := Lib.hid hb2; clear hb2
    have HO2 := Lib.hid (HoldB.ofOwn (ho2.lower hs1)); clear ho2
    have HAP := Lib.hid hap; clear hap
    have HNR := Lib.hid hnr; clear hnr
    have HBW := Lib.hid hbw; clear hbw
    go_wp2_with fail
    go_ret
    refine ⟨rfl, _, ⟨A2, c2, ?_, ?_, rfl, hp1, ?_, ?_, hl1⟩, HM1.out.trans (((Mv.of_new HBW.out (TapeD p ov)).setCell (p := ⟨p, 1, none⟩) (fun _ => .inl rfl) _).setCell (p := ⟨p, 2, none⟩) (fun _ => .inl rfl) _) (fun _ _ h => h), ?_⟩
    · have := (HB2.out.put 1 (.slice A2 b.length c2)).put 2 (.int .i64 (b.length : Int))
      simp only [List.set] at this
      simp only [List.length_nil, Nat.add_zero]
      exact this
    · simp only [List.length_nil, Nat.add_zero, List.append_nil]
      exact HO2.out.mv (((Mv.refl (fun j => j = p) w2).setCell (p := ⟨p, 1, none⟩) (fun _ => rfl) _).setCell (p := ⟨p, 2, none⟩) (fun _ => rfl) _) (fun g hg e => HAP.out (hg.trans (congrArg some e)))
    · have := HBW.out.size
      simp only [World.size_setCell]
      omega
    · obtain ⟨m1, m2, m3⟩ := HK1.out
      refine ⟨m1, m2, ?_⟩
      show ((b.length + 0 : Nat) : Int) ≤ room1
      omega
    · simp only [List.length_nil, Nat.add_zero]
      exact fun g hg => (HNR.out g hg).imp id (fun h => Nat.le_trans HM1.out.size h)
  · rw [if_neg hne]
    go_enter Tryz.func37, Tryz.ntmps37
    go_wp2_with fail
    refine HG.out.mono ?_
    rintro e w1 ⟨rfl, hwent⟩
    have HW := Lib.hid hwent; clear hwent
    go_wp2_with fail
    go_ret
    exact ⟨rfl, ov, HW.out⟩
end Go.Proofs.YtbifnogocmgddaaGreat
namespace Go.Proofs.YtbifnogocmgddaaGreat
open Go.RowKit

set_option maxHeartbeats 1000000 in
set_option maxRecDepth 100000 in
theorem lay1_any (ge gb q : Nat) (x : Int) (old : Value) (u : FrameMode) (w : World) (he : w.cell? ⟨ge, 0, none⟩ = some (.int .i64 x)) (hb : w.cell? ⟨gb, 0, none⟩ = some (.pointer (some ⟨q, 0, none⟩))) (hq : w.cell? ⟨q, 2, none⟩ = some old) (hf : w.frozen? ⟨q, 2, none⟩ = false) :
    CallsD Tryz.prog 80 #[.pointer (some ⟨ge, 0, none⟩), .pointer (some ⟨gb, 0, none⟩)] u w fun e u' w' => u' = u ∧ (e = .returned (.tuple #[]) ∧ w' = w.setCell ⟨q, 2, none⟩ (.bool (decide (x = 11)))) := by
  go_enter_d Tryz.func80, Tryz.ntmps80
  by_cases hx : x = 11
  · subst hx
    go_wp2
    go_end0
    exact ⟨rfl, rfl⟩
  · have hx2 : (x == 11) = false := by simpa using hx
    rw [decide_eq_false hx]
    go_wp2
    go_end0
    exact ⟨rfl, rfl⟩

/-- two writes, one behind the other -/
theorem Went.trans {w w1 w2 : World} {base p : Nat} {ov ov1 ov2 : Option Nat} {t1 t2 : Tp} (h : Went w w1 base p ov t1 ov1) (h2 : Went w1 w2 base p ov1 t2 ov2) : Went w w2 base p ov t2 ov2 := by
  refine ⟨h2.now, h.moved.trans h2.moved ?_, h.new.trans h2.new h.moved.size⟩
  rintro i hi (rfl | hd)
  · exact .inl rfl
  · rcases h.new i hd.symm with h3 | h3
    · exact .inr h3.symm
    · omega
/-- bytes behind the others, that last -/
def Tp.addS (t : Tp) (l : List UInt8) : Int × Tp := if (t.add l).1 ≠ 0 then t.add l else (t.add l).2.sync

set_option maxHeartbeats 2000000 in
set_option maxRecDepth 100000 in
theorem resetF_any (base q p gb : Nat) (ov : Option Nat) (t : Tp) (l : List UInt8) (v : Value) (cq : List Value) (w : World) (h : TapeAt w base p ov t) (hq : Whole w q 84 (.pointer (some ⟨p, 0, none⟩) :: cq)) (hb : Whole w gb 55 [.pointer (some ⟨q, 0, none⟩)])
    (hv : ∀ w1, Mv (TapeD p ov) w w1 → RdB w1 w1.heap.size v l) (hl : l.length ≤ 140737488351232) :
    Calls Tryz.prog 60 #[v, .pointer (some ⟨gb, 0, none⟩)] w fun e w' => e = .returned (.int .i64 (t.repl l).1) ∧ ∃ ov', Went w w' base p ov (t.repl l).2 ov' := by
  have c0 := hq.cell 0 _ rfl
  have b0 := hb.cell 0 _ rfl
  have HA := Lib.hid (repl_any base p ov t v l w h hv hl)
  clear hq hb hv h
  go_enter Tryz.func60, Tryz.ntmps60
  go_wp2_with fail
  refine HA.out.mono ?_
  rintro e w1 ⟨rfl, ov1, hw⟩
  have HW := Lib.hid hw
  clear hw
  go_wp2_with fail
  go_ret
  exact ⟨rfl, ov1, HW.out⟩
end Go.Proofs.YtbifnogocmgddaaGreat
namespace Go.Proofs.YtbifnogocmgddaaGreat
open Go.RowKit

/-- one call of a book that writes by f: what it answers, and the book behind it; its records are those from before -/
def Bks.put (f : Tp → List UInt8 → Int × Tp) (b : Bks) (list : List (List UInt8)) : Int × Bks :=
  if b.dead = true then (11, b) else if ¬ fits list then (6, b) else
  ((f b.t (lay list)).1, { b with t := (f b.t (lay list)).2, dead := decide ((f b.t (lay list)).1 = 11) })
set_option maxRecDepth 100000 in
/-- the note of a book, written anew -/
theorem BkAt.note {w : World} {base q p : Nat} {G : Nat → Prop} {b : Bks} (h : BkAt w base q p G b) (d : Bool) : BkAt (w.setCell ⟨q, 2, none⟩ (.bool d)) base q p G { b with dead := d } := by
  obtain ⟨ov, A, c, n, rows, h1, h2, h3, h4, h5, h6, h7, h8, h9, h10, h11, h12, h13, h14, h15⟩ := h
  have hm : Mv (fun i => i = q) w (w.setCell ⟨q, 2, none⟩ (.bool d)) := (Mv.refl (fun i => i = q) w).setCell (p := ⟨q, 2, none⟩) (fun _ => rfl) _
  obtain ⟨k1, k2⟩ := h7.apart h1 (by decide) (by decide)
  exact ⟨ov, A, c, n, rows, h1.put 2 _, h2, OwnR.mv h3 hm (fun g hg e => OwnR.off h3 h1 (by decide) (e ▸ hg)), h4.mv hm (fun r hr g hg e => (h4 r hr).apart h1 (by decide) (e ▸ hg)), h5, h6, h7.mv hm (fun e => k1 e.symm) (fun g hg e => k2 (e ▸ hg)), h8, h9, h10, h11, h12, h13, by simpa using h14, fun i hi => by simpa using h15 i hi⟩
theorem BkAt.whole {w : World} {base q p : Nat} {G : Nat → Prop} {b : Bks} (h : BkAt w base q p G b) : ∃ v, Whole w q 84 [.pointer (some ⟨p, 0, none⟩), v, .bool b.dead] := by
  obtain ⟨ov, A, c, n, rows, h1, _⟩ := h
  exact ⟨_, h1⟩

set_option maxHeartbeats 8000000 in
set_option maxRecDepth 100000 in
theorem layR_any (base q p gb : Nat) (G : Nat → Prop) (b : Bks) (rows : List Row) (v : Value) (w : World) (h : BkAt w base q p G b) (hv : RdRs w w.heap.size G v rows) (hl : rows.length ≤ 1000) (hr : ∀ r ∈ rows, r.l.length ≤ 140737488351232) (hgb : Whole w gb 55 [.pointer (some ⟨q, 0, none⟩)]) (hgG : ¬ G gb) :
    Calls Tryz.prog 59 #[.pointer (some ⟨q, 0, none⟩), v, .func (.func 60) #[] #[.pointer (some ⟨gb, 0, none⟩)]] w fun e w' => e = .returned (.int .i64 (b.put Tp.repl (texts rows)).1) ∧ ∃ G', BkAt w' base q p G' (b.put Tp.repl (texts rows)).2 ∧ (∀ i, G' i → G i ∨ w.heap.size ≤ i) ∧ Mv G w w' := by
  have hmf : ∀ (fn : Fn) (first cap : Array Value) (w : World), (Instr.makeFunc fn first cap).run Tryz.prog w = .ok (.func fn first cap) w := fun _ _ _ _ => rfl
  obtain ⟨R, hR⟩ : ∃ R, R = b.put Tp.repl (texts rows) := ⟨_, rfl⟩
  rw [← hR]
  unfold Bks.put at hR
  have HR := Lib.hid hR; clear hR
  obtain ⟨vq, hq⟩ := h.whole
  have hqs := hq.size
  have hlow := h.low
  -- the two variables of the call's own
  obtain ⟨w2, hw2⟩ : ∃ w2, w2 = (w.alloc (.cells #[.pointer (some ⟨q, 0, none⟩)] 55)).alloc (.cells #[.int .i64 0] 24) := ⟨_, rfl⟩
  have hB2 : Below w.heap.size w w2 := by rw [hw2]; exact ((Below.refl _ w).alloc (Nat.le_refl _) _).alloc (by simp) _
  have hz2 : w2.heap.size = w.heap.size + 2 := by rw [hw2]; simp
  have hbx : Whole w2 w.heap.size 55 [.pointer (some ⟨q, 0, none⟩)] := by rw [hw2]; exact (Whole.fresh w 55 [_]).alloc _
  have hex : Whole w2 (w.heap.size + 1) 24 [.int .i64 0] := by
    have := Whole.fresh (w.alloc (.cells #[.pointer (some ⟨q, 0, none⟩)] 55)) 24 [.int .i64 0]
    rw [hw2]; simpa using this
  have hm2 : Mv (fun _ => False) w w2 := Mv.of_new hB2 _
  have H2 := Lib.hid (h.mv hm2 (fun _ _ h => h))
  have HV2 := Lib.hid (hv.mv hm2 (Nat.le_refl _) (fun _ _ h => h.elim))
  have HGB2 := Lib.hid (hgb.below hB2 hgb.size)
  have HBX := Lib.hid hbx
  have HEX := Lib.hid hex
  have HB2 := Lib.hid hB2
  have HQ2 := Lib.hid (hq.below hB2 hqs)
  have HGG := Lib.hid hgG
  have HLOW := Lib.hid hlow
  have HW2 := Lib.hid hw2
  have c2 := hq.cell 2 _ rfl
  have f2 := hq.frozen 2
  have hgbs := hgb.size
  have HRL := Lib.hid hr
  have HB := Lib.hid h
  clear hbx hex hB2 hm2 hw2 hq h hv hgb hgG hlow hr
  obtain ⟨l, dead, t⟩ := b
  simp only at c2 HR H2 HB
  cases dead with
  | true =>
    have hr := HR.out
    rw [if_pos rfl] at hr
    have HR2 := Lib.hid hr; clear hr
    go_enter_defers Tryz.func59, Tryz.ntmps59
    go_wp2_with fail
    obtain ⟨w3, hw3⟩ : ∃ w3, w3 = (w.alloc (.cells #[.pointer (some ⟨q, 0, none⟩)] 55)).alloc (.cells #[.int .i64 11] 24) := ⟨_, rfl⟩
    rw [← hw3]
    have hB3 : Below w.heap.size w w3 := by rw [hw3]; exact ((Below.refl _ w).alloc (Nat.le_refl _) _).alloc (by simp) _
    have hx3 : Whole w3 w.heap.size 55 [.pointer (some ⟨q, 0, none⟩)] := by rw [hw3]; exact (Whole.fresh w 55 [_]).alloc _
    have he3 : Whole w3 (w.heap.size + 1) 24 [.int .i64 11] := by
      have := Whole.fresh (w.alloc (.cells #[.pointer (some ⟨q, 0, none⟩)] 55)) 24 [.int .i64 11]
      rw [hw3]; simpa using this
    have hq3 : Whole w3 q 84 [.pointer (some ⟨p, 0, none⟩), vq, .bool true] := by
      have h1 := HQ2.out
      unfold Whole at h1 ⊢
      rw [hB3.block q hqs, ← HB2.out.block q hqs]
      exact h1
    have hk3 : BkAt w3 base q p G ⟨l, true, t⟩ := HB.out.mv (Mv.of_new hB3 (fun _ => False)) (fun _ _ h => h)
    refine leaves_cons (f := 80) (args := #[.pointer (some ⟨w.heap.size + 1, 0, none⟩), .pointer (some ⟨w.heap.size, 0, none⟩)]) (by simp) (by simp [go_sem]) ?_
    refine (lay1_any (w.heap.size + 1) w.heap.size q 11 _ .returning _ (he3.cell 0 _ rfl) (hx3.cell 0 _ rfl) (hq3.cell 2 _ rfl) (hq3.frozen 2)).mono ?_
    rintro e u' w'' ⟨rfl, rfl, rfl⟩
    have k0 := he3.cell 0 _ rfl
    refine ⟨.int .i64 11, by simp [results, Tryz.results59, go_sem, k0], ?_⟩
    rw [HR2.out]
    exact ⟨rfl, G, hk3.note _, fun i hi => .inl hi, (Mv.of_new hB3 _).setCell (fun _ => hk3.at.1) _⟩
  | false =>
    have hr := HR.out
    rw [if_neg (by simp)] at hr
    have HR1 := Lib.hid hr; clear hr
    have HWR := Lib.hid (bwrite_any rows G v w2 (HV2.out.mono (by omega) (fun _ _ h => h)) hl HRL.out)
    go_enter_defers Tryz.func59, Tryz.ntmps59
    go_wp2_with fail
    (try rw [← HW2.out])
    refine HWR.out.mono ?_
    rintro e w3 ⟨hb3, hcase⟩
    have hx3 : Whole w3 w.heap.size 55 [.pointer (some ⟨q, 0, none⟩)] := HBX.out.below hb3 HBX.out.size
    have he3 : Whole w3 (w.heap.size + 1) 24 [.int .i64 0] := HEX.out.below hb3 HEX.out.size
    have hq3 := HQ2.out.below hb3 (by omega)
    have hgb3 := HGB2.out.below hb3 (by omega)
    have hk3 := H2.out.mv (Mv.of_new hb3 (fun _ => False)) (fun _ _ h => h)
    have hB3 : Below w.heap.size w w3 := HB2.out.trans (hb3.mono (by omega))
    have HX3 := Lib.hid hx3
    have HE3 := Lib.hid he3
    have HQ3 := Lib.hid hq3
    have HGB3 := Lib.hid hgb3
    have HK3 := Lib.hid hk3
    have HB3 := Lib.hid hB3
    have HB23 := Lib.hid hb3
    have e0 := he3.cell 0 _ rfl
    have e0f := he3.frozen 0
    have hes := he3.size
    clear hx3 he3 hq3 hgb3 hk3 hB3 hb3 c2 f2 HWR
    have hne : w.heap.size + 1 ≠ q := by omega
    rcases hcase with ⟨hfit, A, c, n, rfl, hn, ho⟩ | ⟨hnf, rfl⟩
    · have hr := HR1.out
      rw [if_neg (by simpa using hfit)] at hr
      have HR2 := Lib.hid hr
      obtain ⟨ov, htp, hsub⟩ := HK3.out.tape
      have hmE : Mv (fun i => i = w.heap.size + 1) w3 (w3.setCell ⟨w.heap.size + 1, 0, none⟩ (.int .i64 0)) := (Mv.refl (fun i => i = w.heap.size + 1) w3).setCell (p := ⟨w.heap.size + 1, 0, none⟩) (fun _ => rfl) _
      have hgE : ∀ i, G i → i ≠ w.heap.size + 1 := fun i hi => by have := (HLOW.out.2 i hi).2; omega
      have hout : HoldB w3 w2.heap.size (.slice A n c) (lay (texts rows)) := by rw [hn] at ho ⊢; exact HoldB.ofOwn ho
      have hll : (lay (texts rows)).length ≤ 140737488351232 := by
        have := lay_bound _ hfit
        have h2 : (texts rows).length = rows.length := by simp [texts]
        omega
      have hcl := resetF_any base q p gb ov t (lay (texts rows)) (.slice A n c) [vq, .bool false] (w3.setCell ⟨w.heap.size + 1, 0, none⟩ (.int .i64 0)) (htp.mv hmE (fun h => by have := hgE p (hsub p (.inl rfl)); omega) (fun g hg h => by have := hgE g (hsub g (.inr hg.symm)); omega)) (hmE.whole HQ3.out (fun h => hne h.symm)) (hmE.whole HGB3.out (fun h => by omega))
        (fun wx hmx => by
          have hx := (hout.mv hmE (fun g hg h => by have := (hout.low hg).1; omega)).mv hmx (fun g hg hd => by have h1 := (hout.low hg).1; have h2 := (HLOW.out.2 g (hsub g hd)).2; omega)
          exact hx.rdB) hll
      have HCL := Lib.hid hcl
      have HTP := Lib.hid htp
      have HSUB := Lib.hid hsub
      have HME := Lib.hid hmE
      have HGE := Lib.hid hgE
      clear hr hn ho hfit hcl htp hsub hout hll hmE hgE
      go_wp2_with fail
      refine HCL.out.mono ?_
      rintro e w5 ⟨rfl, ov', hw⟩
      have hm5 : Mv (fun i => i = w.heap.size + 1 ∨ G i) w3 w5 := HME.out.mono (fun _ _ h => .inl h) |>.trans hw.moved (fun i _ hd => .inr (HSUB.out i hd))
      have hD : ∀ g, TapeD p ov g → g ≠ w.heap.size + 1 := fun g hg => HGE.out g (HSUB.out g hg)
      obtain ⟨G5, hk5, hG5⟩ := (HK3.out.mv HME.out (fun i hi => HGE.out i hi)).went (HTP.out.mv HME.out (fun h => hD p (.inl rfl) h) (fun g hg h => hD g (.inr hg.symm) h)) hw
      have he5 : Whole w5 (w.heap.size + 1) 24 [.int .i64 0] := hw.moved.whole (HE3.out.put 0 _) (fun h => hD _ h rfl)
      have hx5 : Whole w5 w.heap.size 55 [.pointer (some ⟨q, 0, none⟩)] := hm5.whole HX3.out (fun h => by rcases h with h | h; omega; have := (HLOW.out.2 _ h).2; omega)
      have z5 := he5.cell 0 _ rfl
      have z5f := he5.frozen 0
      have HK5 := Lib.hid hk5
      have HG5 := Lib.hid hG5
      have HE5 := Lib.hid he5
      have HX5 := Lib.hid hx5
      have HM5 := Lib.hid hm5
      have hs5 : w3.heap.size ≤ w5.heap.size := hm5.size
      obtain ⟨r, hr⟩ : ∃ r, r = (Tp.repl t (lay (texts rows))).1 := ⟨_, rfl⟩
      obtain ⟨t2, ht2⟩ : ∃ t2, t2 = (Tp.repl t (lay (texts rows))).2 := ⟨_, rfl⟩
      rw [← hr, ← ht2] at HR2
      rw [← ht2] at HK5
      rw [← hr]
      clear hw hm5 hD hk5 hG5 he5 hx5 hr ht2 HCL
      go_wp2_with fail
      obtain ⟨w9, hw9⟩ : ∃ w9, w9 = w5.setCell ⟨w.heap.size + 1, 0, none⟩ (.int .i64 r) := ⟨_, rfl⟩
      rw [← hw9]
      have hm9 : Mv (fun i => i = w.heap.size + 1) w5 w9 := by rw [hw9]; exact (Mv.refl (fun i => i = w.heap.size + 1) w5).setCell (p := ⟨w.heap.size + 1, 0, none⟩) (fun _ => rfl) _
      have hgE5 : ∀ i, G5 i → i ≠ w.heap.size + 1 := by
        intro i hi
        rcases HG5.out i hi with h | h
        · exact HGE.out i h
        · have hs : (w3.setCell ⟨w.heap.size + 1, 0, none⟩ (.int .i64 0)).heap.size = w3.heap.size := by simp
          omega
      have hk9 := HK5.out.mv hm9 (fun i hi => hgE5 i hi)
      obtain ⟨vq9, hq9⟩ := hk9.whole
      have he9 : Whole w9 (w.heap.size + 1) 24 [.int .i64 r] := by rw [hw9]; exact HE5.out.put 0 _
      have hx9 : Whole w9 w.heap.size 55 [.pointer (some ⟨q, 0, none⟩)] := hm9.whole HX5.out (fun h => by omega)
      refine leaves_cons (f := 80) (args := #[.pointer (some ⟨w.heap.size + 1, 0, none⟩), .pointer (some ⟨w.heap.size, 0, none⟩)]) (by simp) (by simp [go_sem]) ?_
      refine (lay1_any (w.heap.size + 1) w.heap.size q r _ .returning _ (he9.cell 0 _ rfl) (hx9.cell 0 _ rfl) (hq9.cell 2 _ rfl) (hq9.frozen 2)).mono ?_
      rintro e u' w'' ⟨rfl, rfl, rfl⟩
      have k0 := he9.cell 0 _ rfl
      refine ⟨.int .i64 r, by simp [results, Tryz.results59, go_sem, k0], ?_⟩
      rw [HR2.out]
      have hmw : Mv G w w9 := ((Mv.of_new HB3.out G).trans (D' := fun i => i = w.heap.size + 1 ∨ G i) HM5.out (fun i hi h => by rcases h with h | h; omega; exact h)).trans (D' := fun i => i = w.heap.size + 1) hm9 (fun i hi h => by omega)
      exact ⟨rfl, G5, hk9.note _, fun i hi => by
        rcases HG5.out i hi with h | h
        · exact .inl h
        · have hs : (w3.setCell ⟨w.heap.size + 1, 0, none⟩ (.int .i64 0)).heap.size = w3.heap.size := by simp
          have := HB3.out.size
          exact .inr (by omega), hmw.setCell (fun _ => HK3.out.at.1) _⟩
    · have hr := HR1.out
      rw [if_pos hnf] at hr
      have HR2 := Lib.hid hr
      clear hr hnf
      go_wp2_with fail
      obtain ⟨w9, hw9⟩ : ∃ w9, w9 = (w3.setCell ⟨w.heap.size + 1, 0, none⟩ (.int .i64 6)).setCell ⟨w.heap.size + 1, 0, none⟩ (.int .i64 6) := ⟨_, rfl⟩
      rw [← hw9]
      have hm9 : Mv (fun i => i = w.heap.size + 1) w3 w9 := by rw [hw9]; exact ((Mv.refl (fun i => i = w.heap.size + 1) w3).setCell (p := ⟨w.heap.size + 1, 0, none⟩) (fun _ => rfl) _).setCell (p := ⟨w.heap.size + 1, 0, none⟩) (fun _ => rfl) _
      have hk9 := HK3.out.mv hm9 (fun i hi h => by have := (HLOW.out.2 i hi).2; omega)
      obtain ⟨vq9, hq9⟩ := hk9.whole
      have he9 : Whole w9 (w.heap.size + 1) 24 [.int .i64 6] := by rw [hw9]; exact (HE3.out.put 0 _).put 0 _
      have hx9 : Whole w9 w.heap.size 55 [.pointer (some ⟨q, 0, none⟩)] := hm9.whole HX3.out (fun h => by omega)
      refine leaves_cons (f := 80) (args := #[.pointer (some ⟨w.heap.size + 1, 0, none⟩), .pointer (some ⟨w.heap.size, 0, none⟩)]) (by simp) (by simp [go_sem]) ?_
      refine (lay1_any (w.heap.size + 1) w.heap.size q 6 _ .returning _ (he9.cell 0 _ rfl) (hx9.cell 0 _ rfl) (hq9.cell 2 _ rfl) (hq9.frozen 2)).mono ?_
      rintro e u' w'' ⟨rfl, rfl, rfl⟩
      have k0 := he9.cell 0 _ rfl
      refine ⟨.int .i64 6, by simp [results, Tryz.results59, go_sem, k0], ?_⟩
      rw [HR2.out]
      have hmw : Mv G w w9 := (Mv.of_new HB3.out G).trans (D' := fun i => i = w.heap.size + 1) hm9 (fun i hi h => by omega)
      exact ⟨rfl, G, hk9.note _, fun i hi => .inl hi, hmw.setCell (fun _ => HK3.out.at.1) _⟩
end Go.Proofs.YtbifnogocmgddaaGreat

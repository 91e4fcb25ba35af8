/- The writer's numbers and texts; what PutNum, PutText and Nums answer. -/
import Derived.Test.YtaenlkopjmgniaaWr
import Derived.Test.YtaenlkopjmgniaaBits
namespace Go.Proofs.Ytaenlkopjmgniaa
open Go.RowKit

set_option maxRecDepth 100000 in
theorem or128 : ∀ a : Fin 256, bits .or .u8 (a.val : Int) 128 = ((128 + a.val % 128 : Nat) : Int) := by decide +kernel
set_option maxRecDepth 100000 in
theorem Wr.size {w : World} {base p : Nat} {l : List UInt8} {e : Int} (h : Wr w base p l e) : p < w.heap.size := by
  obtain ⟨A, c, hb, _⟩ := h
  exact hb.size

set_option maxRecDepth 100000 in
theorem Wr.still {w w2 : World} {base p : Nat} {l : List UInt8} {A : Option Addr} {c : Nat} {e : Int} (hb : Whole w p 85 [.slice A l.length c, .int .i64 e]) (ho : OwnB w base (.slice A l.length c) l) (o : Obj) (hg : (w.alloc o).grownBy w2 (Value.slice A l.length c).ownBlock) :
    Whole w2 p 85 [.slice A l.length c, .int .i64 e] := (hb.alloc o).grown hg ((ho.alloc o).apart (hb.alloc o) (by decide))
set_option maxRecDepth 100000 in
theorem Wr.stored {w w2 wb : World} {base p : Nat} {l l2 : List UInt8} {A A2 : Option Addr} {c c2 : Nat} {e : Int} (hb : Whole w p 85 [.slice A l.length c, .int .i64 e]) (ho : OwnB w base (.slice A l.length c) l) (o : Obj) (hg : (w.alloc o).grownBy w2 (Value.slice A l.length c).ownBlock)
    (h2 : OwnB w2 base (.slice A2 l2.length c2) l2) (hs : base ≤ w.heap.size) (hp : base ≤ p) (hw : Below base wb w) :
    Wr (w2.setCell ⟨p, 0, none⟩ (.slice A2 l2.length c2)) base p l2 e ∧ Below base wb (w2.setCell ⟨p, 0, none⟩ (.slice A2 l2.length c2)) := by
  have hb2 := Wr.still hb ho o hg
  have hz : base ≤ (w.alloc o).heap.size := by simp; omega
  exact ⟨⟨A2, c2, hb2.put 0 _, h2.put hb2 (by decide) 0 _, hp, by have := hg.size; simp at this ⊢; omega⟩, ((ho.alloc o).grown (hw.alloc hs o) hg (Nat.le_refl _) hz).setCell hp _⟩

set_option maxHeartbeats 4000000 in
set_option maxRecDepth 100000 in
theorem wnum_any (n : Nat) (hn : n < 9223372036854775808) (base p : Nat) (l : List UInt8) (e : Int) (w : World) (hw : Wr w base p l e) (hl : l.length ≤ 225179981367000) :
    Calls Try.prog 57 #[.pointer (some ⟨p, 0, none⟩), .int .i64 (n : Int)] w fun x w' => x = .returned (.pointer (some ⟨p, 0, none⟩)) ∧ Wr w' base p (l ++ enc n) e ∧ Below base w w' := by
  have h9 := enc_len9 hn
  obtain ⟨R, hR⟩ : ∃ R, R = l ++ enc n := ⟨_, rfl⟩
  rw [← hR]
  have hRl : R.length ≤ 225179981367009 := by rw [hR, List.length_append]; omega
  have HW := Lib.hid hw; clear hw
  have HR := Lib.hid hR; clear hR h9
  go_enter Try.func57, Try.ntmps57
  go_wp2_with fail
  go_loopw [1] (fun nv wr => ∃ (m : Nat) (l' : List UInt8), m ≤ n ∧ nv = .int .i64 m ∧ Wr wr base p l' e ∧ R = l' ++ enc m ∧ Below base w wr) (fun nv _ => (intOf nv).toNat)
  case atStart => exact ⟨n, l, Nat.le_refl _, rfl, HW.out, HR.out, Below.refl _ _⟩
  case round =>
    obtain ⟨m, l', hm, rfl, ⟨A, c, hb, ho, hp, hs⟩, he, hbw⟩ := hrel
    have hlen : l'.length + (enc m).length = R.length := by rw [he, List.length_append]
    have hep := enc_pos m
    have hl' : l'.length + 1 ≤ 225179981368000 := by omega
    have c0 := hb.cell 0 _ rfl
    have f0 := hb.frozen 0
    have hlt := hb.size
    have HE := Lib.hid he; clear he
    have HO := Lib.hid ho; clear ho
    have HB := Lib.hid hb; clear hb
    have HBW := Lib.hid hbw; clear hbw
    clear hlen hep
    by_cases hlt : m > 127
    · obtain ⟨bt, hbt⟩ : ∃ bt, bt = UInt8.ofNat (128 + m % 128) := ⟨_, rfl⟩
      have HBT := Lib.hid hbt; clear hbt
      have hm2 : (128 : Int) ≤ (m : Int) := by omega
      have h1 : bits .or .u8 ((m : Int) % 256) 128 = (bt.toNat : Int) := by
        have := or128 ⟨m % 256, by omega⟩
        rw [HBT.out, u8_ofNat (by omega)]
        simp only [Int.natCast_emod] at this
        rw [show 128 + m % 128 = 128 + m % 256 % 128 by omega]
        exact this
      go_wp2_with (at_builtin; go_must (refine wpList_addBG rfl _ _ rfl base (.slice A l'.length c) l' rfl ?x1 (wr.heap.size + 1) _ [bt] rfl (RdB.one wr _) hl' ?x2 ?x3))
      case x1 => exact HO.out.alloc _
      case x2 => simp; omega
      intro A2 c2 w2 ho2 hg2
      have hb2 := Wr.still HB.out HO.out _ hg2.out
      have k0 := hb2.cell 0 _ rfl
      have g0 := hb2.frozen 0
      go_wp2_with fail
      have hre : R = (l' ++ [bt]) ++ enc (m / 128) := by rw [HE.out, enc_big hlt, HBT.out]; simp
      have ho3 : OwnB w2 base (.slice A2 (l' ++ [bt]).length c2) (l' ++ [bt]) := by simpa using ho2.out
      obtain ⟨q1, q2⟩ := Wr.stored HB.out HO.out _ hg2.out ho3 hs hp HBW.out
      simp only [List.length_append, List.length_singleton] at q1 q2
      go_roundw
      case rel => exact ⟨m / 128, l' ++ [bt], by omega, by go_num, q1, hre, q2⟩
      case measure => simp [intOf]; omega
    · obtain ⟨bt, hbt⟩ : ∃ bt, bt = UInt8.ofNat m := ⟨_, rfl⟩
      have HBT := Lib.hid hbt
      have h1 : (m : Int) = (bt.toNat : Int) := by rw [hbt, u8_ofNat (by omega)]
      clear hbt
      have hm7 : (m : Int) ≤ 127 := by omega
      have H1 := Lib.hid h1; clear h1
      go_wp2_with (at_builtin; go_must (refine wpList_addBG rfl _ _ rfl base (.slice A l'.length c) l' rfl ?y1 (wr.heap.size + 1) _ [bt] rfl ?y5 hl' ?y2 ?y3))
      case y1 => exact HO.out.alloc _
      case y5 => rw [H1.out]; exact RdB.one wr _
      case y2 => simp; omega
      intro A2 c2 w2 ho2 hg2
      have hb2 := Wr.still HB.out HO.out _ hg2.out
      have k0 := hb2.cell 0 _ rfl
      have g0 := hb2.frozen 0
      go_wp2_with fail
      have hre : R = l' ++ [bt] := by rw [HE.out, enc_small (by omega), HBT.out]
      have ho3 : OwnB w2 base (.slice A2 (l' ++ [bt]).length c2) (l' ++ [bt]) := by simpa using ho2.out
      obtain ⟨q1, q2⟩ := Wr.stored HB.out HO.out _ hg2.out ho3 hs hp HBW.out
      simp only [List.length_append, List.length_singleton] at q1 q2
      go_ret
      exact ⟨rfl, by rw [hre]; exact q1, q2⟩

set_option maxHeartbeats 1000000 in
set_option maxRecDepth 100000 in
theorem wnum_neg (n : Int) (hn : n < 0) (base p : Nat) (l : List UInt8) (e : Int) (w : World) (hw : Wr w base p l e) :
    Calls Try.prog 57 #[.pointer (some ⟨p, 0, none⟩), .int .i64 n] w fun x w' => x = .returned (.pointer (some ⟨p, 0, none⟩)) ∧ Wr w' base p l (firstErr e 5) ∧ Below base w w' := by
  have HF := Lib.hid (wfail_any base p l e 5 w hw)
  clear hw
  go_enter Try.func57, Try.ntmps57
  go_wp2_with fail
  refine HF.out.mono ?_
  rintro x w1 ⟨rfl, hw, hb⟩
  have HW := Lib.hid hw; clear hw
  have HB := Lib.hid hb; clear hb
  go_wp2_with fail
  go_ret
  exact ⟨rfl, HW.out, HB.out⟩

set_option maxHeartbeats 2000000 in
set_option maxRecDepth 100000 in
theorem wtext_any (s : ByteArray) (hs : s.size ≤ 65536) (base p : Nat) (l : List UInt8) (e : Int) (w : World) (hw : Wr w base p l e) (hl : l.length ≤ 200000000000000) :
    Calls Try.prog 52 #[.pointer (some ⟨p, 0, none⟩), .string s] w fun x w' => x = .returned (.pointer (some ⟨p, 0, none⟩)) ∧ Wr w' base p (l ++ encT s.data.toList) e ∧ Below base w w' := by
  have hnum := wnum_any s.size (by omega) base p l e w hw (by omega)
  obtain ⟨R, hR⟩ : ∃ R, R = l ++ enc s.size := ⟨_, rfl⟩
  have hRl : R.length ≤ l.length + 9 := by rw [hR, List.length_append]; have := enc_len9 (n := s.size) (by omega); omega
  have hF : l ++ encT s.data.toList = R ++ s.data.toList := by rw [hR, encT, data_len, List.append_assoc]
  rw [← hR] at hnum
  rw [hF]
  have HP := Lib.hid hnum; clear hnum
  clear hw hR hF
  go_enter Try.func52, Try.ntmps52
  go_wp2_with fail
  refine HP.out.mono ?_
  rintro x w1 ⟨rfl, ⟨A, c, hb, ho, hp, hs1⟩, hbw⟩
  have c0 := hb.cell 0 _ rfl
  have HB := Lib.hid hb; clear hb
  have HO := Lib.hid ho; clear ho
  have HBW := Lib.hid hbw; clear hbw
  go_wp2_with (at_builtin; go_must (refine wpList_addStrG rfl _ _ rfl base (.slice A R.length c) R rfl HO.out s rfl (by omega) (by omega) hs1 ?_))
  intro A2 c2 w2 ho2 hg2
  have hb2 := HB.out.grown hg2.out (HO.out.apart HB.out (by decide))
  have k0 := hb2.cell 0 _ rfl
  have g0 := hb2.frozen 0
  go_wp2_with fail
  go_ret
  have e1 : (R ++ s.data.toList).length = R.length + s.size := by rw [List.length_append, data_len]
  have ho3 := ho2.out
  exact ⟨rfl, ⟨A2, c2, by rw [e1]; exact hb2.put 0 _, by rw [e1]; exact ho3.put hb2 (by decide) 0 _, hp, by have := hg2.out.size; simp; omega⟩, (HO.out.grown HBW.out hg2.out (Nat.le_refl _) hs1).setCell hp _⟩

set_option maxHeartbeats 1000000 in
set_option maxRecDepth 100000 in
theorem wtext_big (s : ByteArray) (hs : s.size > 65536) (hs2 : s.size ≤ 140737488355328) (base p : Nat) (l : List UInt8) (e : Int) (w : World) (hw : Wr w base p l e) :
    Calls Try.prog 52 #[.pointer (some ⟨p, 0, none⟩), .string s] w fun x w' => x = .returned (.pointer (some ⟨p, 0, none⟩)) ∧ Wr w' base p l (firstErr e 6) ∧ Below base w w' := by
  have HF := Lib.hid (wfail_any base p l e 6 w hw)
  clear hw
  have hb : (65536 : Int) < (s.size : Int) := by omega
  go_enter Try.func52, Try.ntmps52
  go_wp2_with fail
  refine HF.out.mono ?_
  rintro x w1 ⟨rfl, hw, hb⟩
  have HW := Lib.hid hw; clear hw
  have HB := Lib.hid hb; clear hb
  go_wp2_with fail
  go_ret
  exact ⟨rfl, HW.out, HB.out⟩



set_option maxRecDepth 100000 in
theorem putText_any (l : List UInt8) (v : Value) (s : ByteArray) (w : World) (hv : RdB w w.heap.size v l) (hl : l.length ≤ 140737488351232) (hs : s.size ≤ 140737488355328) :
    Calls Try.prog 45 #[v, .string s] w fun e w' => ∃ v', e = .returned (.tuple #[v', .int .i64 (putTAns l s).2]) ∧ RdB w' w'.heap.size v' (putTAns l s).1 ∧ Below w.heap.size w w' := by
  have hbe := behind_any l v w hv hl
  obtain ⟨R, hR⟩ : ∃ R, R = putTAns l s := ⟨_, rfl⟩
  rw [← hR]
  unfold putTAns at hR
  have HB := Lib.hid hbe; clear hbe
  have HR := Lib.hid hR; clear hR
  clear hv
  go_enter Try.func45, Try.ntmps45
  go_wp2_with fail
  refine HB.out.mono ?_
  rintro e w1 ⟨p, rfl, hw, hb⟩
  have HW := Lib.hid hw; clear hw
  have HB1 := Lib.hid hb; clear hb
  by_cases hbig : s.size > 65536
  · have hr := HR.out
    rw [if_pos hbig] at hr
    have HR2 := Lib.hid hr; clear hr
    go_wp2_with fail
    refine (wtext_big s hbig hs _ p l 0 w1 HW.out).mono ?_
    rintro e w2 ⟨rfl, hw2, hb2⟩
    have HD := Lib.hid (wdone_any _ p l 6 w2 hw2)
    have HB2 := Lib.hid hb2; clear hb2 hw2
    go_wp2_with fail
    refine HD.out.mono ?_
    rintro e w3 ⟨v', rfl, hr3, hb3⟩
    have HR3 := Lib.hid hr3; clear hr3
    have HB3 := Lib.hid hb3; clear hb3
    go_wp2_with fail
    go_ret2
    exact ⟨v', by rw [HR2.out]; rfl, by rw [HR2.out]; exact HR3.out, (HB1.out.trans HB2.out).trans HB3.out⟩
  · have hr := HR.out
    rw [if_neg hbig] at hr
    have HR2 := Lib.hid hr; clear hr
    go_wp2_with fail
    refine (wtext_any s (by omega) _ p l 0 w1 HW.out (by omega)).mono ?_
    rintro e w2 ⟨rfl, hw2, hb2⟩
    have HD := Lib.hid (wdone_any _ p (l ++ encT s.data.toList) 0 w2 hw2)
    have HB2 := Lib.hid hb2; clear hb2 hw2
    go_wp2_with fail
    refine HD.out.mono ?_
    rintro e w3 ⟨v', rfl, hr3, hb3⟩
    have HR3 := Lib.hid hr3; clear hr3
    have HB3 := Lib.hid hb3; clear hb3
    go_wp2_with fail
    go_ret2
    exact ⟨v', by rw [HR2.out]; rfl, by rw [HR2.out]; exact HR3.out, (HB1.out.trans HB2.out).trans HB3.out⟩


end Go.Proofs.Ytaenlkopjmgniaa

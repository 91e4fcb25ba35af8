/- The writer's numbers and texts; what PutNum, PutText and Nums answer. -/
import Derived.Test.YtiijcikdlemndaaWr
import Derived.Test.YtiijcikdlemndaaRNums
import Derived.Test.YtiijcikdlemndaaBits
namespace Go.Proofs.Ytiijcikdlemndaa
open Go.RowKit

set_option maxRecDepth 100000 in
theorem or128 : ∀ a : Fin 256, bits .or .u8 (a.val : Int) 128 = ((128 + a.val % 128 : Nat) : Int) := by decide +kernel
set_option maxRecDepth 100000 in
theorem Wr.size {w : World} {base p : Nat} {l : List UInt8} {e : Int} (h : Wr w base p l e) : p < w.heap.size := by
  obtain ⟨A, c, hb, _⟩ := h
  exact hb.size

set_option maxRecDepth 100000 in
theorem Wr.still {w w2 : World} {base p : Nat} {l : List UInt8} {A : Option Addr} {c : Nat} {e : Int} (hb : Whole w p 130 [.slice A l.length c, .int .i64 e]) (ho : OwnB w base (.slice A l.length c) l) (o : Obj) (hg : (w.alloc o).grownBy w2 (Value.slice A l.length c).ownBlock) :
    Whole w2 p 130 [.slice A l.length c, .int .i64 e] := (hb.alloc o).grown hg ((ho.alloc o).apart (hb.alloc o) (by decide))
set_option maxRecDepth 100000 in
theorem Wr.stored {w w2 wb : World} {base p : Nat} {l l2 : List UInt8} {A A2 : Option Addr} {c c2 : Nat} {e : Int} (hb : Whole w p 130 [.slice A l.length c, .int .i64 e]) (ho : OwnB w base (.slice A l.length c) l) (o : Obj) (hg : (w.alloc o).grownBy w2 (Value.slice A l.length c).ownBlock)
    (h2 : OwnB w2 base (.slice A2 l2.length c2) l2) (hs : base ≤ w.heap.size) (hp : base ≤ p) (hw : Below base wb w) :
    Wr (w2.setCell ⟨p, 0, none⟩ (.slice A2 l2.length c2)) base p l2 e ∧ Below base wb (w2.setCell ⟨p, 0, none⟩ (.slice A2 l2.length c2)) := by
  have hb2 := Wr.still hb ho o hg
  have hz : base ≤ (w.alloc o).heap.size := by simp; omega
  exact ⟨⟨A2, c2, hb2.put 0 _, h2.put hb2 (by decide) 0 _, hp, by have := hg.size; simp at this ⊢; omega⟩, ((ho.alloc o).grown (hw.alloc hs o) hg (Nat.le_refl _) hz).setCell hp _⟩

set_option maxHeartbeats 4000000 in
set_option maxRecDepth 100000 in
theorem wnum_any (n : Nat) (hn : n < 9223372036854775808) (base p : Nat) (l : List UInt8) (e : Int) (w : World) (hw : Wr w base p l e) (hl : l.length ≤ 225179981367000) :
    Calls Try.prog 81 #[.pointer (some ⟨p, 0, none⟩), .int .i64 (n : Int)] w fun x w' => x = .returned (.pointer (some ⟨p, 0, none⟩)) ∧ Wr w' base p (l ++ enc n) e ∧ Below base w w' := by
  have h9 := enc_len9 hn
  obtain ⟨R, hR⟩ : ∃ R, R = l ++ enc n := ⟨_, rfl⟩
  rw [← hR]
  have hRl : R.length ≤ 225179981367009 := by rw [hR, List.length_append]; omega
  have HW := Lib.hid hw; clear hw
  have HR := Lib.hid hR; clear hR h9
  go_enter Try.func81, Try.ntmps81
  go_wp2_with fail
  go_loopw [1] (fun nv wr => ∃ (m : Nat) (l' : List UInt8), m ≤ n ∧ nv = .int .i64 m ∧ Wr wr base p l' e ∧ R = l' ++ enc m ∧ Below base w wr) (fun nv _ => (intOf nv).toNat)
  case atStart => exact ⟨n, l, Nat.le_refl _, rfl, HW.out, HR.out, Below.refl _ _⟩
  case round =>
    obtain ⟨m, l', hm, rfl, ⟨A, c, hb, ho, hp, hs⟩, he, hbw⟩ := hrel
    have hlen : l'.length + (enc m).length = R.length := by rw [he, List.length_append]
    have hep := enc_pos m
    have hl' : l'.length + 1 ≤ 225179981368000 := by omega
    have c0 := hb.cell 0 _ rfl
    have f0 := hb.frozen 0
    have hlt := hb.size
    have HE := Lib.hid he; clear he
    have HO := Lib.hid ho; clear ho
    have HB := Lib.hid hb; clear hb
    have HBW := Lib.hid hbw; clear hbw
    clear hlen hep
    by_cases hlt : m > 127
    · obtain ⟨bt, hbt⟩ : ∃ bt, bt = UInt8.ofNat (128 + m % 128) := ⟨_, rfl⟩
      have HBT := Lib.hid hbt; clear hbt
      have hm2 : (128 : Int) ≤ (m : Int) := by omega
      have h1 : bits .or .u8 ((m : Int) % 256) 128 = (bt.toNat : Int) := by
        have := or128 ⟨m % 256, by omega⟩
        rw [HBT.out, u8_ofNat (by omega)]
        simp only [Int.natCast_emod] at this
        rw [show 128 + m % 128 = 128 + m % 256 % 128 by omega]
        exact this
      go_wp2_with (at_builtin; go_must (refine wpList_addBG rfl _ _ rfl base (.slice A l'.length c) l' rfl ?x1 (wr.heap.size + 1) _ [bt] rfl (RdB.one wr _) hl' ?x2 ?x3))
      case x1 => exact HO.out.alloc _
      case x2 => simp; omega
      intro A2 c2 w2 ho2 hg2
      have hb2 := Wr.still HB.out HO.out _ hg2.out
      have k0 := hb2.cell 0 _ rfl
      have g0 := hb2.frozen 0
      go_wp2_with fail
      have hre : R = (l' ++ [bt]) ++ enc (m / 128) := by rw [HE.out, enc_big hlt, HBT.out]; simp
      have ho3 : OwnB w2 base (.slice A2 (l' ++ [bt]).length c2) (l' ++ [bt]) := by simpa using ho2.out
      obtain ⟨q1, q2⟩ := Wr.stored HB.out HO.out _ hg2.out ho3 hs hp HBW.out
      simp only [List.length_append, List.length_singleton] at q1 q2
      go_roundw
      case rel => exact ⟨m / 128, l' ++ [bt], by omega, by go_num, q1, hre, q2⟩
      case measure => simp [intOf]; omega
    · obtain ⟨bt, hbt⟩ : ∃ bt, bt = UInt8.ofNat m := ⟨_, rfl⟩
      have HBT := Lib.hid hbt
      have h1 : (m : Int) = (bt.toNat : Int) := by rw [hbt, u8_ofNat (by omega)]
      clear hbt
      have hm7 : (m : Int) ≤ 127 := by omega
      have H1 := Lib.hid h1; clear h1
      go_wp2_with (at_builtin; go_must (refine wpList_addBG rfl _ _ rfl base (.slice A l'.length c) l' rfl ?y1 (wr.heap.size + 1) _ [bt] rfl ?y5 hl' ?y2 ?y3))
      case y1 => exact HO.out.alloc _
      case y5 => rw [H1.out]; exact RdB.one wr _
      case y2 => simp; omega
      intro A2 c2 w2 ho2 hg2
      have hb2 := Wr.still HB.out HO.out _ hg2.out
      have k0 := hb2.cell 0 _ rfl
      have g0 := hb2.frozen 0
      go_wp2_with fail
      have hre : R = l' ++ [bt] := by rw [HE.out, enc_small (by omega), HBT.out]
      have ho3 : OwnB w2 base (.slice A2 (l' ++ [bt]).length c2) (l' ++ [bt]) := by simpa using ho2.out
      obtain ⟨q1, q2⟩ := Wr.stored HB.out HO.out _ hg2.out ho3 hs hp HBW.out
      simp only [List.length_append, List.length_singleton] at q1 q2
      go_ret
      exact ⟨rfl, by rw [hre]; exact q1, q2⟩

set_option maxHeartbeats 1000000 in
set_option maxRecDepth 100000 in
theorem wnum_neg (n : Int) (hn : n < 0) (base p : Nat) (l : List UInt8) (e : Int) (w : World) (hw : Wr w base p l e) :
    Calls Try.prog 81 #[.pointer (some ⟨p, 0, none⟩), .int .i64 n] w fun x w' => x = .returned (.pointer (some ⟨p, 0, none⟩)) ∧ Wr w' base p l (firstErr e 5) ∧ Below base w w' := by
  have HF := Lib.hid (wfail_any base p l e 5 w hw)
  clear hw
  go_enter Try.func81, Try.ntmps81
  go_wp2_with fail
  refine HF.out.mono ?_
  rintro x w1 ⟨rfl, hw, hb⟩
  have HW := Lib.hid hw; clear hw
  have HB := Lib.hid hb; clear hb
  go_wp2_with fail
  go_ret
  exact ⟨rfl, HW.out, HB.out⟩

set_option maxHeartbeats 2000000 in
set_option maxRecDepth 100000 in
theorem wtext_any (s : ByteArray) (hs : s.size ≤ 65536) (base p : Nat) (l : List UInt8) (e : Int) (w : World) (hw : Wr w base p l e) (hl : l.length ≤ 200000000000000) :
    Calls Try.prog 83 #[.pointer (some ⟨p, 0, none⟩), .string s] w fun x w' => x = .returned (.pointer (some ⟨p, 0, none⟩)) ∧ Wr w' base p (l ++ encT s.data.toList) e ∧ Below base w w' := by
  have hnum := wnum_any s.size (by omega) base p l e w hw (by omega)
  obtain ⟨R, hR⟩ : ∃ R, R = l ++ enc s.size := ⟨_, rfl⟩
  have hRl : R.length ≤ l.length + 9 := by rw [hR, List.length_append]; have := enc_len9 (n := s.size) (by omega); omega
  have hF : l ++ encT s.data.toList = R ++ s.data.toList := by rw [hR, encT, data_len, List.append_assoc]
  rw [← hR] at hnum
  rw [hF]
  have HP := Lib.hid hnum; clear hnum
  clear hw hR hF
  go_enter Try.func83, Try.ntmps83
  go_wp2_with fail
  refine HP.out.mono ?_
  rintro x w1 ⟨rfl, ⟨A, c, hb, ho, hp, hs1⟩, hbw⟩
  have c0 := hb.cell 0 _ rfl
  have HB := Lib.hid hb; clear hb
  have HO := Lib.hid ho; clear ho
  have HBW := Lib.hid hbw; clear hbw
  go_wp2_with (at_builtin; go_must (refine wpList_addStrG rfl _ _ rfl base (.slice A R.length c) R rfl HO.out s rfl (by omega) (by omega) hs1 ?_))
  intro A2 c2 w2 ho2 hg2
  have hb2 := HB.out.grown hg2.out (HO.out.apart HB.out (by decide))
  have k0 := hb2.cell 0 _ rfl
  have g0 := hb2.frozen 0
  go_wp2_with fail
  go_ret
  have e1 : (R ++ s.data.toList).length = R.length + s.size := by rw [List.length_append, data_len]
  have ho3 := ho2.out
  exact ⟨rfl, ⟨A2, c2, by rw [e1]; exact hb2.put 0 _, by rw [e1]; exact ho3.put hb2 (by decide) 0 _, hp, by have := hg2.out.size; simp; omega⟩, (HO.out.grown HBW.out hg2.out (Nat.le_refl _) hs1).setCell hp _⟩

set_option maxHeartbeats 1000000 in
set_option maxRecDepth 100000 in
theorem wtext_big (s : ByteArray) (hs : s.size > 65536) (hs2 : s.size ≤ 140737488351232) (base p : Nat) (l : List UInt8) (e : Int) (w : World) (hw : Wr w base p l e) :
    Calls Try.prog 83 #[.pointer (some ⟨p, 0, none⟩), .string s] w fun x w' => x = .returned (.pointer (some ⟨p, 0, none⟩)) ∧ Wr w' base p l (firstErr e 6) ∧ Below base w w' := by
  have HF := Lib.hid (wfail_any base p l e 6 w hw)
  clear hw
  have hb : (65536 : Int) < (s.size : Int) := by omega
  go_enter Try.func83, Try.ntmps83
  go_wp2_with fail
  refine HF.out.mono ?_
  rintro x w1 ⟨rfl, hw, hb⟩
  have HW := Lib.hid hw; clear hw
  have HB := Lib.hid hb; clear hb
  go_wp2_with fail
  go_ret
  exact ⟨rfl, HW.out, HB.out⟩



set_option maxRecDepth 100000 in
theorem putText_any (l : List UInt8) (v : Value) (s : ByteArray) (w : World) (hv : RdB w w.heap.size v l) (hl : l.length ≤ 140737488351232) (hs : s.size ≤ 140737488351232) :
    Calls Try.prog 66 #[v, .string s] w fun e w' => ∃ v', e = .returned (.tuple #[v', .int .i64 (putTAns l s).2]) ∧ RdB w' w'.heap.size v' (putTAns l s).1 ∧ Below w.heap.size w w' := by
  have hbe := behind_any l v w hv hl
  obtain ⟨R, hR⟩ : ∃ R, R = putTAns l s := ⟨_, rfl⟩
  rw [← hR]
  unfold putTAns at hR
  have HB := Lib.hid hbe; clear hbe
  have HR := Lib.hid hR; clear hR
  clear hv
  go_enter Try.func66, Try.ntmps66
  go_wp2_with fail
  refine HB.out.mono ?_
  rintro e w1 ⟨p, rfl, hw, hb⟩
  have HW := Lib.hid hw; clear hw
  have HB1 := Lib.hid hb; clear hb
  by_cases hbig : s.size > 65536
  · have hr := HR.out
    rw [if_pos hbig] at hr
    have HR2 := Lib.hid hr; clear hr
    go_wp2_with fail
    refine (wtext_big s hbig hs _ p l 0 w1 HW.out).mono ?_
    rintro e w2 ⟨rfl, hw2, hb2⟩
    have HD := Lib.hid (wdone_any _ p l 6 w2 hw2)
    have HB2 := Lib.hid hb2; clear hb2 hw2
    go_wp2_with fail
    refine HD.out.mono ?_
    rintro e w3 ⟨v', rfl, hr3, hb3⟩
    have HR3 := Lib.hid hr3; clear hr3
    have HB3 := Lib.hid hb3; clear hb3
    go_wp2_with fail
    go_ret2
    exact ⟨v', by rw [HR2.out]; rfl, by rw [HR2.out]; exact HR3.out, (HB1.out.trans HB2.out).trans HB3.out⟩
  · have hr := HR.out
    rw [if_neg hbig] at hr
    have HR2 := Lib.hid hr; clear hr
    go_wp2_with fail
    refine (wtext_any s (by omega) _ p l 0 w1 HW.out (by omega)).mono ?_
    rintro e w2 ⟨rfl, hw2, hb2⟩
    have HD := Lib.hid (wdone_any _ p (l ++ encT s.data.toList) 0 w2 hw2)
    have HB2 := Lib.hid hb2; clear hb2 hw2
    go_wp2_with fail
    refine HD.out.mono ?_
    rintro e w3 ⟨v', rfl, hr3, hb3⟩
    have HR3 := Lib.hid hr3; clear hr3
    have HB3 := Lib.hid hb3; clear hb3
    go_wp2_with fail
    go_ret2
    exact ⟨v', by rw [HR2.out]; rfl, by rw [HR2.out]; exact HR3.out, (HB1.out.trans HB2.out).trans HB3.out⟩

set_option maxRecDepth 100000 in
theorem any_take_succ (l : List Int) (i : Nat) (h : i < l.length) : (l.take (i + 1)).any (· < 0) = ((l.take i).any (· < 0) || decide (l[i] < 0)) := by
  rw [List.take_add_one, List.getElem?_eq_getElem h, List.any_append]; simp

/-- the error behind the first numbers -/
def negErr (l : List Int) : Int := if l.any (· < 0) then 5 else 0

set_option maxHeartbeats 2000000 in
set_option maxRecDepth 100000 in
theorem nums_any (l : List Int) (hr : ∀ n ∈ l, n < 9223372036854775808) (v : Value) (w : World) (hv : RdI w w.heap.size v l) (hl : l.length < 4611686018427387904) :
    Calls Try.prog 65 #[v] w fun e w' => ∃ v', e = .returned (.tuple #[v', .int .i64 (numsAns l).2]) ∧ RdB w' w'.heap.size v' (numsAns l).1 ∧ Below w.heap.size w w' := by
  obtain ⟨A, c, rfl, hc, hi⟩ := hv.at
  by_cases hbig : l.length > 4096
  · rw [numsAns, if_pos hbig]
    have hb : (4096 : Int) < (l.length : Int) := by omega
    clear hi hv
    go_enter Try.func65, Try.ntmps65
    go_wp2_with fail
    go_ret2
    exact ⟨_, rfl, Rd.nil _ _, Below.refl _ _⟩
  · obtain ⟨R, hR⟩ : ∃ R, R = numsAns l := ⟨_, rfl⟩
    rw [← hR]
    rw [numsAns, if_neg hbig] at hR
    have hb : ¬ (4096 : Int) < (l.length : Int) := by omega
    have HR := Lib.hid hR; clear hR
    have HI := Lib.hid hi; clear hi
    have HV := Lib.hid hv; clear hv
    have HH := Lib.hid hr; clear hr
    obtain ⟨g, hg⟩ : ∃ g, g = w.heap.size := ⟨_, rfl⟩
    have HG := Lib.hid hg; clear hg
    have HBE := Lib.hid (behind_any [] (.slice none 0 0) w (Rd.nil _ _) (by simp))
    go_enter Try.func65, Try.ntmps65
    go_wp2_with fail
    refine HBE.out.mono ?_
    rintro e w1 ⟨p, rfl, hw, hb⟩
    rw [← HG.out] at hw hb
    have HW := Lib.hid hw; clear hw
    have HB1 := Lib.hid hb; clear hb
    go_wp2_with fail
    go_loopw [4, 13] (fun pv iv wr => ∃ (i : Nat) (l' : List UInt8) (e : Int), i ≤ l.length ∧ iv = .int .i64 i ∧ pv = .pointer (some ⟨p, 0, none⟩) ∧ Wr wr g p l' e ∧ Below g w wr ∧ e = negErr (l.take i) ∧ l'.length ≤ i * 9 ∧ (e = 0 → l' = encs (l.take i))) (fun _ iv _ => l.length - (intOf iv).toNat)
    case atStart => exact ⟨0, [], 0, Nat.zero_le _, rfl, rfl, HW.out, HB1.out, rfl, by simp, fun _ => rfl⟩
    case round =>
      obtain ⟨i, l', e, hil, rfl, rfl, hw, hbw, he, hll, hle⟩ := hrel
      have HW := Lib.hid hw; clear hw
      have HB := Lib.hid hbw; clear hbw
      have HE := Lib.hid he; clear he
      have HLE := Lib.hid hle; clear hle
      by_cases hlt : i < l.length
      · obtain ⟨b, o, rfl, hbB, h1⟩ := HI.out i hlt
        have hx := HB.out.cell (p := ⟨b, o + i, none⟩) (by rw [HG.out]; exact hbB)
        rw [h1] at hx
        have hmem := HH.out l[i] (List.getElem_mem hlt)
        have htk : l.take (i + 1) = l.take i ++ [l[i]] := by rw [List.take_add_one, List.getElem?_eq_getElem hlt]; rfl
        have hany := any_take_succ l i hlt
        generalize l[i] = z at h1 hx hmem htk hany
        clear h1
        by_cases hz : z < 0
        · have hn := wnum_neg z hz g p l' e wr HW.out
          have he2 : firstErr e 5 = negErr (l.take (i + 1)) := by
            rw [HE.out]; unfold firstErr negErr; rw [hany]
            by_cases h : (l.take i).any (· < 0) = true <;> simp [h, hz]
          have hne : firstErr e 5 ≠ 0 := by rw [he2]; unfold negErr; rw [hany]; simp [hz]
          have HN := Lib.hid hn
          have HE2 := Lib.hid he2
          clear hn he2 hany htk hmem
          go_wp2_with fail
          refine HN.out.mono ?_
          rintro x w2 ⟨rfl, hw2, hb2⟩
          have HW2 := Lib.hid hw2
          have HB2 := Lib.hid (HB.out.trans hb2)
          clear hw2 hb2
          generalize firstErr e 5 = e2 at hne HE2 HW2
          have HNE := Lib.hid hne; clear hne
          go_wp2_with fail
          go_roundw
          case rel => exact ⟨i + 1, l', e2, by omega, by go_num, rfl, HW2.out, HB2.out, HE2.out, by omega, fun h => absurd h HNE.out⟩
          case measure => simp [intOf]; omega
        · obtain ⟨n, rfl⟩ : ∃ n : Nat, z = (n : Int) := ⟨z.toNat, by omega⟩
          have hn := wnum_any n (by omega) g p l' e wr HW.out (by omega)
          have he2 : e = negErr (l.take (i + 1)) := by
            rw [HE.out]; unfold negErr; rw [hany, decide_eq_false hz, Bool.or_false]
          have hle2 : (l' ++ enc n).length ≤ (i + 1) * 9 := by rw [List.length_append]; have := enc_len9 (n := n) (by omega); omega
          have hl2 : e = 0 → l' ++ enc n = encs (l.take (i + 1)) := fun h => by rw [htk, encs_append, HLE.out h]; simp [encs]
          have HN := Lib.hid hn
          have HE2 := Lib.hid he2
          have HL2 := Lib.hid hl2
          have HLE2 := Lib.hid hle2
          clear hn he2 hany htk hmem hl2 hle2 hz
          generalize l' ++ enc n = l2 at HN HL2 HLE2
          go_wp2_with fail
          refine HN.out.mono ?_
          rintro x w2 ⟨rfl, hw2, hb2⟩
          have HW2 := Lib.hid hw2
          have HB2 := Lib.hid (HB.out.trans hb2)
          clear hw2 hb2
          go_wp2_with fail
          go_roundw
          case rel => exact ⟨i + 1, l2, e, by omega, by go_num, rfl, HW2.out, HB2.out, HE2.out, HLE2.out, HL2.out⟩
          case measure => simp [intOf]; omega
      · obtain rfl : i = l.length := by omega
        have HD := Lib.hid (wdone_any _ p l' e wr HW.out)
        have hee := HE.out
        rw [List.take_length] at hee
        unfold negErr at hee
        have hr := HR.out
        have hle := HLE.out
        rw [List.take_length] at hle
        have key : R = (if e = 0 then l' else [], e) := by
          rw [hr]
          by_cases h : l.any (· < 0) = true
          · rw [if_pos h] at hee ⊢; rw [hee]; rfl
          · rw [if_neg h] at hee ⊢; rw [hee, if_pos rfl, hle hee]
        have HK := Lib.hid key
        clear key hr hle hee
        go_wp2_with fail
        refine HD.out.mono ?_
        rintro x w2 ⟨v', rfl, hr2, hb2⟩
        have HR2 := Lib.hid hr2
        have HB2 := Lib.hid (HB.out.trans hb2)
        clear hr2 hb2
        go_wp2_with fail
        go_ret2
        exact ⟨v', by rw [HK.out]; rfl, by rw [HK.out]; exact HR2.out, by have h := HB2.out; rw [HG.out] at h; exact h⟩
end Go.Proofs.Ytiijcikdlemndaa

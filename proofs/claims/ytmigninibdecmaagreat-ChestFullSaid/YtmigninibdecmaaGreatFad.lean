/- The writer's numbers and texts; what PutNum, PutText and Nums answer. A region whose operations may come in more than one order, walked along a tree of orders that is laid down beforehand. The frame layer's writer: what its calls leave. The frame layer's writer: spans. The frame layer's writer: changes. -/
import Derived.Test.YtmigninibdecmaaGreatFac
import Derived.Test.YtmigninibdecmaaGreatFab
import Derived.Test.YtmigninibdecmaaGreatFaa
namespace Go.Proofs.YtmigninibdecmaaGreat
open Go.RowKit

set_option maxRecDepth 100000 in
theorem or128 : ∀ a : Fin 256, bits .or .u8 (a.val : Int) 128 = ((128 + a.val % 128 : Nat) : Int) := by decide +kernel
set_option maxRecDepth 100000 in
theorem Wr.size {w : World} {base p : Nat} {l : List UInt8} {e : Int} (h : Wr w base p l e) : p < w.heap.size := by
  obtain ⟨A, c, hb, _⟩ := h
  exact hb.size

set_option maxRecDepth 100000 in
theorem Wr.still {w w2 : World} {base p : Nat} {l : List UInt8} {A : Option Addr} {c : Nat} {e : Int} (hb : Whole w p 171 [.slice A l.length c, .int .i64 e]) (ho : OwnB w base (.slice A l.length c) l) (o : Obj) (hg : (w.alloc o).grownBy w2 (Value.slice A l.length c).ownBlock) :
    Whole w2 p 171 [.slice A l.length c, .int .i64 e] := (hb.alloc o).grown hg ((ho.alloc o).apart (hb.alloc o) (by decide))
set_option maxRecDepth 100000 in
theorem Wr.stored {w w2 wb : World} {base p : Nat} {l l2 : List UInt8} {A A2 : Option Addr} {c c2 : Nat} {e : Int} (hb : Whole w p 171 [.slice A l.length c, .int .i64 e]) (ho : OwnB w base (.slice A l.length c) l) (o : Obj) (hg : (w.alloc o).grownBy w2 (Value.slice A l.length c).ownBlock)
    (h2 : OwnB w2 base (.slice A2 l2.length c2) l2) (hs : base ≤ w.heap.size) (hp : base ≤ p) (hw : Below base wb w) :
    Wr (w2.setCell ⟨p, 0, none⟩ (.slice A2 l2.length c2)) base p l2 e ∧ Below base wb (w2.setCell ⟨p, 0, none⟩ (.slice A2 l2.length c2)) := by
  have hb2 := Wr.still hb ho o hg
  have hz : base ≤ (w.alloc o).heap.size := by simp; omega
  exact ⟨⟨A2, c2, hb2.put 0 _, h2.put hb2 (by decide) 0 _, hp, by have := hg.size; simp at this ⊢; omega⟩, ((ho.alloc o).grown (hw.alloc hs o) hg (Nat.le_refl _) hz).setCell hp _⟩

set_option maxHeartbeats 4000000 in
set_option maxRecDepth 100000 in
theorem wnum_any (n : Nat) (hn : n < 9223372036854775808) (base p : Nat) (l : List UInt8) (e : Int) (w : World) (hw : Wr w base p l e) (hl : l.length ≤ 225179981367000) :
    Calls Tryz.prog 93 #[.pointer (some ⟨p, 0, none⟩), .int .i64 (n : Int)] w fun x w' => x = .returned (.pointer (some ⟨p, 0, none⟩)) ∧ Wr w' base p (l ++ enc n) e ∧ Below base w w' := by
  have h9 := enc_len9 hn
  obtain ⟨R, hR⟩ : ∃ R, R = l ++ enc n := ⟨_, rfl⟩
  rw [← hR]
  have hRl : R.length ≤ 225179981367009 := by rw [hR, List.length_append]; omega
  have HW := Lib.hid hw; clear hw
  have HR := Lib.hid hR; clear hR h9
  go_enter Tryz.func93, Tryz.ntmps93
  go_wp2_with fail
  go_loopw [1] (fun nv wr => ∃ (m : Nat) (l' : List UInt8), m ≤ n ∧ nv = .int .i64 m ∧ Wr wr base p l' e ∧ R = l' ++ enc m ∧ Below base w wr) (fun nv _ => (intOf nv).toNat)
  case atStart => exact ⟨n, l, Nat.le_refl _, rfl, HW.out, HR.out, Below.refl _ _⟩
  case round =>
    obtain ⟨m, l', hm, rfl, ⟨A, c, hb, ho, hp, hs⟩, he, hbw⟩ := hrel
    have hlen : l'.length + (enc m).length = R.length := by rw [he, List.length_append]
    have hep := enc_pos m
    have hl' : l'.length + 1 ≤ 225179981368000 := by omega
    have c0 := hb.cell 0 _ rfl
    have f0 := hb.frozen 0
    have hlt := hb.size
    have HE := Lib.hid he; clear he
    have HO := Lib.hid ho; clear ho
    have HB := Lib.hid hb; clear hb
    have HBW := Lib.hid hbw; clear hbw
    clear hlen hep
    by_cases hlt : m > 127
    · obtain ⟨bt, hbt⟩ : ∃ bt, bt = UInt8.ofNat (128 + m % 128) := ⟨_, rfl⟩
      have HBT := Lib.hid hbt; clear hbt
      have hm2 : (128 : Int) ≤ (m : Int) := by omega
      have h1 : bits .or .u8 ((m : Int) % 256) 128 = (bt.toNat : Int) := by
        have := or128 ⟨m % 256, by omega⟩
        rw [HBT.out, u8_ofNat (by omega)]
        simp only [Int.natCast_emod] at this
        rw [show 128 + m % 128 = 128 + m % 256 % 128 by omega]
        exact this
      go_wp2_with (at_builtin; go_must (refine wpList_addBG rfl _ _ rfl base (.slice A l'.length c) l' rfl ?x1 (wr.heap.size + 1) _ [bt] rfl (RdB.one wr _) hl' ?x2 ?x3))
      case x1 => exact HO.out.alloc _
      case x2 => simp; omega
      intro A2 c2 w2 ho2 hg2
      have hb2 := Wr.still HB.out HO.out _ hg2.out
      have k0 := hb2.cell 0 _ rfl
      have g0 := hb2.frozen 0
      go_wp2_with fail
      have hre : R = (l' ++ [bt]) ++ enc (m / 128) := by rw [HE.out, enc_big hlt, HBT.out]; simp
      have ho3 : OwnB w2 base (.slice A2 (l' ++ [bt]).length c2) (l' ++ [bt]) := by simpa using ho2.out
      obtain ⟨q1, q2⟩ := Wr.stored HB.out HO.out _ hg2.out ho3 hs hp HBW.out
      simp only [List.length_append, List.length_singleton] at q1 q2
      go_roundw
      case rel => exact ⟨m / 128, l' ++ [bt], by omega, by go_num, q1, hre, q2⟩
      case measure => simp [intOf]; omega
    · obtain ⟨bt, hbt⟩ : ∃ bt, bt = UInt8.ofNat m := ⟨_, rfl⟩
      have HBT := Lib.hid hbt
      have h1 : (m : Int) = (bt.toNat : Int) := by rw [hbt, u8_ofNat (by omega)]
      clear hbt
      have hm7 : (m : Int) ≤ 127 := by omega
      have H1 := Lib.hid h1; clear h1
      go_wp2_with (at_builtin; go_must (refine wpList_addBG rfl _ _ rfl base (.slice A l'.length c) l' rfl ?y1 (wr.heap.size + 1) _ [bt] rfl ?y5 hl' ?y2 ?y3))
      case y1 => exact HO.out.alloc _
      case y5 => rw [H1.out]; exact RdB.one wr _
      case y2 => simp; omega
      intro A2 c2 w2 ho2 hg2
      have hb2 := Wr.still HB.out HO.out _ hg2.out
      have k0 := hb2.cell 0 _ rfl
      have g0 := hb2.frozen 0
      go_wp2_with fail
      have hre : R = l' ++ [bt] := by rw [HE.out, enc_small (by omega), HBT.out]
      have ho3 : OwnB w2 base (.slice A2 (l' ++ [bt]).length c2) (l' ++ [bt]) := by simpa using ho2.out
      obtain ⟨q1, q2⟩ := Wr.stored HB.out HO.out _ hg2.out ho3 hs hp HBW.out
      simp only [List.length_append, List.length_singleton] at q1 q2
      go_ret
      exact ⟨rfl, by rw [hre]; exact q1, q2⟩

set_option maxHeartbeats 1000000 in
set_option maxRecDepth 100000 in
theorem wnum_neg (n : Int) (hn : n < 0) (base p : Nat) (l : List UInt8) (e : Int) (w : World) (hw : Wr w base p l e) :
    Calls Tryz.prog 93 #[.pointer (some ⟨p, 0, none⟩), .int .i64 n] w fun x w' => x = .returned (.pointer (some ⟨p, 0, none⟩)) ∧ Wr w' base p l (firstErr e 5) ∧ Below base w w' := by
  have HF := Lib.hid (wfail_any base p l e 5 w hw)
  clear hw
  go_enter Tryz.func93, Tryz.ntmps93
  go_wp2_with fail
  refine HF.out.mono ?_
  rintro x w1 ⟨rfl, hw, hb⟩
  have HW := Lib.hid hw; clear hw
  have HB := Lib.hid hb; clear hb
  go_wp2_with fail
  go_ret
  exact ⟨rfl, HW.out, HB.out⟩

set_option maxHeartbeats 2000000 in
set_option maxRecDepth 100000 in
theorem wtext_any (s : ByteArray) (hs : s.size ≤ 65536) (base p : Nat) (l : List UInt8) (e : Int) (w : World) (hw : Wr w base p l e) (hl : l.length ≤ 200000000000000) :
    Calls Tryz.prog 95 #[.pointer (some ⟨p, 0, none⟩), .string s] w fun x w' => x = .returned (.pointer (some ⟨p, 0, none⟩)) ∧ Wr w' base p (l ++ encT s.data.toList) e ∧ Below base w w' := by
  have hnum := wnum_any s.size (by omega) base p l e w hw (by omega)
  obtain ⟨R, hR⟩ : ∃ R, R = l ++ enc s.size := ⟨_, rfl⟩
  have hRl : R.length ≤ l.length + 9 := by rw [hR, List.length_append]; have := enc_len9 (n := s.size) (by omega); omega
  have hF : l ++ encT s.data.toList = R ++ s.data.toList := by rw [hR, encT, data_len, List.append_assoc]
  rw [← hR] at hnum
  rw [hF]
  have HP := Lib.hid hnum; clear hnum
  clear hw hR hF
  go_enter Tryz.func95, Tryz.ntmps95
  go_wp2_with fail
  refine HP.out.mono ?_
  rintro x w1 ⟨rfl, ⟨A, c, hb, ho, hp, hs1⟩, hbw⟩
  have c0 := hb.cell 0 _ rfl
  have HB := Lib.hid hb; clear hb
  have HO := Lib.hid ho; clear ho
  have HBW := Lib.hid hbw; clear hbw
  go_wp2_with (at_builtin; go_must (refine wpList_addStrG rfl _ _ rfl base (.slice A R.length c) R rfl HO.out s rfl (by omega) (by omega) hs1 ?_))
  intro A2 c2 w2 ho2 hg2
  have hb2 := HB.out.grown hg2.out (HO.out.apart HB.out (by decide))
  have k0 := hb2.cell 0 _ rfl
  have g0 := hb2.frozen 0
  go_wp2_with fail
  go_ret
  have e1 : (R ++ s.data.toList).length = R.length + s.size := by rw [List.length_append, data_len]
  have ho3 := ho2.out
  exact ⟨rfl, ⟨A2, c2, by rw [e1]; exact hb2.put 0 _, by rw [e1]; exact ho3.put hb2 (by decide) 0 _, hp, by have := hg2.out.size; simp; omega⟩, (HO.out.grown HBW.out hg2.out (Nat.le_refl _) hs1).setCell hp _⟩

set_option maxHeartbeats 1000000 in
set_option maxRecDepth 100000 in
theorem wtext_big (s : ByteArray) (hs : s.size > 65536) (hs2 : s.size ≤ 140737488355328) (base p : Nat) (l : List UInt8) (e : Int) (w : World) (hw : Wr w base p l e) :
    Calls Tryz.prog 95 #[.pointer (some ⟨p, 0, none⟩), .string s] w fun x w' => x = .returned (.pointer (some ⟨p, 0, none⟩)) ∧ Wr w' base p l (firstErr e 6) ∧ Below base w w' := by
  have HF := Lib.hid (wfail_any base p l e 6 w hw)
  clear hw
  have hb : (65536 : Int) < (s.size : Int) := by omega
  go_enter Tryz.func95, Tryz.ntmps95
  go_wp2_with fail
  refine HF.out.mono ?_
  rintro x w1 ⟨rfl, hw, hb⟩
  have HW := Lib.hid hw; clear hw
  have HB := Lib.hid hb; clear hb
  go_wp2_with fail
  go_ret
  exact ⟨rfl, HW.out, HB.out⟩



set_option maxRecDepth 100000 in
theorem putText_any (l : List UInt8) (v : Value) (s : ByteArray) (w : World) (hv : RdB w w.heap.size v l) (hl : l.length ≤ 140737488351232) (hs : s.size ≤ 140737488355328) :
    Calls Tryz.prog 61 #[v, .string s] w fun e w' => ∃ v', e = .returned (.tuple #[v', .int .i64 (putTAns l s).2]) ∧ RdB w' w'.heap.size v' (putTAns l s).1 ∧ Below w.heap.size w w' := by
  have hbe := behind_any l v w hv hl
  obtain ⟨R, hR⟩ : ∃ R, R = putTAns l s := ⟨_, rfl⟩
  rw [← hR]
  unfold putTAns at hR
  have HB := Lib.hid hbe; clear hbe
  have HR := Lib.hid hR; clear hR
  clear hv
  go_enter Tryz.func61, Tryz.ntmps61
  go_wp2_with fail
  refine HB.out.mono ?_
  rintro e w1 ⟨p, rfl, hw, hb⟩
  have HW := Lib.hid hw; clear hw
  have HB1 := Lib.hid hb; clear hb
  by_cases hbig : s.size > 65536
  · have hr := HR.out
    rw [if_pos hbig] at hr
    have HR2 := Lib.hid hr; clear hr
    go_wp2_with fail
    refine (wtext_big s hbig hs _ p l 0 w1 HW.out).mono ?_
    rintro e w2 ⟨rfl, hw2, hb2⟩
    have HD := Lib.hid (wdone_any _ p l 6 w2 hw2)
    have HB2 := Lib.hid hb2; clear hb2 hw2
    go_wp2_with fail
    refine HD.out.mono ?_
    rintro e w3 ⟨v', rfl, hr3, hb3⟩
    have HR3 := Lib.hid hr3; clear hr3
    have HB3 := Lib.hid hb3; clear hb3
    go_wp2_with fail
    go_ret2
    exact ⟨v', by rw [HR2.out]; rfl, by rw [HR2.out]; exact HR3.out, (HB1.out.trans HB2.out).trans HB3.out⟩
  · have hr := HR.out
    rw [if_neg hbig] at hr
    have HR2 := Lib.hid hr; clear hr
    go_wp2_with fail
    refine (wtext_any s (by omega) _ p l 0 w1 HW.out (by omega)).mono ?_
    rintro e w2 ⟨rfl, hw2, hb2⟩
    have HD := Lib.hid (wdone_any _ p (l ++ encT s.data.toList) 0 w2 hw2)
    have HB2 := Lib.hid hb2; clear hb2 hw2
    go_wp2_with fail
    refine HD.out.mono ?_
    rintro e w3 ⟨v', rfl, hr3, hb3⟩
    have HR3 := Lib.hid hr3; clear hr3
    have HB3 := Lib.hid hb3; clear hb3
    go_wp2_with fail
    go_ret2
    exact ⟨v', by rw [HR2.out]; rfl, by rw [HR2.out]; exact HR3.out, (HB1.out.trans HB2.out).trans HB3.out⟩

set_option maxRecDepth 100000 in
theorem any_take_succ (l : List Int) (i : Nat) (h : i < l.length) : (l.take (i + 1)).any (· < 0) = ((l.take i).any (· < 0) || decide (l[i] < 0)) := by
  rw [List.take_add_one, List.getElem?_eq_getElem h, List.any_append]; simp

/-- the error behind the first numbers -/
def negErr (l : List Int) : Int := if l.any (· < 0) then 5 else 0

set_option maxHeartbeats 2000000 in
set_option maxRecDepth 100000 in
theorem numsO_any (l : List Int) (hr : ∀ n ∈ l, n < 9223372036854775808) (v : Value) (w : World) (hv : RdI w w.heap.size v l) (hl : l.length < 4611686018427387904) :
    Calls Tryz.prog 60 #[v] w fun e w' => ∃ v', e = .returned (.tuple #[v', .int .i64 (numsAns l).2]) ∧ OwnB w' w.heap.size v' (numsAns l).1 ∧ Below w.heap.size w w' := by
  obtain ⟨A, c, rfl, hc, hi⟩ := hv.at
  by_cases hbig : l.length > 4096
  · rw [numsAns, if_pos hbig]
    have hb : (4096 : Int) < (l.length : Int) := by omega
    clear hi hv
    go_enter Tryz.func60, Tryz.ntmps60
    go_wp2_with fail
    go_ret2
    exact ⟨_, rfl, Own.nil _ _, Below.refl _ _⟩
  · obtain ⟨R, hR⟩ : ∃ R, R = numsAns l := ⟨_, rfl⟩
    rw [← hR]
    rw [numsAns, if_neg hbig] at hR
    have hb : ¬ (4096 : Int) < (l.length : Int) := by omega
    have HR := Lib.hid hR; clear hR
    have HI := Lib.hid hi; clear hi
    have HV := Lib.hid hv; clear hv
    have HH := Lib.hid hr; clear hr
    obtain ⟨g, hg⟩ : ∃ g, g = w.heap.size := ⟨_, rfl⟩
    have HG := Lib.hid hg; clear hg
    have HBE := Lib.hid (behind_any [] (.slice none 0 0) w (Rd.nil _ _) (by simp))
    go_enter Tryz.func60, Tryz.ntmps60
    go_wp2_with fail
    refine HBE.out.mono ?_
    rintro e w1 ⟨p, rfl, hw, hb⟩
    rw [← HG.out] at hw hb
    have HW := Lib.hid hw; clear hw
    have HB1 := Lib.hid hb; clear hb
    go_wp2_with fail
    go_loopw [4, 13] (fun pv iv wr => ∃ (i : Nat) (l' : List UInt8) (e : Int), i ≤ l.length ∧ iv = .int .i64 i ∧ pv = .pointer (some ⟨p, 0, none⟩) ∧ Wr wr g p l' e ∧ Below g w wr ∧ e = negErr (l.take i) ∧ l'.length ≤ i * 9 ∧ (e = 0 → l' = encs (l.take i))) (fun _ iv _ => l.length - (intOf iv).toNat)
    case atStart => exact ⟨0, [], 0, Nat.zero_le _, rfl, rfl, HW.out, HB1.out, rfl, by simp, fun _ => rfl⟩
    case round =>
      obtain ⟨i, l', e, hil, rfl, rfl, hw, hbw, he, hll, hle⟩ := hrel
      have HW := Lib.hid hw; clear hw
      have HB := Lib.hid hbw; clear hbw
      have HE := Lib.hid he; clear he
      have HLE := Lib.hid hle; clear hle
      by_cases hlt : i < l.length
      · obtain ⟨b, o, rfl, hbB, h1⟩ := HI.out i hlt
        have hx := HB.out.cell (p := ⟨b, o + i, none⟩) (by rw [HG.out]; exact hbB)
        rw [h1] at hx
        have hmem := HH.out l[i] (List.getElem_mem hlt)
        have htk : l.take (i + 1) = l.take i ++ [l[i]] := by rw [List.take_add_one, List.getElem?_eq_getElem hlt]; rfl
        have hany := any_take_succ l i hlt
        generalize l[i] = z at h1 hx hmem htk hany
        clear h1
        by_cases hz : z < 0
        · have hn := wnum_neg z hz g p l' e wr HW.out
          have he2 : firstErr e 5 = negErr (l.take (i + 1)) := by
            rw [HE.out]; unfold firstErr negErr; rw [hany]
            by_cases h : (l.take i).any (· < 0) = true <;> simp [h, hz]
          have hne : firstErr e 5 ≠ 0 := by rw [he2]; unfold negErr; rw [hany]; simp [hz]
          have HN := Lib.hid hn
          have HE2 := Lib.hid he2
          clear hn he2 hany htk hmem
          go_wp2_with fail
          refine HN.out.mono ?_
          rintro x w2 ⟨rfl, hw2, hb2⟩
          have HW2 := Lib.hid hw2
          have HB2 := Lib.hid (HB.out.trans hb2)
          clear hw2 hb2
          generalize firstErr e 5 = e2 at hne HE2 HW2
          have HNE := Lib.hid hne; clear hne
          go_wp2_with fail
          go_roundw
          case rel => exact ⟨i + 1, l', e2, by omega, by go_num, rfl, HW2.out, HB2.out, HE2.out, by omega, fun h => absurd h HNE.out⟩
          case measure => simp [intOf]; omega
        · obtain ⟨n, rfl⟩ : ∃ n : Nat, z = (n : Int) := ⟨z.toNat, by omega⟩
          have hn := wnum_any n (by omega) g p l' e wr HW.out (by omega)
          have he2 : e = negErr (l.take (i + 1)) := by
            rw [HE.out]; unfold negErr; rw [hany, decide_eq_false hz, Bool.or_false]
          have hle2 : (l' ++ enc n).length ≤ (i + 1) * 9 := by rw [List.length_append]; have := enc_len9 (n := n) (by omega); omega
          have hl2 : e = 0 → l' ++ enc n = encs (l.take (i + 1)) := fun h => by rw [htk, encs_append, HLE.out h]; simp [encs]
          have HN := Lib.hid hn
          have HE2 := Lib.hid he2
          have HL2 := Lib.hid hl2
          have HLE2 := Lib.hid hle2
          clear hn he2 hany htk hmem hl2 hle2 hz
          generalize l' ++ enc n = l2 at HN HL2 HLE2
          go_wp2_with fail
          refine HN.out.mono ?_
          rintro x w2 ⟨rfl, hw2, hb2⟩
          have HW2 := Lib.hid hw2
          have HB2 := Lib.hid (HB.out.trans hb2)
          clear hw2 hb2
          go_wp2_with fail
          go_roundw
          case rel => exact ⟨i + 1, l2, e, by omega, by go_num, rfl, HW2.out, HB2.out, HE2.out, HLE2.out, HL2.out⟩
          case measure => simp [intOf]; omega
      · obtain rfl : i = l.length := by omega
        have HD := Lib.hid (wdoneO_any _ p l' e wr HW.out)
        have hee := HE.out
        rw [List.take_length] at hee
        unfold negErr at hee
        have hr := HR.out
        have hle := HLE.out
        rw [List.take_length] at hle
        have key : R = (if e = 0 then l' else [], e) := by
          rw [hr]
          by_cases h : l.any (· < 0) = true
          · rw [if_pos h] at hee ⊢; rw [hee]; rfl
          · rw [if_neg h] at hee ⊢; rw [hee, if_pos rfl, hle hee]
        have HK := Lib.hid key
        clear key hr hle hee
        go_wp2_with fail
        refine HD.out.mono ?_
        rintro x w2 ⟨v', rfl, hr2, hb2⟩
        have HR2 := Lib.hid hr2
        have HB2 := Lib.hid (HB.out.trans hb2)
        clear hr2 hb2
        go_wp2_with fail
        go_ret2
        exact ⟨v', by rw [HK.out]; rfl, by rw [HK.out, ← HG.out]; exact HR2.out, by have h := HB2.out; rw [HG.out] at h; exact h⟩
theorem nums_any (l : List Int) (hr : ∀ n ∈ l, n < 9223372036854775808) (v : Value) (w : World) (hv : RdI w w.heap.size v l) (hl : l.length < 4611686018427387904) :
    Calls Tryz.prog 60 #[v] w fun e w' => ∃ v', e = .returned (.tuple #[v', .int .i64 (numsAns l).2]) ∧ RdB w' w'.heap.size v' (numsAns l).1 ∧ Below w.heap.size w w' := by
  refine (numsO_any l hr v w hv hl).mono ?_
  rintro e w' ⟨v', h1, h2, h3⟩
  exact ⟨v', h1, h2.rdB, h3⟩
end Go.Proofs.YtmigninibdecmaaGreat
namespace Go.Proofs.YtmigninibdecmaaGreat
open Go.RowKit

/-- take i: number i yields the same whenever it comes up; step i: it comes up alone; fork: one of two comes up -/
inductive PT
  | done
  | take (i : Nat) (n : PT)
  | step (i : Nat) (n : PT)
  | fork (i : Nat) (n : PT) (j : Nat) (m : PT)
  | fork3 (i : Nat) (n : PT) (j : Nat) (m : PT) (k : Nat) (q : PT)
def PT.depth : PT → Nat
  | .done => 0
  | .take _ n => n.depth + 1
  | .step _ n => n.depth + 1
  | .fork _ n _ m => max n.depth m.depth + 1
  | .fork3 _ n _ m _ q => max n.depth (max m.depth q.depth) + 1
def ptOk (ops : Array Oper) : PT → Array Bool → Bool
  | .done, listed => (Region.ready .any ops listed).isEmpty
  | .take i n, listed => Region.free .any ops listed i && (Region.ready .any ops listed).contains i && ptOk ops n (listed.setIfInBounds i true)
  | .step i n, listed => Region.ready .any ops listed == [i] && ptOk ops n (listed.setIfInBounds i true)
  | .fork i n j m, listed => Region.ready .any ops listed == [i, j] && (ptOk ops n (listed.setIfInBounds i true) && ptOk ops m (listed.setIfInBounds j true))
  | .fork3 i n j m k q, listed => Region.ready .any ops listed == [i, j, k] && (ptOk ops n (listed.setIfInBounds i true) && (ptOk ops m (listed.setIfInBounds j true) && ptOk ops q (listed.setIfInBounds k true)))
section
variable {P : Program} {ops : Array Oper} {Q : Exit → Act → World → Prop} {S : World → Prop}
def PlanT (P : Program) (ops : Array Oper) (S : World → Prop) (Q : Exit → Act → World → Prop) : PT → Act → World → Prop
  | .done, a, w => Q .normal a w
  | .take i n, a, w => ∃ o v, ops[i]? = some o ∧ YieldsIf P ops S o v a ∧ PlanT P ops S Q n (a.put o.dst v) w
  | .step i n, a, w => wpOp P ops Q i (fun a' w' => S w' ∧ PlanT P ops S Q n a' w') a w
  | .fork i n j m, a, w => wpOp P ops Q i (fun a' w' => S w' ∧ PlanT P ops S Q n a' w') a w ∧ wpOp P ops Q j (fun a' w' => S w' ∧ PlanT P ops S Q m a' w') a w
  | .fork3 i n j m k q, a, w => wpOp P ops Q i (fun a' w' => S w' ∧ PlanT P ops S Q n a' w') a w ∧ wpOp P ops Q j (fun a' w' => S w' ∧ PlanT P ops S Q m a' w') a w ∧ wpOp P ops Q k (fun a' w' => S w' ∧ PlanT P ops S Q q a' w') a w

theorem PlanT.any (hs : Region.noSelect ops = true) (hQ : ∀ c a d v w, Q (.panic c) (Act.put a d v) w → Q (.panic c) a w) : ∀ (plan : PT) (fuel : Nat) (listed : Array Bool) (a : Act) (w : World),
    plan.depth ≤ fuel → ptOk ops plan listed = true → S w → PlanT P ops S Q plan a w → wpAnyH P .any ops Q S fuel listed a w
  | .done, fuel, listed, a, w, _, hp, _, h => wpAnyH_done (by simpa [ptOk] using hp) h fuel
  | .take i r, fuel + 1, listed, a, w, hf, hp, hS, h => by
    obtain ⟨o, v, ho, hy, hr⟩ := h
    simp only [ptOk, Bool.and_eq_true] at hp
    exact wpAnyH_take ho hs hp.1.1 hp.1.2 (fun c a w => hQ c a _ _ w) hy hS (PlanT.any hs hQ r fuel _ _ _ (by simpa [PT.depth] using hf) hp.2 hS hr)
  | .step i r, fuel + 1, listed, a, w, hf, hp, _, h => by
    simp only [ptOk, Bool.and_eq_true, beq_iff_eq] at hp
    refine wpAnyH_all hp.1 (by simp) fun j hj => ?_
    obtain rfl : j = i := by simpa using hj
    exact wpOp_mono (fun a' w' h' => ⟨h'.1, PlanT.any hs hQ r fuel _ _ _ (by simpa [PT.depth] using hf) hp.2 h'.1 h'.2⟩) h
  | .fork i r j m, fuel + 1, listed, a, w, hf, hp, _, h => by
    simp only [ptOk, Bool.and_eq_true, beq_iff_eq] at hp
    simp only [PT.depth] at hf
    refine wpAnyH_all hp.1 (by simp) fun k hk => ?_
    rcases (by simpa using hk : k = i ∨ k = j) with rfl | rfl
    · exact wpOp_mono (fun a' w' h' => ⟨h'.1, PlanT.any hs hQ r fuel _ _ _ (by omega) hp.2.1 h'.1 h'.2⟩) h.1
    · exact wpOp_mono (fun a' w' h' => ⟨h'.1, PlanT.any hs hQ m fuel _ _ _ (by omega) hp.2.2 h'.1 h'.2⟩) h.2
  | .fork3 i r j m l q, fuel + 1, listed, a, w, hf, hp, _, h => by
    simp only [ptOk, Bool.and_eq_true, beq_iff_eq] at hp
    simp only [PT.depth] at hf
    refine wpAnyH_all hp.1 (by simp) fun k hk => ?_
    rcases (by simpa using hk : k = i ∨ k = j ∨ k = l) with rfl | rfl | rfl
    · exact wpOp_mono (fun a' w' h' => ⟨h'.1, PlanT.any hs hQ r fuel _ _ _ (by omega) hp.2.1 h'.1 h'.2⟩) h.1
    · exact wpOp_mono (fun a' w' h' => ⟨h'.1, PlanT.any hs hQ m fuel _ _ _ (by omega) hp.2.2.1 h'.1 h'.2⟩) h.2.1
    · exact wpOp_mono (fun a' w' h' => ⟨h'.1, PlanT.any hs hQ q fuel _ _ _ (by omega) hp.2.2.2 h'.1 h'.2⟩) h.2.2
  | .take _ _, 0, _, _, _, hf, _, _, _ => by simp [PT.depth] at hf
  | .step _ _, 0, _, _, _, hf, _, _, _ => by simp [PT.depth] at hf
  | .fork _ _ _ _, 0, _, _, _, hf, _, _, _ => by simp [PT.depth] at hf
  | .fork3 _ _ _ _ _ _, 0, _, _, _, hf, _, _, _ => by simp [PT.depth] at hf

theorem wp_region_planT (S : World → Prop) (plan : PT) {id : Nat} {a : Act} {w : World} (hm : P.follows .mixedOrders = true) (hs : (Region.noSelect ops && ptOk ops plan (Array.replicate ops.size false) && decide (plan.depth ≤ ops.size)) = true)
    (hQ : ∀ c a d v w, Q (.panic c) (Act.put a d v) w → Q (.panic c) a w) (hS : S w.drew) (h : PlanT P ops S Q plan a w.drew) : (Code.region id ops true).wp P Q a w := by
  simp only [Bool.and_eq_true, decide_eq_true_eq] at hs
  exact wp_region_held hm (PlanT.any hs.1.1 hQ plan _ _ _ _ hs.2 hs.1.2 hS h)

theorem PlanT.takeI {i : Nat} {o : Oper} {v : Value} {r : PT} {a : Act} {w : World} (hi : ops.toList[i]? = some o) (hw : Region.wanted o (yielded ops a.tmps) = true)
    (hy : ∀ W, S W → (execOp a.eval o).run P W = .ok (.value v) W) (h : PlanT P ops S Q r (a.put o.dst v) w) : PlanT P ops S Q (.take i r) a w :=
  ⟨o, v, by simpa using hi, .inl ⟨hw, hy⟩, h⟩
theorem PlanT.skip {i : Nat} {o : Oper} {r : PT} {a : Act} {w : World} (hi : ops.toList[i]? = some o) (hw : Region.wanted o (yielded ops a.tmps) = false)
    (h : PlanT P ops S Q r (a.put o.dst undef) w) : PlanT P ops S Q (.take i r) a w :=
  ⟨o, undef, by simpa using hi, .inr ⟨hw, rfl⟩, h⟩
theorem wpOp_stepT {i : Nat} {o : Oper} {r : PT} {a : Act} {w : World} (hi : ops.toList[i]? = some o) (hw : Region.wanted o (yielded ops a.tmps) = true)
    (h : ∀ K : Act → World → Prop, Shut (∀ a w, S w → PlanT P ops S Q r a w → K a w) → Oper.wp P o a w K Q) : wpOp P ops Q i (fun a' w' => S w' ∧ PlanT P ops S Q r a' w') a w := by
  refine wpOp_step (o := o) (by simpa using hi) fun K' hK => ?_
  rw [if_pos hw]
  exact h K' fun a w h1 h2 => hK a w ⟨h1, h2⟩
end
end Go.Proofs.YtmigninibdecmaaGreat
namespace Go.Proofs.YtmigninibdecmaaGreat
open Go.RowKit

theorem Whole.rd {α : Type} {enc : α → List Value} {k : Nat} (hk : ∀ x, (enc x).length = k) {w : World} {g : Nat} {t : TypeId} {l : List α} (h : Whole w g t (flatG enc l)) : Rd enc k w (g + 1) (.slice (some ⟨g, 0, none⟩) l.length l.length) l := by
  refine ⟨_, l.length, rfl, Nat.le_refl _, fun i hi => ⟨g, 0, rfl, Nat.lt_succ_self _, fun j u hu => ?_⟩⟩
  have hj : j < k := by
    rcases Nat.lt_or_ge j k with h' | h'
    · exact h'
    · rw [List.getElem?_eq_none (by rw [hk]; exact h')] at hu; cases hu
  refine h.cell _ _ ?_
  rw [Nat.zero_add, flatG_get hk l i hi j hj]
  exact hu

/-- a writer of the frame layer at block p -/
def FW (w : World) (base p : Nat) (l : List UInt8) : Prop :=
  ∃ A c, Whole w p 146 [.slice A l.length c] ∧ OwnB w base (.slice A l.length c) l ∧ base ≤ p ∧ base ≤ w.heap.size
/-- blocks of other types than a writer's and its bytes' are kept -/
def Keeps (w w' : World) : Prop := w.heap.size ≤ w'.heap.size ∧ ∀ g t cs, Whole w g t cs → t ≠ 5 → t ≠ 146 → Whole w' g t cs
theorem Keeps.refl (w : World) : Keeps w w := ⟨Nat.le_refl _, fun _ _ _ h _ _ => h⟩
theorem Keeps.trans {a b c : World} (h : Keeps a b) (k : Keeps b c) : Keeps a c := ⟨Nat.le_trans h.1 k.1, fun g t cs h1 h2 h3 => k.2 g t cs (h.2 g t cs h1 h2 h3) h2 h3⟩
theorem Keeps.of {w w' : World} (h : Below w.heap.size w w') : Keeps w w' := ⟨h.size, fun _ _ _ h1 _ _ => h1.below h h1.size⟩
theorem Keeps.alloc (w : World) (o : Obj) : Keeps w (w.alloc o) := .of ((Below.refl _ w).alloc (Nat.le_refl _) o)
theorem FW.more {w w' : World} {base p B : Nat} {l : List UInt8} (h : FW w base p l) (hb : Below B w w') (hB : w.heap.size ≤ B) : FW w' base p l := by
  obtain ⟨A, c, hw, ho, hp, hs⟩ := h
  exact ⟨A, c, hw.below hb (Nat.lt_of_lt_of_le hw.size hB), ho.below hb hB, hp, Nat.le_trans hs hb.size⟩
theorem FW.size {w : World} {base p : Nat} {l : List UInt8} (h : FW w base p l) : base ≤ w.heap.size := by obtain ⟨_, _, _, _, _, h⟩ := h; exact h
/-- what an append of its bytes and a store leave -/
theorem FW.stored {w w2 : World} {base p : Nat} {l l2 : List UInt8} {A A2 : Option Addr} {c c2 : Nat} (hb : Whole w p 146 [.slice A l.length c]) (ho : OwnB w base (.slice A l.length c) l) (hp : base ≤ p) (hs : base ≤ w.heap.size)
    (ho2 : OwnB w2 base (.slice A2 l2.length c2) l2) (hg : w.grownBy w2 (Value.slice A l.length c).ownBlock) :
    FW (w2.setCell ⟨p, 0, none⟩ (.slice A2 l2.length c2)) base p l2 ∧ Below base w (w2.setCell ⟨p, 0, none⟩ (.slice A2 l2.length c2)) ∧ Keeps w (w2.setCell ⟨p, 0, none⟩ (.slice A2 l2.length c2)) := by
  have hb2 := hb.grown hg (ho.apart hb (by decide))
  refine ⟨⟨A2, c2, hb2.put 0 _, ho2.put hb2 (by decide) 0 _, hp, ?_⟩, (ho.grown (Below.refl _ _) hg (Nat.le_refl _) hs).setCell hp _, ?_, fun g t cs h1 h2 h3 => ?_⟩
  · have := hg.size; simp; omega
  · have := hg.size; simpa using this
  · have hne : some g ≠ (Value.slice A l.length c).ownBlock := ho.apart h1 (Ne.symm h2)
    exact (h1.grown hg hne).away (p := ⟨p, 0, none⟩) (h1.apart hb h3) _

set_option maxHeartbeats 1000000 in
set_option maxRecDepth 100000 in
theorem fnums_any (l : List Int) (hr : ∀ n ∈ l, 0 ≤ n ∧ n < 9223372036854775808) (hl : l.length ≤ 4096) (v : Value) (base p : Nat) (m : List UInt8) (w : World) (hw : FW w base p m) (hv : RdI w w.heap.size v l) (hm : m.length ≤ 200000000000000) :
    Calls Tryz.prog 96 #[.pointer (some ⟨p, 0, none⟩), v] w fun x w' => x = .returned (.pointer (some ⟨p, 0, none⟩)) ∧ FW w' base p (m ++ encs l) ∧ Below base w w' ∧ Keeps w w' := by
  obtain ⟨A, c, hb, ho, hp, hs⟩ := hw
  have hn := nums_any l (fun n h => (hr n h).2) v w hv (by omega)
  rw [show numsAns l = (encs l, 0) by
    rw [numsAns, if_neg (by omega), if_neg]
    simp only [List.any_eq_true, decide_eq_true_eq, not_exists, not_and]
    intro n h
    have := (hr n h).1
    omega] at hn
  have hlen := encs_len l (fun n h => (hr n h).2)
  obtain ⟨A3, c3, rfl, _, _⟩ := hv.at
  generalize encs l = R at hn hlen ⊢
  have HN := Lib.hid hn; clear hn hr hv
  have HB := Lib.hid hb; clear hb
  have HO := Lib.hid ho; clear ho
  go_enter Tryz.func96, Tryz.ntmps96
  go_wp2_with fail
  refine HN.out.mono ?_
  rintro e w1 ⟨v1, rfl, hr1, hb1⟩
  have hW1 := HB.out.below hb1 HB.out.size
  have hO1 := HO.out.below hb1 (Nat.le_refl _)
  obtain ⟨A1, c1, rfl, _, _⟩ := hr1.at
  have c0 := hW1.cell 0 _ rfl
  have hs1 : base ≤ w1.heap.size := Nat.le_trans hs hb1.size
  have HK1 := Lib.hid (Keeps.of hb1)
  have HB1 := Lib.hid (hb1.mono hs); clear hb1
  have HW1 := Lib.hid hW1; clear hW1
  have HO1 := Lib.hid hO1; clear hO1
  have HR1 := Lib.hid hr1; clear hr1
  go_wp2_with (at_builtin; go_must (refine wpList_addBG rfl _ _ rfl base (.slice A m.length c) m rfl HO1.out w1.heap.size _ R rfl HR1.out (by omega) hs1 ?_))
  intro A2 c2 w2 ho2 hg2
  have hb2 := HW1.out.grown hg2.out (HO1.out.apart HW1.out (by decide))
  have k0 := hb2.cell 0 _ rfl
  have g0 := hb2.frozen 0
  obtain ⟨h1, h2, h3⟩ := FW.stored (l2 := m ++ R) (A2 := A2) (c2 := c2) HW1.out HO1.out hp hs1 (by rw [List.length_append]; exact ho2.out) hg2.out
  have H1 := Lib.hid h1
  have H2 := Lib.hid h2
  have H3 := Lib.hid h3
  clear hb2 h1 h2 h3 ho2 hg2
  simp only [List.length_append] at H1 H2 H3
  go_wp2_with fail
  go_ret
  exact ⟨rfl, H1.out, HB1.out.trans H2.out, HK1.out.trans H3.out⟩

/-- texts as bytes -/
def txts (ks : List K) : List UInt8 := ks.flatMap fun k => encT k.data.toList
theorem txts_append (a b : List K) : txts (a ++ b) = txts a ++ txts b := by simp [txts]
theorem encT_len (k : K) (h : k.size ≤ 65536) : (encT k.data.toList).length ≤ k.size + 9 := by
  rw [encT, List.length_append, data_len]
  have := enc_len9 (n := k.size) (by omega)
  omega
theorem txts_len : ∀ (ks : List K), (∀ k ∈ ks, k.size ≤ 65536) → (txts ks).length ≤ ks.length * 65545
  | [], _ => by simp [txts]
  | k :: r, h => by
    have h1 := txts_len r fun x hx => h x (by simp [hx])
    have h2 := encT_len k (h k (by simp))
    have h3 := h k (by simp)
    rw [show txts (k :: r) = encT k.data.toList ++ txts r from rfl, List.length_append, List.length_cons]
    omega

set_option maxHeartbeats 2000000 in
set_option maxRecDepth 100000 in
theorem ftexts_any (ks : List K) (hs : ∀ k ∈ ks, k.size ≤ 65536) (n : Nat) (hn : ks.length = n) (hn2 : n ≤ 24) (g base p : Nat) (m : List UInt8) (w : World) (hw : FW w base p m) (hg : Whole w g 9 (ks.map .string)) (hm : m.length ≤ 190000000000000) :
    Calls Tryz.prog 118 #[.pointer (some ⟨p, 0, none⟩), .slice (some ⟨g, 0, none⟩) n n] w fun x w' => x = .returned (.pointer (some ⟨p, 0, none⟩)) ∧ FW w' base p (m ++ txts ks) ∧ Below base w w' ∧ Keeps w w' := by
  have HW := Lib.hid hw; clear hw
  have HG := Lib.hid hg; clear hg
  have HS := Lib.hid hs; clear hs
  go_enter Tryz.func118, Tryz.ntmps118
  go_wp2_with fail
  go_loopw [11] (fun iv wr => ∃ (i : Nat) (m' : List UInt8), i ≤ n ∧ iv = .int .i64 i ∧ FW wr base p m' ∧ m' = m ++ txts (ks.take i) ∧ m'.length ≤ m.length + i * 65545 ∧ Whole wr g 9 (ks.map .string) ∧ Below base w wr ∧ Keeps w wr) (fun iv _ => n - (intOf iv).toNat)
  case atStart => exact ⟨0, m, Nat.zero_le _, rfl, HW.out, by simp [txts], by omega, HG.out, Below.refl _ _, Keeps.refl _⟩
  case round =>
    obtain ⟨i, m', hi, rfl, ⟨A, c, hb, ho, hp, hs⟩, hme, hml, hwg, hbw, hk⟩ := hrel
    have HB := Lib.hid hb; clear hb
    have HO := Lib.hid ho; clear ho
    have HME := Lib.hid hme; clear hme
    have HWG := Lib.hid hwg; clear hwg
    have HBW := Lib.hid hbw; clear hbw
    have HK := Lib.hid hk; clear hk
    by_cases hlt : i < n
    · have hlt2 : i < ks.length := by omega
      have hks := HS.out ks[i] (List.getElem_mem hlt2)
      have hx := HWG.out.cell i (.string ks[i]) (by simp [hlt2])
      have htk : txts (ks.take (i + 1)) = txts (ks.take i) ++ encT ks[i].data.toList := by
        rw [List.take_add_one, List.getElem?_eq_getElem hlt2, txts_append]; simp [txts]
      generalize ks[i] = k at hks hx htk
      have hpt := fun W => putText_any [] (.slice none 0 0) k W (Rd.nil _ _) (by simp) (by omega)
      rw [show putTAns [] k = (encT k.data.toList, 0) by rw [putTAns, if_neg (by omega)]; rfl] at hpt
      have hel := encT_len k hks
      have hnew : m' ++ encT k.data.toList = m ++ txts (ks.take (i + 1)) := by rw [HME.out, htk, List.append_assoc]
      generalize encT k.data.toList = R at hpt hel hnew
      have HPT := Lib.hid hpt
      have HNEW := Lib.hid hnew
      clear hpt htk hnew
      go_wp2_with fail
      refine (HPT.out _).mono ?_
      rintro e w1 ⟨v1, rfl, hr1, hb1⟩
      have hW1 := HB.out.below hb1 HB.out.size
      have hO1 := HO.out.below hb1 (Nat.le_refl _)
      have hG1 := HWG.out.below hb1 HWG.out.size
      obtain ⟨A1, c1, rfl, _, _⟩ := hr1.at
      have c0 := hW1.cell 0 _ rfl
      have hs1 : base ≤ w1.heap.size := Nat.le_trans hs hb1.size
      have HK1 := Lib.hid (HK.out.trans (Keeps.of hb1))
      have HB1 := Lib.hid (HBW.out.trans (hb1.mono hs)); clear hb1
      have HW1 := Lib.hid hW1; clear hW1
      have HO1 := Lib.hid hO1; clear hO1
      have HR1 := Lib.hid hr1; clear hr1
      have HG1 := Lib.hid hG1; clear hG1 hx
      go_wp2_with (at_builtin; go_must (refine wpList_addBG rfl _ _ rfl base (.slice A m'.length c) m' rfl HO1.out w1.heap.size _ R rfl HR1.out (by omega) hs1 ?_))
      intro A2 c2 w2 ho2 hg2
      have hb2 := HW1.out.grown hg2.out (HO1.out.apart HW1.out (by decide))
      have k0 := hb2.cell 0 _ rfl
      have g0 := hb2.frozen 0
      obtain ⟨h1, h2, h3⟩ := FW.stored (l2 := m' ++ R) (A2 := A2) (c2 := c2) HW1.out HO1.out hp hs1 (by rw [List.length_append]; exact ho2.out) hg2.out
      have h4 := h3.2 _ _ _ HG1.out (by decide) (by decide)
      have H1 := Lib.hid h1
      have H2 := Lib.hid h2
      have H3 := Lib.hid h3
      have H4 := Lib.hid h4
      clear hb2 h1 h2 h3 h4 ho2 hg2
      simp only [List.length_append] at H1 H2 H3 H4
      go_wp2_with fail
      go_roundw
      case rel => exact ⟨i + 1, m' ++ R, by omega, by go_num, H1.out, HNEW.out, by rw [List.length_append]; omega, H4.out, HB1.out.trans H2.out, HK1.out.trans H3.out⟩
      case measure => simp [intOf]; omega
    · obtain rfl : i = n := by omega
      have hfw : FW wr base p m' := ⟨A, c, HB.out, HO.out, hp, hs⟩
      have hm2 := HME.out
      rw [List.take_of_length_le (by omega)] at hm2
      rw [hm2] at hfw
      have HF := Lib.hid hfw; clear hfw hm2
      go_wp2_with fail
      go_ret
      exact ⟨rfl, HF.out, HBW.out, HK.out⟩
end Go.Proofs.YtmigninibdecmaaGreat
namespace Go.Proofs.YtmigninibdecmaaGreat
open Go.RowKit
attribute [local go_sem] less_eq same_eq le_eq ge_eq gt_eq

theorem spanB_len (s : K × K) (h : s.1.size ≤ 65536 ∧ s.2.size ≤ 65536) : (spanB s).length ≤ 131090 := by
  have h1 := encT_len s.1 h.1
  have h2 := encT_len s.2 h.2
  rw [spanB, List.length_append]; omega
theorem txts_two (x y : K) : txts [x, y] = spanB (x, y) := by simp [txts, spanB]
theorem encs_one (n : Int) : encs [n] = enc n.toNat := by simp [encs]

end Go.Proofs.YtmigninibdecmaaGreat
namespace Go.Proofs.YtmigninibdecmaaGreat
open Go.RowKit
attribute [local go_sem] less_eq same_eq le_eq ge_eq gt_eq

/-- what the steps of a region of the writer's leave -/
def SW (w0 : World) (base : Nat) (W : World) : Prop := Below base w0 W ∧ Keeps w0 W
theorem SW.next {w0 W W' : World} {base : Nat} (h : SW w0 base W) (hb : Below W.heap.size W W') (hs : base ≤ W.heap.size) : SW w0 base W' := ⟨h.1.trans (hb.mono hs), h.2.trans (Keeps.of hb)⟩
theorem SW.keep {w0 W W' : World} {base : Nat} (h : SW w0 base W) (hb : Below base W W') (hk : Keeps W W') : SW w0 base W' := ⟨h.1.trans hb, h.2.trans hk⟩
theorem Below.drewW {w : World} {B : Nat} (n : Nat) : Below B w (w.drewN n) := ⟨rfl, rfl, rfl, Nat.le_refl _, fun _ _ => rfl⟩
theorem SW.drew (w : World) (base : Nat) : SW w base w.drew := ⟨(Below.refl _ _).drew, .of ((Below.refl _ _).drew)⟩
theorem FW.drew {w : World} {base p : Nat} {l : List UInt8} (h : FW w base p l) : FW w.drew base p l := h

theorem chgB_len (c : Chg) (h : 0 ≤ c.kind ∧ c.kind < 9223372036854775808 ∧ c.key.size ≤ 65536 ∧ c.val.size ≤ 65536) : (chgB c).length ≤ 131099 := by
  have h1 := encT_len c.key h.2.2.1
  have h2 := encT_len c.val h.2.2.2
  have h3 := enc_len9 (n := c.kind.toNat) (by omega)
  rw [chgB, List.length_append, List.length_append]; omega

set_option maxHeartbeats 4000000 in
set_option maxRecDepth 100000 in
theorem fchgs_any (l : List Chg) (hs : ∀ c ∈ l, 0 ≤ c.kind ∧ c.kind < 9223372036854775808 ∧ c.key.size ≤ 65536 ∧ c.val.size ≤ 65536) (hl : l.length ≤ 4096) (v : Value) (base p : Nat) (m : List UInt8) (w : World) (hw : FW w base p m) (hv : RdC w base v l) (hm : m.length ≤ 100000000000000) :
    Calls Tryz.prog 97 #[.pointer (some ⟨p, 0, none⟩), v] w fun x w' => x = .returned (.pointer (some ⟨p, 0, none⟩)) ∧ FW w' base p (m ++ listB chgB l) ∧ Below base w w' ∧ Keeps w w' := by
  obtain ⟨A, c, rfl, hc, hi⟩ := RdC.at hv
  have hn := fnums_any [(l.length : Int)] (by simp; omega) (by simp) (.slice (some ⟨w.heap.size, 0, none⟩) 1 1) base p m (w.alloc (.cells #[.int .i64 (l.length : Int)] 3)) (hw.more ((Below.refl _ _).alloc (Nat.le_refl _) _) (Nat.le_refl _)) (by rw [World.size_alloc]; exact RdI.one w _) (by omega)
  rw [encs_one, Int.toNat_natCast] at hn
  have hR : m ++ listB chgB l = (m ++ enc l.length) ++ l.flatMap chgB := by simp [listB]
  rw [hR]
  have hel := enc_len9 (n := l.length) (by omega)
  have hsz := hw.size
  have HB0 := Lib.hid (show Below base w (w.alloc (.cells #[.int .i64 (l.length : Int)] 3)) from (Below.refl _ _).alloc hsz _)
  have hml : (m ++ enc l.length).length ≤ m.length + 9 := by rw [List.length_append]; omega
  generalize m ++ enc l.length = m1 at hn hml ⊢
  have HN := Lib.hid hn; clear hn hw hR hel hv
  have HI := Lib.hid hi; clear hi
  have HS := Lib.hid hs; clear hs
  go_enter Tryz.func97, Tryz.ntmps97
  go_wp2_with fail
  refine HN.out.mono ?_
  rintro e w1 ⟨rfl, hf1, hb1, hk1⟩
  have HF1 := Lib.hid hf1; clear hf1
  have HB1 := Lib.hid (HB0.out.trans hb1); clear hb1
  have HK1 := Lib.hid ((Keeps.alloc _ _).trans hk1); clear hk1
  go_wp2_with fail
  go_loopw [14] (fun iv wr => ∃ (i : Nat) (m' : List UInt8), i ≤ l.length ∧ iv = .int .i64 i ∧ FW wr base p m' ∧ m' = m1 ++ (l.take i).flatMap chgB ∧ m'.length ≤ m1.length + i * 131099 ∧ Below base w wr ∧ Keeps w wr) (fun iv _ => l.length - (intOf iv).toNat)
  case atStart => exact ⟨0, m1, Nat.zero_le _, rfl, HF1.out, by simp, by omega, HB1.out, HK1.out⟩
  case round =>
    obtain ⟨i, m', hi, rfl, hf, hme, hmln, hbw, hk⟩ := hrel
    have hsz2 := hf.size
    have HF := Lib.hid hf; clear hf
    have HME := Lib.hid hme; clear hme
    have HBW := Lib.hid hbw; clear hbw
    have HK := Lib.hid hk; clear hk
    by_cases hlt : i < l.length
    · obtain ⟨b, o, rfl, hbB, k0, k1, k2⟩ := HI.out i hlt
      have hks := HS.out l[i] (List.getElem_mem hlt)
      rw [← HBW.out.cell (p := ⟨b, _, none⟩) hbB] at k0 k1 k2
      have hnew : m' ++ chgB l[i] = m1 ++ (l.take (i + 1)).flatMap chgB := by
        rw [HME.out, List.take_add_one, List.getElem?_eq_getElem hlt, List.flatMap_append, List.append_assoc]; simp
      have hlen := chgB_len l[i] hks
      generalize l[i] = z at k0 k1 k2 hks hnew hlen
      obtain ⟨kz, x, y⟩ := z
      simp only at k0 k1 k2 hks
      have hnum := fun (W : World) (v : Value) (h1 : FW W base p m') (h2 : RdI W W.heap.size v [kz]) => fnums_any [kz] (by simp; omega) (by simp) v base p m' W h1 h2 (by omega)
      rw [encs_one] at hnum
      have hR2 : chgB ⟨kz, x, y⟩ = enc kz.toNat ++ txts [x, y] := by simp [chgB, txts]
      rw [hR2, ← List.append_assoc] at hnew
      rw [hR2, List.length_append] at hlen
      have htxt := fun (W : World) (g : Nat) (h1 : FW W base p (m' ++ enc kz.toNat)) (h2 : Whole W g 9 [.string x, .string y]) => ftexts_any [x, y] (by simp; exact hks.2.2) 2 rfl (by omega) g base p (m' ++ enc kz.toNat) W h1 h2 (by rw [List.length_append]; omega)
      generalize txts [x, y] = R2 at hnew hlen htxt
      generalize enc kz.toNat = R1 at hnum hnew hlen htxt
      obtain ⟨w5, hw5⟩ : ∃ w5, w5 = wr.alloc (.cells #[.int .i64 kz, .string x, .string y] 43) := ⟨_, rfl⟩
      have hb5 : Below wr.heap.size wr w5 := by rw [hw5]; exact (Below.refl _ _).alloc (Nat.le_refl _) _
      have hC : ∀ W, SW w5 base W → Whole W wr.heap.size 43 [.int .i64 kz, .string x, .string y] := fun W hW => hW.2.2 _ _ _ (by rw [hw5]; exact Whole.fresh _ _ _) (by decide) (by decide)
      have HC := Lib.hid hC; clear hC
      have HF5 := Lib.hid (HF.out.more hb5 (Nat.le_refl _))
      have HB5 := Lib.hid (show Below base w w5 from HBW.out.trans (hb5.mono hsz2))
      have HK5 := Lib.hid (show Keeps w w5 from HK.out.trans (Keeps.of hb5))
      have HW5 := Lib.hid hw5
      have HNUM := Lib.hid hnum
      have HTXT := Lib.hid htxt
      have HNEW := Lib.hid hnew
      clear hnum htxt hnew hw5 hb5 hR2 hks HF HBW HK
      go_wp2_with fail
      rw [← HW5.out]
      clear k0 k1 k2
      refine wp_region_planT (SW w5 base) (.take 0 (.take 1 (.take 2 (.take 5 (.take 6 (.take 7 (.take 8 (.fork 3 (.fork 4 (.step 9 (.step 10 .done)) 9 (.step 4 (.step 10 .done))) 9 (.step 3 (.step 4 (.step 10 .done))))))))))) (by kernel_rfl) (by kernel_rfl) (fun _ _ d _ _ h => by cases d <;> exact h) (SW.drew _ _) ?_
      have hS6 : SW w5 base w5.drew := SW.drew _ _
      have hF6 := HF5.out.drew
      generalize w5.drew = w6 at hS6 hF6 ⊢
      have HS6 := Lib.hid hS6
      have HF6 := Lib.hid hF6
      clear hS6 hF6
      refine PlanT.takeI (v := ?_) rfl rfl ?_ ?_; rotate_left; (focus (intro W hW; have hC := HC.out W hW; have k0 := hC.cell 0 _ rfl; have k1 := hC.cell 1 _ rfl; have k2 := hC.cell 2 _ rfl; go_simp; (try with_reducible rfl); done)); (try simp only [Act.put, List.setIfInBounds_toArray, List.set_cons_zero, List.set_cons_succ])
      refine PlanT.takeI (v := ?_) rfl rfl ?_ ?_; rotate_left; (focus (intro W hW; have hC := HC.out W hW; have k0 := hC.cell 0 _ rfl; have k1 := hC.cell 1 _ rfl; have k2 := hC.cell 2 _ rfl; go_simp; (try with_reducible rfl); done)); (try simp only [Act.put, List.setIfInBounds_toArray, List.set_cons_zero, List.set_cons_succ])
      refine PlanT.takeI (v := ?_) rfl rfl ?_ ?_; rotate_left; (focus (intro W hW; have hC := HC.out W hW; have k0 := hC.cell 0 _ rfl; have k1 := hC.cell 1 _ rfl; have k2 := hC.cell 2 _ rfl; go_simp; (try with_reducible rfl); done)); (try simp only [Act.put, List.setIfInBounds_toArray, List.set_cons_zero, List.set_cons_succ])
      refine PlanT.takeI (v := ?_) rfl rfl ?_ ?_; rotate_left; (focus (intro W hW; have hC := HC.out W hW; have k0 := hC.cell 0 _ rfl; have k1 := hC.cell 1 _ rfl; have k2 := hC.cell 2 _ rfl; go_simp; (try with_reducible rfl); done)); (try simp only [Act.put, List.setIfInBounds_toArray, List.set_cons_zero, List.set_cons_succ])
      refine PlanT.takeI (v := ?_) rfl rfl ?_ ?_; rotate_left; (focus (intro W hW; have hC := HC.out W hW; have k0 := hC.cell 0 _ rfl; have k1 := hC.cell 1 _ rfl; have k2 := hC.cell 2 _ rfl; go_simp; (try with_reducible rfl); done)); (try simp only [Act.put, List.setIfInBounds_toArray, List.set_cons_zero, List.set_cons_succ])
      refine PlanT.takeI (v := ?_) rfl rfl ?_ ?_; rotate_left; (focus (intro W hW; have hC := HC.out W hW; have k0 := hC.cell 0 _ rfl; have k1 := hC.cell 1 _ rfl; have k2 := hC.cell 2 _ rfl; go_simp; (try with_reducible rfl); done)); (try simp only [Act.put, List.setIfInBounds_toArray, List.set_cons_zero, List.set_cons_succ])
      refine PlanT.takeI (v := ?_) rfl rfl ?_ ?_; rotate_left; (focus (intro W hW; have hC := HC.out W hW; have k0 := hC.cell 0 _ rfl; have k1 := hC.cell 1 _ rfl; have k2 := hC.cell 2 _ rfl; go_simp; (try with_reducible rfl); done)); (try simp only [Act.put, List.setIfInBounds_toArray, List.set_cons_zero, List.set_cons_succ])
      refine ⟨?_, ?_⟩
      · refine wpOp_stepT rfl rfl (fun Kk hK => ?_)
        go_simp
        obtain ⟨w10, hw10⟩ : ∃ W, W = w6.alloc (.cells #[.int .i64 kz] 3) := ⟨_, rfl⟩
        have hb10 : Below w6.heap.size w6 w10 := by rw [hw10]; exact (Below.refl _ _).alloc (Nat.le_refl _) _
        have hS10 : SW w5 base w10 := HS6.out.next hb10 HF6.out.size
        have hI10 : RdI w10 w10.heap.size (.slice (some ⟨w6.heap.size, 0, none⟩) 1 1) [kz] := by rw [hw10, World.size_alloc]; exact RdI.one _ _
        obtain ⟨g10, hg10⟩ : ∃ g10, g10 = w6.heap.size := ⟨_, rfl⟩
        rw [← hg10] at hI10 hb10 ⊢
        have HI10 := Lib.hid hI10; clear hI10
        have HF10 := Lib.hid (HF6.out.more hb10 (by rw [hg10]; exact Nat.le_refl _))
        have HS10 := Lib.hid hS10
        rw [← hw10]
        clear hb10 hw10 hg10
        refine hK.out _ _ hS10 ?_
        clear hK Kk hS10
        refine ⟨?_, ?_⟩
        · refine wpOp_stepT rfl rfl (fun Kk hK => ?_)
          go_simp
          go_at_call 96
          refine (HNUM.out _ _ HF10.out HI10.out).mono ?_
          rintro e w11 ⟨rfl, hf11, hb11, hk11⟩
          have hS11 : SW w5 base w11 := HS10.out.keep hb11 hk11
          have HF11 := Lib.hid hf11
          have HS11 := Lib.hid hS11
          refine hK.out _ _ hS11 ?_
          clear hK Kk hS11 hf11 hb11 hk11
          refine wpOp_stepT rfl rfl (fun Kk hK => ?_)
          go_simp
          obtain ⟨w12, hw12⟩ : ∃ W, W = w11.alloc (.cells #[.string x, .string y] 9) := ⟨_, rfl⟩
          have hb12 : Below w11.heap.size w11 w12 := by rw [hw12]; exact (Below.refl _ _).alloc (Nat.le_refl _) _
          have hS12 : SW w5 base w12 := HS11.out.next hb12 HF11.out.size
          have hT12 : Whole w12 w11.heap.size 9 [.string x, .string y] := by rw [hw12]; exact Whole.fresh _ _ _
          obtain ⟨g12, hg12⟩ : ∃ g12, g12 = w11.heap.size := ⟨_, rfl⟩
          rw [← hg12] at hT12 hb12 ⊢
          have HT12 := Lib.hid hT12; clear hT12
          have HF12 := Lib.hid (HF11.out.more hb12 (by rw [hg12]; exact Nat.le_refl _))
          have HS12 := Lib.hid hS12
          rw [← hw12]
          clear hb12 hw12 hg12
          refine hK.out _ _ hS12 ?_
          clear hK Kk hS12
          refine wpOp_stepT rfl rfl (fun Kk hK => ?_)
          go_simp
          go_at_call 118
          refine (HTXT.out _ _ HF12.out HT12.out).mono ?_
          rintro e w13 ⟨rfl, hf13, hb13, hk13⟩
          have hS13 : SW w5 base w13 := HS12.out.keep hb13 hk13
          have HF13 := Lib.hid hf13
          have HS13 := Lib.hid hS13
          refine hK.out _ _ hS13 ?_
          clear hK Kk hS13 hf13 hb13 hk13
          simp only [PlanT]
          go_wp2_with fail
          go_roundw
          case rel => exact ⟨i + 1, m' ++ R1 ++ R2, by omega, by go_num, HF13.out, HNEW.out, by rw [List.length_append, List.length_append]; omega, HB5.out.trans HS13.out.1, HK5.out.trans HS13.out.2⟩
          case measure => simp [intOf]; omega
        · refine wpOp_stepT rfl rfl (fun Kk hK => ?_)
          go_simp
          obtain ⟨w14, hw14⟩ : ∃ W, W = w10.alloc (.cells #[.string x, .string y] 9) := ⟨_, rfl⟩
          have hb14 : Below w10.heap.size w10 w14 := by rw [hw14]; exact (Below.refl _ _).alloc (Nat.le_refl _) _
          have hS14 : SW w5 base w14 := HS10.out.next hb14 HF10.out.size
          have hT14 : Whole w14 w10.heap.size 9 [.string x, .string y] := by rw [hw14]; exact Whole.fresh _ _ _
          obtain ⟨g14, hg14⟩ : ∃ g14, g14 = w10.heap.size := ⟨_, rfl⟩
          rw [← hg14] at hT14 hb14 ⊢
          have HT14 := Lib.hid hT14; clear hT14
          have HF14 := Lib.hid (HF10.out.more hb14 (by rw [hg14]; exact Nat.le_refl _))
          have HS14 := Lib.hid hS14
          rw [← hw14]
          have HI14 := Lib.hid (show RdI w14 w14.heap.size (.slice (some ⟨g10, 0, none⟩) 1 1) [kz] from HI10.out.next (by rw [← hg14]; exact hb14))
          clear hb14 hw14 hg14
          refine hK.out _ _ hS14 ?_
          clear hK Kk hS14
          refine wpOp_stepT rfl rfl (fun Kk hK => ?_)
          go_simp
          go_at_call 96
          refine (HNUM.out _ _ HF14.out HI14.out).mono ?_
          rintro e w15 ⟨rfl, hf15, hb15, hk15⟩
          have hS15 : SW w5 base w15 := HS14.out.keep hb15 hk15
          have HF15 := Lib.hid hf15
          have HS15 := Lib.hid hS15
          have HT15 := Lib.hid (hk15.2 _ _ _ HT14.out (by decide) (by decide))
          refine hK.out _ _ hS15 ?_
          clear hK Kk hS15 hf15 hb15 hk15
          refine wpOp_stepT rfl rfl (fun Kk hK => ?_)
          go_simp
          go_at_call 118
          refine (HTXT.out _ _ HF15.out HT15.out).mono ?_
          rintro e w16 ⟨rfl, hf16, hb16, hk16⟩
          have hS16 : SW w5 base w16 := HS15.out.keep hb16 hk16
          have HF16 := Lib.hid hf16
          have HS16 := Lib.hid hS16
          refine hK.out _ _ hS16 ?_
          clear hK Kk hS16 hf16 hb16 hk16
          simp only [PlanT]
          go_wp2_with fail
          go_roundw
          case rel => exact ⟨i + 1, m' ++ R1 ++ R2, by omega, by go_num, HF16.out, HNEW.out, by rw [List.length_append, List.length_append]; omega, HB5.out.trans HS16.out.1, HK5.out.trans HS16.out.2⟩
          case measure => simp [intOf]; omega
      · refine wpOp_stepT rfl rfl (fun Kk hK => ?_)
        go_simp
        obtain ⟨w17, hw17⟩ : ∃ W, W = w6.alloc (.cells #[.string x, .string y] 9) := ⟨_, rfl⟩
        have hb17 : Below w6.heap.size w6 w17 := by rw [hw17]; exact (Below.refl _ _).alloc (Nat.le_refl _) _
        have hS17 : SW w5 base w17 := HS6.out.next hb17 HF6.out.size
        have hT17 : Whole w17 w6.heap.size 9 [.string x, .string y] := by rw [hw17]; exact Whole.fresh _ _ _
        obtain ⟨g17, hg17⟩ : ∃ g17, g17 = w6.heap.size := ⟨_, rfl⟩
        rw [← hg17] at hT17 hb17 ⊢
        have HT17 := Lib.hid hT17; clear hT17
        have HF17 := Lib.hid (HF6.out.more hb17 (by rw [hg17]; exact Nat.le_refl _))
        have HS17 := Lib.hid hS17
        rw [← hw17]
        clear hb17 hw17 hg17
        refine hK.out _ _ hS17 ?_
        clear hK Kk hS17
        refine wpOp_stepT rfl rfl (fun Kk hK => ?_)
        go_simp
        obtain ⟨w18, hw18⟩ : ∃ W, W = w17.alloc (.cells #[.int .i64 kz] 3) := ⟨_, rfl⟩
        have hb18 : Below w17.heap.size w17 w18 := by rw [hw18]; exact (Below.refl _ _).alloc (Nat.le_refl _) _
        have hS18 : SW w5 base w18 := HS17.out.next hb18 HF17.out.size
        have hI18 : RdI w18 w18.heap.size (.slice (some ⟨w17.heap.size, 0, none⟩) 1 1) [kz] := by rw [hw18, World.size_alloc]; exact RdI.one _ _
        obtain ⟨g18, hg18⟩ : ∃ g18, g18 = w17.heap.size := ⟨_, rfl⟩
        rw [← hg18] at hI18 hb18 ⊢
        have HI18 := Lib.hid hI18; clear hI18
        have HF18 := Lib.hid (HF17.out.more hb18 (by rw [hg18]; exact Nat.le_refl _))
        have HS18 := Lib.hid hS18
        rw [← hw18]
        have HT18 := Lib.hid (HT17.out.below hb18 (by rw [hg18]; exact HT17.out.size))
        clear hb18 hw18 hg18
        refine hK.out _ _ hS18 ?_
        clear hK Kk hS18
        refine wpOp_stepT rfl rfl (fun Kk hK => ?_)
        go_simp
        go_at_call 96
        refine (HNUM.out _ _ HF18.out HI18.out).mono ?_
        rintro e w19 ⟨rfl, hf19, hb19, hk19⟩
        have hS19 : SW w5 base w19 := HS18.out.keep hb19 hk19
        have HF19 := Lib.hid hf19
        have HS19 := Lib.hid hS19
        have HT19 := Lib.hid (hk19.2 _ _ _ HT18.out (by decide) (by decide))
        refine hK.out _ _ hS19 ?_
        clear hK Kk hS19 hf19 hb19 hk19
        refine wpOp_stepT rfl rfl (fun Kk hK => ?_)
        go_simp
        go_at_call 118
        refine (HTXT.out _ _ HF19.out HT19.out).mono ?_
        rintro e w20 ⟨rfl, hf20, hb20, hk20⟩
        have hS20 : SW w5 base w20 := HS19.out.keep hb20 hk20
        have HF20 := Lib.hid hf20
        have HS20 := Lib.hid hS20
        refine hK.out _ _ hS20 ?_
        clear hK Kk hS20 hf20 hb20 hk20
        simp only [PlanT]
        go_wp2_with fail
        go_roundw
        case rel => exact ⟨i + 1, m' ++ R1 ++ R2, by omega, by go_num, HF20.out, HNEW.out, by rw [List.length_append, List.length_append]; omega, HB5.out.trans HS20.out.1, HK5.out.trans HS20.out.2⟩
        case measure => simp [intOf]; omega
    · obtain rfl : i = l.length := by omega
      have hf := HF.out
      rw [HME.out, List.take_length] at hf
      have HF3 := Lib.hid hf; clear hf
      go_wp2_with fail
      go_ret
      exact ⟨rfl, HF3.out, HBW.out, HK.out⟩
end Go.Proofs.YtmigninibdecmaaGreat

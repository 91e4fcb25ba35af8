/- ClockAgain's walk. -/
import Derived.Test.YtcigodaacdfagaaCAwk
import Derived.Test.YtcigodaacdfagaaCkA
namespace Go.Proofs.Ytcigodaacdfagaa
open Go.RowKit

/-- what was answered stays what it is while the clock goes on -/
theorem RdG.shift {w w' : World} {G G' E : Nat → Prop} {v : Value} {l : List Int} (h : RdG encI 1 w w.heap.size (fun i => G i ∨ E i) v l) (hm : Mv G w w') (hG : ∀ i, G' i → G i ∨ w.heap.size ≤ i) : RdG encI 1 w' w'.heap.size (fun i => G' i ∨ False) v l :=
  (h.mv hm (Nat.le_refl _) fun _ _ h => .inl h).mono hm.size fun b hb hg => by
    rcases hg with hg | hg
    · rcases hG b hg with k | k
      · exact .inl k
      · omega
    · exact hg.elim

set_option maxHeartbeats 8000000 in
set_option maxRecDepth 100000 in
theorem clockAgain_walk (a b bell : Nat) (stop : Bool) (w : World) (ha : a < 65536) (hb : b < 65536) (hl : bell < 256) :
    Calls Try.prog 6 #[.int .u16 (a : Int), .int .u16 (b : Int), .int .u8 (bell : Int), .bool stop] w fun e w' => e = .returned (.bool true) ∧ Below w.heap.size w w' := by
  obtain ⟨s1, s2, s3, -, -, -⟩ := ag_sets a b bell ha hb hl
  have HN := Lib.hid (cnew_any w)
  have HAG := Lib.hid (ag_it a b bell ha hb hl)
  have HST := Lib.hid (ag_stop a b bell ha hb hl)
  have HE := Lib.hid (show ag a b bell = (((Ck.new.set (bell : Int) (a : Int)).2.set (bell : Int) ((b : Int) + 1)).2.set ((bell : Int) + 1) (a : Int)).2 from rfl)
  have HS1 := Lib.hid s1
  have HS2 := Lib.hid s2
  have HS3 := Lib.hid s3
  have i1 : I64 (bell : Int) := by unfold I64; omega
  have i2 : I64 (a : Int) := by unfold I64; omega
  have i3 : I64 ((b : Int) + 1) := by unfold I64; omega
  have i4 : I64 ((bell : Int) + 1) := by unfold I64; omega
  have i5 : I64 (b : Int) := by unfold I64; omega
  have I1 := Lib.hid i1; have I2 := Lib.hid i2; have I3 := Lib.hid i3; have I4 := Lib.hid i4; have I5 := Lib.hid i5
  have w1 : IntKind.i64.wrap (bell : Int) = (bell : Int) := by rw [IntKind.wrap_i64]; omega
  have w2 : IntKind.i64.wrap (a : Int) = (a : Int) := by rw [IntKind.wrap_i64]; omega
  have w3 : IntKind.i64.wrap (b : Int) = (b : Int) := by rw [IntKind.wrap_i64]; omega
  have w4 : IntKind.i64.wrap ((b : Int) + 1) = (b : Int) + 1 := by rw [IntKind.wrap_i64]; omega
  have w5 : IntKind.i64.wrap ((bell : Int) + 1) = (bell : Int) + 1 := by rw [IntKind.wrap_i64]; omega
  clear s1 s2 s3 i1 i2 i3 i4 i5
  go_enter Try.func6, Try.ntmps6
  go_wp2_with fail
  refine HN.out.mono ?_
  rintro e x1 ⟨q, G, rfl, hk, hb1⟩
  have HA := Lib.hid (awake_any x1)
  have HK := Lib.hid hk
  have HB := Lib.hid hb1
  clear hk hb1 HN
  go_wp2_with fail
  refine HA.out.mono ?_
  rintro e x2 ⟨rfl, hb2⟩
  have hk2 := HK.out.mv (Mv.of_new hb2 (fun _ => False)) (fun _ _ h => h)
  have HK2 := Lib.hid hk2
  have HB2 := Lib.hid (HB.out.trans (hb2.mono HB.out.size))
  have hc := cset_any w.heap.size q G Ck.new (bell : Int) (a : Int) x2 hk2 I1.out I2.out
  rw [HS1.out] at hc
  have HC := Lib.hid hc
  clear hk2 hb2 hc HA HK HB
  go_wp2_with fail
  refine HC.out.mono ?_
  rintro e x3 ⟨rfl, G3, hk3, hG3, hm3⟩
  have HB3 := Lib.hid (HB2.out.trans (mv_below HK2.out hm3))
  have HK3 := Lib.hid hk3
  have hc := cset_any w.heap.size q G3 _ (bell : Int) ((b : Int) + 1) x3 hk3 I1.out I3.out
  rw [HS2.out] at hc
  have HC := Lib.hid hc
  clear hk3 hG3 hm3 hc HK2 HB2
  go_wp2_with fail
  refine HC.out.mono ?_
  rintro e x4 ⟨rfl, G4, hk4, hG4, hm4⟩
  have HB4 := Lib.hid (HB3.out.trans (mv_below HK3.out hm4))
  have HK4 := Lib.hid hk4
  have hc := cset_any w.heap.size q G4 _ ((bell : Int) + 1) (a : Int) x4 hk4 I4.out I2.out
  rw [HS3.out, ← HE.out] at hc
  have HC := Lib.hid hc
  clear hk4 hG4 hm4 hc HK3 HB3
  go_wp2_with fail
  refine HC.out.mono ?_
  rintro e x5 ⟨rfl, G5, hk5, hG5, hm5⟩
  have HB5 := Lib.hid (HB4.out.trans (mv_below HK4.out hm5))
  have HK5 := Lib.hid hk5
  clear hk5 hG5 hm5 HC HK4 HB4
  cases stop
  case' false =>
    obtain ⟨c8, hc8⟩ : ∃ c8, c8 = ag a b bell := ⟨_, rfl⟩
    rw [← hc8] at HK5 HAG
    clear HST HE hc8
    have HK8 := Lib.hid HK5.out
    have HB8 := Lib.hid HB5.out
    clear HK5 HB5
    generalize x5 = x8 at HK8 HB8 ⊢
    generalize G5 = G8 at HK8
  case' true =>
    have hc := cstop_any w.heap.size q G5 _ (bell : Int) x5 HK5.out I1.out
    rw [HST.out.1] at hc
    have HC := Lib.hid hc
    clear hc
    go_wp2_with fail
    refine HC.out.mono ?_
    rintro e x6 ⟨rfl, G6, hk6, hG6, hm6⟩
    have HB6 := Lib.hid (HB5.out.trans (mv_below HK5.out hm6))
    have HK6 := Lib.hid hk6
    have hc := cstop_any w.heap.size q G6 _ (bell : Int) x6 hk6 I1.out
    rw [HST.out.2.2.1, HST.out.2.2.2] at hc
    have HC := Lib.hid hc
    clear hk6 hG6 hm6 hc HK5 HB5
    go_wp2_with fail
    refine HC.out.mono ?_
    rintro e x7 ⟨rfl, G7, hk7, hG7, hm7⟩
    have HB8 := Lib.hid (HB6.out.trans (mv_below HK6.out hm7))
    obtain ⟨c8, hc8⟩ : ∃ c8, c8 = ((ag a b bell).stop (bell : Int)).2 := ⟨_, rfl⟩
    have hag := HST.out.2.1
    rw [← hc8] at hag hk7
    clear HAG
    have HAG := Lib.hid hag
    have HK8 := Lib.hid hk7
    clear HST HE hc8 hk7 hG7 hm7 HC HB6 HK6 hag
    generalize x7 = x8 at HK8 HB8 ⊢
    generalize G7 = G8 at HK8
  all_goals
    obtain ⟨p1, p2, p3, p4, p5⟩ := three_all HAG.out.ok HAG.out.now HAG.out.at_ b hb
    obtain ⟨X, hX⟩ : ∃ X, X = (c8.pass (b : Int)).1.1 := ⟨_, rfl⟩
    obtain ⟨d1, hd1⟩ : ∃ d, d = (c8.pass (b : Int)).2 := ⟨_, rfl⟩
    rw [← hX, ← hd1] at p4
    rw [← hX] at p5
    rw [← hd1] at p2 p3
    obtain ⟨Y, hY⟩ : ∃ Y, Y = (d1.pass 1).1.1 := ⟨_, rfl⟩
    obtain ⟨d2, hd2⟩ : ∃ d, d = (d1.pass 1).2 := ⟨_, rfl⟩
    rw [← hY, ← hd2] at p4
    rw [← hd2] at p3
    obtain ⟨Z, hZ⟩ : ∃ Z, Z = (d2.pass 70000).1.1 := ⟨_, rfl⟩
    rw [← hZ] at p4
    have hc := cpass_any w.heap.size q G8 _ (b : Int) x8 HK8.out I5.out
    rw [p1, ← hX, ← hd1] at hc
    have HC := Lib.hid hc
    have P2 := Lib.hid p2
    have P3 := Lib.hid p3
    have P4 := Lib.hid p4
    have P5 := Lib.hid p5
    have HY := Lib.hid hY
    have HZ := Lib.hid hZ
    have HD2 := Lib.hid hd2
    clear hc p1 p2 p3 p4 p5 hX hd1 hY hZ hd2
    go_wp2_with fail
    refine HC.out.mono ?_
    rintro e x9 ⟨A9, k9, rfl, G9, hk9, hG9, hm9, hr9⟩
    have HB9 := Lib.hid (HB8.out.trans (mv_below HK8.out hm9))
    have HK9 := Lib.hid hk9
    have HR9 := Lib.hid hr9
    have hc := cpass_any w.heap.size q G9 _ 1 x9 hk9 (by unfold I64; omega)
    rw [P2.out, ← HY.out, ← HD2.out] at hc
    have HC := Lib.hid hc
    clear hk9 hG9 hm9 hr9 hc HK8 HB8
    go_wp2_with fail
    refine HC.out.mono ?_
    rintro e xa ⟨A10, k10, rfl, Ga, hka, hGa, hma, hra⟩
    have HBa := Lib.hid (HB9.out.trans (mv_below HK9.out hma))
    have HKa := Lib.hid hka
    have HR9a := Lib.hid (HR9.out.shift hma hGa)
    have HRa := Lib.hid hra
    have hc := cpass_any w.heap.size q Ga _ 70000 xa hka (by unfold I64; omega)
    rw [P3.out, ← HZ.out] at hc
    have HC := Lib.hid hc
    clear hka hGa hma hra hc HK9 HB9 HR9
    go_wp2_with fail
    refine HC.out.mono ?_
    rintro e xb ⟨A11, k11, rfl, Gb, hkb, hGb, hmb, hrb⟩
    have HBb := Lib.hid (HBa.out.trans (mv_below HKa.out hmb))
    have HR1 := Lib.hid (HR9a.out.shift hmb hGb).rd
    have HR2 := Lib.hid (HRa.out.shift hmb hGb).rd
    have HR3 := Lib.hid hrb.rd
    clear hkb hGb hmb hrb HKa HBa HR9a HRa HC
    have hsum : X.length + Y.length + Z.length ≤ 2 := by
      have h := congrArg List.length P4.out
      simp only [List.length_append, List.length_map] at h
      have := HAG.out.len
      omega
    have HEM := Lib.hid (Own.empty (enc := encI) (k := 1) (e := 3) xb xb.heap.size (Nat.le_refl _))
    have hbn : Below xb.heap.size xb (xb.alloc (.cells #[] 3)) := (Below.refl _ xb).alloc (Nat.le_refl _) _
    have HBN := Lib.hid hbn
    have HZN := Lib.hid hbn.size
    have HX1 := Lib.hid (HR1.out.below hbn (Nat.le_refl _))
    have HSUM := Lib.hid hsum
    clear hbn hsum
    go_wp2_with (at_builtin; refine wpList_addI rfl _ _ rfl xb.heap.size (.slice (some ⟨xb.heap.size, 0, none⟩) 0 0) [] rfl HEM.out xb.heap.size (.slice A9 X.length k9) X rfl HX1.out (by have := HSUM.out; simp only [List.length_nil]; omega) HZN.out xb.heap.size xb HBN.out (Nat.le_refl _) ?_)
    intro A12 k12 xc hoc hbc hzc
    have HOC := hoc
    have HBC := hbc
    have HZC := hzc
    have HX2 := Lib.hid (HR2.out.below hbc.out (Nat.le_refl _))
    clear hoc hbc hzc
    go_wp2_with (at_builtin; refine wpList_addI rfl _ _ rfl xb.heap.size (.slice A12 X.length k12) X rfl HOC.out xb.heap.size (.slice A10 Y.length k10) Y rfl HX2.out (by have := HSUM.out; omega) HZC.out xb.heap.size xb HBC.out (Nat.le_refl _) ?_)
    intro A13 k13 xd hod hbd hzd
    have HBD := hbd
    have HZD := hzd
    have HX3 := Lib.hid (HR3.out.below hbd.out (Nat.le_refl _))
    obtain ⟨U, hU⟩ : ∃ U, U = X ++ Y := ⟨_, rfl⟩
    have hul : X.length + Y.length = U.length := by rw [hU]; simp
    have hod2 := hod.out
    simp only [← hU, hul] at hod2 ⊢
    have HOD := Lib.hid hod2
    have HU := Lib.hid hU
    have HUL := Lib.hid hul
    clear hod hbd hzd hU hul hod2
    go_wp2_with (at_builtin; refine wpList_addI rfl _ _ rfl xb.heap.size (.slice A13 U.length k13) U rfl HOD.out xb.heap.size (.slice A11 Z.length k11) Z rfl HX3.out (by have := HSUM.out; have := HUL.out; omega) HZD.out xb.heap.size xb HBD.out (Nat.le_refl _) ?_)
    intro A14 k14 xe hoe hbe hze
    obtain ⟨L, hL⟩ : ∃ L, L = c8.l.map (·.bell) := ⟨_, rfl⟩
    have hlist : U ++ Z = L := by rw [HU.out, hL]; exact P4.out
    have hul : U.length + Z.length = L.length := by rw [← hlist]; simp
    have hoe2 := hoe.out
    simp only [hlist, hul] at hoe2 ⊢
    obtain ⟨A15, k15, ee, hk15, hcells⟩ := hoe2.rdI.at
    injection ee with e1 _ e3
    subst e1 e3
    have HCELL := Lib.hid hcells
    have HXE := Lib.hid (HR1.out.below hbe.out (Nat.le_refl _))
    have HBE := Lib.hid (HBb.out.trans (hbe.out.mono HBb.out.size))
    have hit := HAG.out.it
    have hot := HAG.out.other
    rw [← hL] at hit hot
    have hLl : L.length ≤ 2 := by rw [hL, List.length_map]; exact HAG.out.len
    have HIT := Lib.hid hit
    have HOT := Lib.hid hot
    have HLL := Lib.hid hLl
    have HNX := Lib.hid (show ∀ i (h : i < X.length), ¬ X[i] = (bell : Int) from fun i h e => by
      obtain ⟨x, hx, hxb, hxa⟩ := P5.out X[i] (List.getElem_mem h)
      have := HAG.out.first x hx (hxb.trans e)
      omega)
    have HXL := Lib.hid (show X.length ≤ 2 by have := HSUM.out; omega)
    clear hoe hbe hze hlist hul hoe2 hcells hit hot hLl hL hk15
    go_wp2_with fail
    go_loopw [17, 18, 19] (fun nv mv iv wr => ∃ i : Nat, i ≤ L.length ∧ nv = .int .i64 (((L.take i).countP (fun n => n == (bell : Int)) : Nat) : Int) ∧ mv = .int .i64 (((L.take i).countP (fun n => !(n == (bell : Int))) : Nat) : Int) ∧ iv = .int .i64 (i : Int) ∧ wr = xe) (fun _ _ iv _ => L.length - (intOf iv).toNat)
    case atStart => exact ⟨0, Nat.zero_le _, rfl, rfl, rfl, rfl⟩
    case round =>
      obtain ⟨i, hi, rfl, rfl, rfl, rfl⟩ := hrel
      by_cases hil : i < L.length
      · have h0 : (0 : Int) ≤ (i : Int) := by omega
        have h1 : (i : Int) < (L.length : Int) := by omega
        have h2 : IntKind.i64.wrap ((i : Int) + 1) = ((i + 1 : Nat) : Int) := by have := HLL.out; rw [IntKind.wrap_i64]; omega
        obtain ⟨g, o, rfl, hg, q0⟩ := HCELL.out i hil
        have t1 : (L.take (i + 1)).countP (fun n => n == (bell : Int)) = (L.take i).countP (fun n => n == (bell : Int)) + (if L[i] = (bell : Int) then 1 else 0) := by
          rw [List.take_add_one, List.getElem?_eq_getElem hil, Option.toList_some, List.countP_append, List.countP_singleton]; simp
        have t2 : (L.take (i + 1)).countP (fun n => !(n == (bell : Int))) = (L.take i).countP (fun n => !(n == (bell : Int))) + (if L[i] = (bell : Int) then 0 else 1) := by
          rw [List.take_add_one, List.getElem?_eq_getElem hil, Option.toList_some, List.countP_append, List.countP_singleton]
          by_cases h : L[i] = (bell : Int) <;> simp [h]
        have b1 : (L.take i).countP (fun n => n == (bell : Int)) ≤ i := by have := List.countP_le_length (p := fun n => n == (bell : Int)) (l := L.take i); rw [List.length_take] at this; omega
        have b2 : (L.take i).countP (fun n => !(n == (bell : Int))) ≤ i := by have := List.countP_le_length (p := fun n => !(n == (bell : Int))) (l := L.take i); rw [List.length_take] at this; omega
        have T1 := Lib.hid t1
        have T2 := Lib.hid t2
        clear t1 t2
        generalize (L.take i).countP (fun n => n == (bell : Int)) = N at T1 b1 ⊢
        generalize (L.take i).countP (fun n => !(n == (bell : Int))) = M at T2 b2 ⊢
        generalize L[i] = y at q0 T1 T2
        have w7 : IntKind.i64.wrap ((N : Int) + 1) = ((N + 1 : Nat) : Int) := by have := HLL.out; rw [IntKind.wrap_i64]; omega
        have w8 : IntKind.i64.wrap ((M : Int) + 1) = ((M + 1 : Nat) : Int) := by have := HLL.out; rw [IntKind.wrap_i64]; omega
        clear b1 b2
        by_cases hy : y = (bell : Int)
        · have t1 := T1.out
          have t2 := T2.out
          rw [if_pos hy] at t1 t2
          have T3 := Lib.hid t1
          have T4 := Lib.hid t2
          subst hy
          clear t1 t2 T1 T2
          go_wp2_with fail
          go_roundw
          case rel => exact ⟨i + 1, by omega, by rw [T3.out]; first | rfl | simp, by rw [T4.out]; rfl, rfl, by first | trivial | rfl⟩
          case measure => simp [intOf]; omega
        · have t1 := T1.out
          have t2 := T2.out
          rw [if_neg hy] at t1 t2
          have T3 := Lib.hid t1
          have T4 := Lib.hid t2
          clear t1 t2 T1 T2
          go_wp2_with fail
          go_roundw
          case rel => exact ⟨i + 1, by omega, by rw [T3.out]; rfl, by rw [T4.out]; first | rfl | simp, rfl, by first | trivial | rfl⟩
          case measure => simp [intOf]; omega
      · obtain rfl : i = L.length := by omega
        rw [List.take_length, HIT.out, HOT.out]
        clear hil hi
        go_wp2_with fail
        go_loopw [20] (fun iv wx => ∃ j : Nat, j ≤ X.length ∧ iv = .int .i64 (j : Int) ∧ wx = wr) (fun iv _ => X.length - (intOf iv).toNat)
        case atStart => exact ⟨0, Nat.zero_le _, rfl, rfl⟩
        case round =>
          obtain ⟨j, hj, rfl, rfl⟩ := hrel
          by_cases hjl : j < X.length
          · have h0 : (0 : Int) ≤ (j : Int) := by omega
            have h1 : (j : Int) < (X.length : Int) := by omega
            have h2 : IntKind.i64.wrap ((j : Int) + 1) = ((j + 1 : Nat) : Int) := by have := HXL.out; rw [IntKind.wrap_i64]; omega
            obtain ⟨A16, k16, ee, hk16, hcx⟩ := RdI.at HXE.out
            injection ee with e1 _ e3
            subst e1 e3
            obtain ⟨g, o, rfl, hg, q0⟩ := hcx j hjl
            have hne := HNX.out j hjl
            clear hcx
            generalize X[j] = y at q0 hne
            go_wp2_with fail
            go_roundw
            case rel => exact ⟨j + 1, by omega, rfl, by first | trivial | rfl⟩
            case measure => simp [intOf]; omega
          · have h1 : ¬ (j : Int) < (X.length : Int) := by omega
            go_wp2_with fail
            go_ret
            exact ⟨rfl, HBE.out⟩
end Go.Proofs.Ytcigodaacdfagaa

/- BallotHolds' walk. -/
import Derived.Test.YtjmojlhebjbgaaaFak
import Derived.Test.YtjmojlhebjbgaaaFag
namespace Go.Proofs.Ytjmojlhebjbgaaa
open Go.RowKit
attribute [local go_sem] less_eq same_eq le_eq ge_eq gt_eq

set_option maxHeartbeats 4000000 in
set_option maxRecDepth 100000 in
theorem ballotHolds_walk (x : Vw) (b c : Bal) (s : Sta) (v u : Value) (w : World) (hv : RdI w w.heap.size v x.took.chests) (hu : RdI w w.heap.size u s.chests) (hl : x.took.chests.length ≤ 17592186043904) (hm : s.chests.length ≤ 17592186043904) :
    Calls Try.prog 7 #[vwv x v, blv b, blv c, sval s u] w fun e w' => e = .returned (.bool true) ∧ Below w.heap.size w w' := by
  obtain ⟨A, cc, rfl, _, _⟩ := hv.at
  obtain ⟨B, dd, rfl, _, _⟩ := hu.at
  have HA := Lib.hid awakeV_any
  have hyl : (promV x b).took.chests.length ≤ 17592186043904 := by
    have e : (promV x b).took = x.took := by unfold promV; split <;> rfl
    rw [e]; exact hl
  have hP := fun W h => ppromise_at x b A cc W h hl
  have hP2 := fun W A' c' h => ppromise_at (promV x b) c A' c' W h hyl
  have hT := fun W A' c' h g => ptake_at (promV x b) c s A' c' B dd W h g hyl hm
  have hSV := fun v1 v2 W h1 h2 => rsameV_eq x (by omega) v1 v2 W h1 h2
  have hSW := fun v1 v2 W h1 h2 => rsameV_eq (promV x b) (by omega) v1 v2 W h1 h2
  have hL := fun W => pless_any c b W
  obtain ⟨ok, hok⟩ : ∃ ok, ok = lessB x.prom b := ⟨_, rfl⟩
  rw [← hok] at hP
  have hno : ok = false → promV x b = x := fun h => by unfold promV; rw [← hok, h]; rfl
  have hyes : ok = true → (promV x b).prom = b := fun h => by unfold promV; rw [← hok, h]; rfl
  generalize promV x b = y at hP hP2 hT hSW hno hyes hyl
  have hyb : ok = true → lessB y.prom c = lessB b c ∧ lessB c y.prom = lessB c b := fun h => by rw [hyes h]; exact ⟨rfl, rfl⟩
  have htk : ok = true → lessB c b = true → takeV y c s = y := fun h g => by unfold takeV; rw [(hyb h).2, g]; rfl
  have htk2 : ok = true → lessB c b = false → takeV y c s = ⟨c, c, s⟩ := fun h g => by unfold takeV; rw [(hyb h).2, g]; rfl
  have hbc : lessB c b = true → lessB b c = false := fun h => lessB_asymm h
  have hor : (lessB b c || lessB c b) = !(decide (c.1 = b.1) && decide (c.2 = b.2)) := by
    rw [Bool.or_comm, lessB_or]
    obtain ⟨c1, c2⟩ := c
    obtain ⟨b1, b2⟩ := b
    by_cases h1 : c1 = b1 <;> by_cases h2 : c2 = b2 <;> simp [h1, h2]
  have hn := fun W => neq_ball c.1 c.2 b.1 b.2 W
  rw [← hor] at hn
  have he := fun W => eql_ball c.1 c.2 c.1 c.2 W
  simp only [decide_true, Bool.and_self] at he
  generalize lessB y.prom c = ag at hP2 hyb
  generalize lessB c y.prom = ls at hT hyb
  generalize lessB c b = q at hL hyb htk htk2 hbc hn
  generalize lessB b c = q2 at hyb hbc hn
  unfold vwv blv at hP hP2 hT ⊢
  unfold vwv at hSV hSW
  unfold sval at hT ⊢
  unfold blv at hL
  have HP := Lib.hid hP
  have HP2 := Lib.hid hP2
  have HT := Lib.hid hT
  have HSV := Lib.hid hSV
  have HSW := Lib.hid hSW
  have HL := Lib.hid hL
  have HNO := Lib.hid hno
  have HYB := Lib.hid hyb
  have HTK := Lib.hid htk
  have HTK2 := Lib.hid htk2
  have HBC := Lib.hid hbc
  have HNE := Lib.hid hn
  have HEQ := Lib.hid he
  obtain ⟨w1, hw1⟩ : ∃ w1, w1 = w.alloc (.cells #[.int .i64 x.prom.1, .int .i64 x.prom.2, .int .i64 x.at'.1, .int .i64 x.at'.2, .int .i64 x.took.gen, .int .i64 x.took.epoch, .int .i64 x.took.recd, .slice A x.took.chests.length cc] 31) := ⟨_, rfl⟩
  have hsw1 : w1.heap.size = w.heap.size + 1 := by rw [hw1, World.size_alloc]
  obtain ⟨w2, hw2⟩ : ∃ w2, w2 = w1.alloc (.cells #[.int .i64 b.1, .int .i64 b.2] 23) := ⟨_, rfl⟩
  have hsw2 : w2.heap.size = w.heap.size + 1 + 1 := by rw [hw2, World.size_alloc, hsw1]
  obtain ⟨w3, hw3⟩ : ∃ w3, w3 = w2.alloc (.cells #[.int .i64 c.1, .int .i64 c.2] 23) := ⟨_, rfl⟩
  have hsw3 : w3.heap.size = w.heap.size + 1 + 1 + 1 := by rw [hw3, World.size_alloc, hsw2]
  obtain ⟨w4, hw4⟩ : ∃ w4, w4 = w3.alloc (.cells #[.int .i64 s.gen, .int .i64 s.epoch, .int .i64 s.recd, .slice B s.chests.length dd] 29) := ⟨_, rfl⟩
  have hsw4 : w4.heap.size = w.heap.size + 1 + 1 + 1 + 1 := by rw [hw4, World.size_alloc, hsw3]
  have hb : Below w.heap.size w w4 := by rw [hw4, hw3, hw2, hw1]; exact (((((Below.refl _ w).alloc (by simp) _).alloc (by simp) _).alloc (by simp; omega) _).alloc (by simp; omega) _)
  have HV_0 := Lib.hid (show Whole w4 (w.heap.size) 31 [.int .i64 x.prom.1, .int .i64 x.prom.2, .int .i64 x.at'.1, .int .i64 x.at'.2, .int .i64 x.took.gen, .int .i64 x.took.epoch, .int .i64 x.took.recd, .slice A x.took.chests.length cc] from by rw [hw4, hw3, hw2, hw1]; exact (((Whole.fresh w _ [.int .i64 x.prom.1, .int .i64 x.prom.2, .int .i64 x.at'.1, .int .i64 x.at'.2, .int .i64 x.took.gen, .int .i64 x.took.epoch, .int .i64 x.took.recd, .slice A x.took.chests.length cc]).alloc _).alloc _).alloc _)
  have HB_0 := Lib.hid (show Whole w4 (w.heap.size + 1) 23 [.int .i64 b.1, .int .i64 b.2] from by rw [hw4, hw3, hw2, ← hsw1]; exact ((Whole.fresh w1 _ [.int .i64 b.1, .int .i64 b.2]).alloc _).alloc _)
  have HC_0 := Lib.hid (show Whole w4 (w.heap.size + 1 + 1) 23 [.int .i64 c.1, .int .i64 c.2] from by rw [hw4, hw3, ← hsw2]; exact (Whole.fresh w2 _ [.int .i64 c.1, .int .i64 c.2]).alloc _)
  have HS_0 := Lib.hid (show Whole w4 (w.heap.size + 1 + 1 + 1) 29 [.int .i64 s.gen, .int .i64 s.epoch, .int .i64 s.recd, .slice B s.chests.length dd] from by rw [hw4, ← hsw3]; exact Whole.fresh w3 _ [.int .i64 s.gen, .int .i64 s.epoch, .int .i64 s.recd, .slice B s.chests.length dd])
  have HLO_0 := Lib.hid hb
  have HRv_0 := Lib.hid (hv.next hb)
  have HRu_0 := Lib.hid (hu.next hb)
  clear hb hv hu hl hm hyl hP hP2 hT hSV hSW hL hok hno hyes hyb htk htk2 hbc hor hn he
  go_enter Try.func7, Try.ntmps7
  have kV0 := HV_0.out.cell 0 _ rfl
  have kV1 := HV_0.out.cell 1 _ rfl
  have kV2 := HV_0.out.cell 2 _ rfl
  have kV3 := HV_0.out.cell 3 _ rfl
  have kV4 := HV_0.out.cell 4 _ rfl
  have kV5 := HV_0.out.cell 5 _ rfl
  have kV6 := HV_0.out.cell 6 _ rfl
  have kV7 := HV_0.out.cell 7 _ rfl
  have kB0 := HB_0.out.cell 0 _ rfl
  have kB1 := HB_0.out.cell 1 _ rfl
  go_wp2_with fail
  rw [← hw1, ← hw2, ← hw3, ← hw4]
  clear hw1 hsw1 hw2 hsw2 hw3 hsw3 hw4 hsw4
  refine (HP.out w4 HRv_0.out).mono ?_
  rintro e w5 ⟨A1, c1, rfl, hr1, hb⟩
  clear kV0 kV1 kV2 kV3 kV4 kV5 kV6 kV7 kB0 kB1
  have HV_1 := Lib.hid (HV_0.out.below hb HV_0.out.size)
  have HB_1 := Lib.hid (HB_0.out.below hb HB_0.out.size)
  have HC_1 := Lib.hid (HC_0.out.below hb HC_0.out.size)
  have HS_1 := Lib.hid (HS_0.out.below hb HS_0.out.size)
  have HRv_1 := Lib.hid (HRv_0.out.next hb)
  have HRu_1 := Lib.hid (HRu_0.out.next hb)
  have HLO_1 := Lib.hid (HLO_0.out.trans (hb.mono HLO_0.out.size))
  clear HV_0 HB_0 HC_0 HS_0 HRv_0 HRu_0 HLO_0
  clear hb
  have HRp_a1 := Lib.hid hr1
  clear hr1
  obtain ⟨w6, hw6⟩ : ∃ w6, w6 = w5.alloc (.cells #[.int .i64 y.prom.1, .int .i64 y.prom.2, .int .i64 y.at'.1, .int .i64 y.at'.2, .int .i64 y.took.gen, .int .i64 y.took.epoch, .int .i64 y.took.recd, .slice A1 y.took.chests.length c1] 31) := ⟨_, rfl⟩
  have hb : Below w5.heap.size w5 w6 := by rw [hw6]; exact (Below.refl _ _).alloc (Nat.le_refl _) _
  have hz : w6.heap.size = w5.heap.size + 1 := by rw [hw6, World.size_alloc]
  have HW_f := Lib.hid (show Whole w6 (w5.heap.size) 31 [.int .i64 y.prom.1, .int .i64 y.prom.2, .int .i64 y.at'.1, .int .i64 y.at'.2, .int .i64 y.took.gen, .int .i64 y.took.epoch, .int .i64 y.took.recd, .slice A1 y.took.chests.length c1] from by have h := Whole.fresh w5 31 [.int .i64 y.prom.1, .int .i64 y.prom.2, .int .i64 y.at'.1, .int .i64 y.at'.2, .int .i64 y.took.gen, .int .i64 y.took.epoch, .int .i64 y.took.recd, .slice A1 y.took.chests.length c1]; rw [hw6]; exact h)
  have HV_2 := Lib.hid (HV_1.out.below hb HV_1.out.size)
  have HB_2 := Lib.hid (HB_1.out.below hb HB_1.out.size)
  have HC_2 := Lib.hid (HC_1.out.below hb HC_1.out.size)
  have HS_2 := Lib.hid (HS_1.out.below hb HS_1.out.size)
  have HRv_2 := Lib.hid (HRv_1.out.next hb)
  have HRu_2 := Lib.hid (HRu_1.out.next hb)
  have HRp_2 := Lib.hid (HRp_a1.out.next hb)
  have HLO_2 := Lib.hid (HLO_1.out.trans (hb.mono HLO_1.out.size))
  clear HV_1 HB_1 HC_1 HS_1 HRv_1 HRu_1 HRp_a1 HLO_1
  have HWw6 := Lib.hid hw6
  have HZw6 := Lib.hid hz
  clear hb hw6 hz
  generalize promV y c = y2 at HP2
  have kW0 := HW_f.out.cell 0 _ rfl
  have kW1 := HW_f.out.cell 1 _ rfl
  have kW2 := HW_f.out.cell 2 _ rfl
  have kW3 := HW_f.out.cell 3 _ rfl
  have kW4 := HW_f.out.cell 4 _ rfl
  have kW5 := HW_f.out.cell 5 _ rfl
  have kW6 := HW_f.out.cell 6 _ rfl
  have kW7 := HW_f.out.cell 7 _ rfl
  have kC0 := HC_2.out.cell 0 _ rfl
  have kC1 := HC_2.out.cell 1 _ rfl
  rw [HWw6.out] at kW0 kW1 kW2 kW3 kW4 kW5 kW6 kW7 kC0 kC1
  go_wp2_with fail
  (try rw [← HWw6.out])
  refine (HP2.out w6 _ _ HRp_2.out).mono ?_
  rintro e w7 ⟨A2, c2, rfl, hr2, hb⟩
  clear kW0 kW1 kW2 kW3 kW4 kW5 kW6 kW7 kC0 kC1
  have HV_3 := Lib.hid (HV_2.out.below hb HV_2.out.size)
  have HB_3 := Lib.hid (HB_2.out.below hb HB_2.out.size)
  have HC_3 := Lib.hid (HC_2.out.below hb HC_2.out.size)
  have HS_3 := Lib.hid (HS_2.out.below hb HS_2.out.size)
  have HW_3 := Lib.hid (HW_f.out.below hb HW_f.out.size)
  have HRv_3 := Lib.hid (HRv_2.out.next hb)
  have HRu_3 := Lib.hid (HRu_2.out.next hb)
  have HRp_3 := Lib.hid (HRp_2.out.next hb)
  have HLO_3 := Lib.hid (HLO_2.out.trans (hb.mono HLO_2.out.size))
  clear HV_2 HB_2 HC_2 HS_2 HW_f HRv_2 HRu_2 HRp_2 HLO_2
  clear hb
  obtain ⟨w8, hw8⟩ : ∃ w8, w8 = w7.alloc (.cells #[.int .i64 y2.prom.1, .int .i64 y2.prom.2, .int .i64 y2.at'.1, .int .i64 y2.at'.2, .int .i64 y2.took.gen, .int .i64 y2.took.epoch, .int .i64 y2.took.recd, .slice A2 y2.took.chests.length c2] 31) := ⟨_, rfl⟩
  have hb : Below w7.heap.size w7 w8 := by rw [hw8]; exact (Below.refl _ _).alloc (Nat.le_refl _) _
  have hz : w8.heap.size = w7.heap.size + 1 := by rw [hw8, World.size_alloc]
  have HD_f := Lib.hid (show Whole w8 (w7.heap.size) 31 [.int .i64 y2.prom.1, .int .i64 y2.prom.2, .int .i64 y2.at'.1, .int .i64 y2.at'.2, .int .i64 y2.took.gen, .int .i64 y2.took.epoch, .int .i64 y2.took.recd, .slice A2 y2.took.chests.length c2] from by have h := Whole.fresh w7 31 [.int .i64 y2.prom.1, .int .i64 y2.prom.2, .int .i64 y2.at'.1, .int .i64 y2.at'.2, .int .i64 y2.took.gen, .int .i64 y2.took.epoch, .int .i64 y2.took.recd, .slice A2 y2.took.chests.length c2]; rw [hw8]; exact h)
  have HV_4 := Lib.hid (HV_3.out.below hb HV_3.out.size)
  have HB_4 := Lib.hid (HB_3.out.below hb HB_3.out.size)
  have HC_4 := Lib.hid (HC_3.out.below hb HC_3.out.size)
  have HS_4 := Lib.hid (HS_3.out.below hb HS_3.out.size)
  have HW_4 := Lib.hid (HW_3.out.below hb HW_3.out.size)
  have HRv_4 := Lib.hid (HRv_3.out.next hb)
  have HRu_4 := Lib.hid (HRu_3.out.next hb)
  have HRp_4 := Lib.hid (HRp_3.out.next hb)
  have HLO_4 := Lib.hid (HLO_3.out.trans (hb.mono HLO_3.out.size))
  clear HV_3 HB_3 HC_3 HS_3 HW_3 HRv_3 HRu_3 HRp_3 HLO_3
  have HWw8 := Lib.hid hw8
  have HZw8 := Lib.hid hz
  clear hb hw8 hz
  clear hr2
  obtain ⟨z, hz⟩ : ∃ z, z = takeV y c s := ⟨_, rfl⟩
  rw [← hz] at HT HTK HTK2
  clear hz
  have kW0 := HW_4.out.cell 0 _ rfl
  have kW1 := HW_4.out.cell 1 _ rfl
  have kW2 := HW_4.out.cell 2 _ rfl
  have kW3 := HW_4.out.cell 3 _ rfl
  have kW4 := HW_4.out.cell 4 _ rfl
  have kW5 := HW_4.out.cell 5 _ rfl
  have kW6 := HW_4.out.cell 6 _ rfl
  have kW7 := HW_4.out.cell 7 _ rfl
  have kC0 := HC_4.out.cell 0 _ rfl
  have kC1 := HC_4.out.cell 1 _ rfl
  have kS0 := HS_4.out.cell 0 _ rfl
  have kS1 := HS_4.out.cell 1 _ rfl
  have kS2 := HS_4.out.cell 2 _ rfl
  have kS3 := HS_4.out.cell 3 _ rfl
  rw [HWw8.out] at kW0 kW1 kW2 kW3 kW4 kW5 kW6 kW7 kC0 kC1 kS0 kS1 kS2 kS3
  go_wp2_with fail
  (try rw [← HWw8.out])
  refine (HT.out w8 _ _ HRp_4.out HRu_4.out).mono ?_
  rintro e w9 ⟨A3, c3, rfl, hr3, hb⟩
  clear kW0 kW1 kW2 kW3 kW4 kW5 kW6 kW7 kC0 kC1 kS0 kS1 kS2 kS3
  have HV_5 := Lib.hid (HV_4.out.below hb HV_4.out.size)
  have HB_5 := Lib.hid (HB_4.out.below hb HB_4.out.size)
  have HC_5 := Lib.hid (HC_4.out.below hb HC_4.out.size)
  have HS_5 := Lib.hid (HS_4.out.below hb HS_4.out.size)
  have HW_5 := Lib.hid (HW_4.out.below hb HW_4.out.size)
  have HD_5 := Lib.hid (HD_f.out.below hb HD_f.out.size)
  have HRv_5 := Lib.hid (HRv_4.out.next hb)
  have HRu_5 := Lib.hid (HRu_4.out.next hb)
  have HRp_5 := Lib.hid (HRp_4.out.next hb)
  have HLO_5 := Lib.hid (HLO_4.out.trans (hb.mono HLO_4.out.size))
  clear HV_4 HB_4 HC_4 HS_4 HW_4 HD_f HRv_4 HRu_4 HRp_4 HLO_4
  clear hb
  have HRz_a5 := Lib.hid hr3
  clear hr3
  obtain ⟨w10, hw10⟩ : ∃ w10, w10 = w9.alloc (.cells #[.int .i64 z.prom.1, .int .i64 z.prom.2, .int .i64 z.at'.1, .int .i64 z.at'.2, .int .i64 z.took.gen, .int .i64 z.took.epoch, .int .i64 z.took.recd, .slice A3 z.took.chests.length c3] 31) := ⟨_, rfl⟩
  have hb : Below w9.heap.size w9 w10 := by rw [hw10]; exact (Below.refl _ _).alloc (Nat.le_refl _) _
  have hz : w10.heap.size = w9.heap.size + 1 := by rw [hw10, World.size_alloc]
  have HX_f := Lib.hid (show Whole w10 (w9.heap.size) 31 [.int .i64 z.prom.1, .int .i64 z.prom.2, .int .i64 z.at'.1, .int .i64 z.at'.2, .int .i64 z.took.gen, .int .i64 z.took.epoch, .int .i64 z.took.recd, .slice A3 z.took.chests.length c3] from by have h := Whole.fresh w9 31 [.int .i64 z.prom.1, .int .i64 z.prom.2, .int .i64 z.at'.1, .int .i64 z.at'.2, .int .i64 z.took.gen, .int .i64 z.took.epoch, .int .i64 z.took.recd, .slice A3 z.took.chests.length c3]; rw [hw10]; exact h)
  have HV_6 := Lib.hid (HV_5.out.below hb HV_5.out.size)
  have HB_6 := Lib.hid (HB_5.out.below hb HB_5.out.size)
  have HC_6 := Lib.hid (HC_5.out.below hb HC_5.out.size)
  have HS_6 := Lib.hid (HS_5.out.below hb HS_5.out.size)
  have HW_6 := Lib.hid (HW_5.out.below hb HW_5.out.size)
  have HD_6 := Lib.hid (HD_5.out.below hb HD_5.out.size)
  have HRv_6 := Lib.hid (HRv_5.out.next hb)
  have HRu_6 := Lib.hid (HRu_5.out.next hb)
  have HRp_6 := Lib.hid (HRp_5.out.next hb)
  have HRz_6 := Lib.hid (HRz_a5.out.next hb)
  have HLO_6 := Lib.hid (HLO_5.out.trans (hb.mono HLO_5.out.size))
  clear HV_5 HB_5 HC_5 HS_5 HW_5 HD_5 HRv_5 HRu_5 HRp_5 HRz_a5 HLO_5
  have HWw10 := Lib.hid hw10
  have HZw10 := Lib.hid hz
  clear hb hw10 hz
  go_wp2_with fail
  (try rw [← HWw10.out])
  refine (HA.out w10).mono ?_
  rintro e w11 ⟨rfl, hb⟩
  have HV_7 := Lib.hid (HV_6.out.below hb HV_6.out.size)
  have HB_7 := Lib.hid (HB_6.out.below hb HB_6.out.size)
  have HC_7 := Lib.hid (HC_6.out.below hb HC_6.out.size)
  have HS_7 := Lib.hid (HS_6.out.below hb HS_6.out.size)
  have HW_7 := Lib.hid (HW_6.out.below hb HW_6.out.size)
  have HD_7 := Lib.hid (HD_6.out.below hb HD_6.out.size)
  have HX_7 := Lib.hid (HX_f.out.below hb HX_f.out.size)
  have HRv_7 := Lib.hid (HRv_6.out.next hb)
  have HRu_7 := Lib.hid (HRu_6.out.next hb)
  have HRp_7 := Lib.hid (HRp_6.out.next hb)
  have HRz_7 := Lib.hid (HRz_6.out.next hb)
  have HLO_7 := Lib.hid (HLO_6.out.trans (hb.mono HLO_6.out.size))
  clear HV_6 HB_6 HC_6 HS_6 HW_6 HD_6 HX_f HRv_6 HRu_6 HRp_6 HRz_6 HLO_6
  clear hb
  cases ok with
  | false =>
    have hno := HNO.out (by first | rfl | trivial)
    subst hno
    go_wp2_with fail
    refine (HA.out w11).mono ?_
    rintro e w12 ⟨rfl, hb⟩
    have HV_8 := Lib.hid (HV_7.out.below hb HV_7.out.size)
    have HB_8 := Lib.hid (HB_7.out.below hb HB_7.out.size)
    have HC_8 := Lib.hid (HC_7.out.below hb HC_7.out.size)
    have HS_8 := Lib.hid (HS_7.out.below hb HS_7.out.size)
    have HW_8 := Lib.hid (HW_7.out.below hb HW_7.out.size)
    have HD_8 := Lib.hid (HD_7.out.below hb HD_7.out.size)
    have HX_8 := Lib.hid (HX_7.out.below hb HX_7.out.size)
    have HRv_8 := Lib.hid (HRv_7.out.next hb)
    have HRu_8 := Lib.hid (HRu_7.out.next hb)
    have HRp_8 := Lib.hid (HRp_7.out.next hb)
    have HRz_8 := Lib.hid (HRz_7.out.next hb)
    have HLO_8 := Lib.hid (HLO_7.out.trans (hb.mono HLO_7.out.size))
    clear HV_7 HB_7 HC_7 HS_7 HW_7 HD_7 HX_7 HRv_7 HRu_7 HRp_7 HRz_7 HLO_7
    clear hb
    have kW0 := HW_8.out.cell 0 _ rfl
    have kW1 := HW_8.out.cell 1 _ rfl
    have kW2 := HW_8.out.cell 2 _ rfl
    have kW3 := HW_8.out.cell 3 _ rfl
    have kW4 := HW_8.out.cell 4 _ rfl
    have kW5 := HW_8.out.cell 5 _ rfl
    have kW6 := HW_8.out.cell 6 _ rfl
    have kW7 := HW_8.out.cell 7 _ rfl
    have kV0 := HV_8.out.cell 0 _ rfl
    have kV1 := HV_8.out.cell 1 _ rfl
    have kV2 := HV_8.out.cell 2 _ rfl
    have kV3 := HV_8.out.cell 3 _ rfl
    have kV4 := HV_8.out.cell 4 _ rfl
    have kV5 := HV_8.out.cell 5 _ rfl
    have kV6 := HV_8.out.cell 6 _ rfl
    have kV7 := HV_8.out.cell 7 _ rfl
    go_wp2_with fail
    refine (HSV.out _ _ w12 HRp_8.out HRv_8.out).mono ?_
    rintro e w13 ⟨rfl, hb⟩
    clear kW0 kW1 kW2 kW3 kW4 kW5 kW6 kW7 kV0 kV1 kV2 kV3 kV4 kV5 kV6 kV7
    have HV_9 := Lib.hid (HV_8.out.below hb HV_8.out.size)
    have HB_9 := Lib.hid (HB_8.out.below hb HB_8.out.size)
    have HC_9 := Lib.hid (HC_8.out.below hb HC_8.out.size)
    have HS_9 := Lib.hid (HS_8.out.below hb HS_8.out.size)
    have HW_9 := Lib.hid (HW_8.out.below hb HW_8.out.size)
    have HD_9 := Lib.hid (HD_8.out.below hb HD_8.out.size)
    have HX_9 := Lib.hid (HX_8.out.below hb HX_8.out.size)
    have HRv_9 := Lib.hid (HRv_8.out.next hb)
    have HRu_9 := Lib.hid (HRu_8.out.next hb)
    have HRp_9 := Lib.hid (HRp_8.out.next hb)
    have HRz_9 := Lib.hid (HRz_8.out.next hb)
    have HLO_9 := Lib.hid (HLO_8.out.trans (hb.mono HLO_8.out.size))
    clear HV_8 HB_8 HC_8 HS_8 HW_8 HD_8 HX_8 HRv_8 HRu_8 HRp_8 HRz_8 HLO_8
    clear hb
    go_wp2_with fail
    go_ret
    exact ⟨rfl, HLO_9.out⟩
  | true =>
    obtain ⟨rfl, rfl⟩ := HYB.out (by first | rfl | trivial)
    have kC0 := HC_7.out.cell 0 _ rfl
    have kC1 := HC_7.out.cell 1 _ rfl
    have kB0 := HB_7.out.cell 0 _ rfl
    have kB1 := HB_7.out.cell 1 _ rfl
    go_wp2_with fail
    refine (HL.out w11).mono ?_
    rintro e w12 ⟨rfl, hb⟩
    clear kC0 kC1 kB0 kB1
    have HV_8 := Lib.hid (HV_7.out.below hb HV_7.out.size)
    have HB_8 := Lib.hid (HB_7.out.below hb HB_7.out.size)
    have HC_8 := Lib.hid (HC_7.out.below hb HC_7.out.size)
    have HS_8 := Lib.hid (HS_7.out.below hb HS_7.out.size)
    have HW_8 := Lib.hid (HW_7.out.below hb HW_7.out.size)
    have HD_8 := Lib.hid (HD_7.out.below hb HD_7.out.size)
    have HX_8 := Lib.hid (HX_7.out.below hb HX_7.out.size)
    have HRv_8 := Lib.hid (HRv_7.out.next hb)
    have HRu_8 := Lib.hid (HRu_7.out.next hb)
    have HRp_8 := Lib.hid (HRp_7.out.next hb)
    have HRz_8 := Lib.hid (HRz_7.out.next hb)
    have HLO_8 := Lib.hid (HLO_7.out.trans (hb.mono HLO_7.out.size))
    clear HV_7 HB_7 HC_7 HS_7 HW_7 HD_7 HX_7 HRv_7 HRu_7 HRp_7 HRz_7 HLO_7
    clear hb
    cases ls with
    | true =>
      have hz := HTK.out (by first | rfl | trivial) (by first | rfl | trivial)
      subst hz
      have hbc := HBC.out (by first | rfl | trivial)
      subst hbc
      have kX0 := HX_8.out.cell 0 _ rfl
      have kX1 := HX_8.out.cell 1 _ rfl
      have kX2 := HX_8.out.cell 2 _ rfl
      have kX3 := HX_8.out.cell 3 _ rfl
      have kX4 := HX_8.out.cell 4 _ rfl
      have kX5 := HX_8.out.cell 5 _ rfl
      have kX6 := HX_8.out.cell 6 _ rfl
      have kX7 := HX_8.out.cell 7 _ rfl
      have kW0 := HW_8.out.cell 0 _ rfl
      have kW1 := HW_8.out.cell 1 _ rfl
      have kW2 := HW_8.out.cell 2 _ rfl
      have kW3 := HW_8.out.cell 3 _ rfl
      have kW4 := HW_8.out.cell 4 _ rfl
      have kW5 := HW_8.out.cell 5 _ rfl
      have kW6 := HW_8.out.cell 6 _ rfl
      have kW7 := HW_8.out.cell 7 _ rfl
      go_wp2_with fail
      refine (HSW.out _ _ w12 HRz_8.out HRp_8.out).mono ?_
      rintro e w13 ⟨rfl, hb⟩
      clear kX0 kX1 kX2 kX3 kX4 kX5 kX6 kX7 kW0 kW1 kW2 kW3 kW4 kW5 kW6 kW7
      have HV_9 := Lib.hid (HV_8.out.below hb HV_8.out.size)
      have HB_9 := Lib.hid (HB_8.out.below hb HB_8.out.size)
      have HC_9 := Lib.hid (HC_8.out.below hb HC_8.out.size)
      have HS_9 := Lib.hid (HS_8.out.below hb HS_8.out.size)
      have HW_9 := Lib.hid (HW_8.out.below hb HW_8.out.size)
      have HD_9 := Lib.hid (HD_8.out.below hb HD_8.out.size)
      have HX_9 := Lib.hid (HX_8.out.below hb HX_8.out.size)
      have HRv_9 := Lib.hid (HRv_8.out.next hb)
      have HRu_9 := Lib.hid (HRu_8.out.next hb)
      have HRp_9 := Lib.hid (HRp_8.out.next hb)
      have HRz_9 := Lib.hid (HRz_8.out.next hb)
      have HLO_9 := Lib.hid (HLO_8.out.trans (hb.mono HLO_8.out.size))
      clear HV_8 HB_8 HC_8 HS_8 HW_8 HD_8 HX_8 HRv_8 HRu_8 HRp_8 HRz_8 HLO_8
      clear hb
      go_wp2_with fail
      go_ret
      exact ⟨rfl, HLO_9.out⟩
    | false =>
      have hz := HTK2.out (by first | rfl | trivial) (by first | rfl | trivial)
      subst hz
      have hn := HNE.out
      have he := HEQ.out
      simp only [Bool.or_false] at hn
      have kC0 := HC_8.out.cell 0 _ rfl
      have kC1 := HC_8.out.cell 1 _ rfl
      have kB0 := HB_8.out.cell 0 _ rfl
      have kB1 := HB_8.out.cell 1 _ rfl
      have kX0 := HX_8.out.cell 0 _ rfl
      have kX1 := HX_8.out.cell 1 _ rfl
      have kX2 := HX_8.out.cell 2 _ rfl
      have kX3 := HX_8.out.cell 3 _ rfl
      go_wp2_with fail
      go_ret
      exact ⟨rfl, HLO_8.out⟩
end Go.Proofs.Ytjmojlhebjbgaaa

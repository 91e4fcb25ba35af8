/- BallotVows' walk. -/
import Derived.Test.YtjmojlhebjbgaaaFak
import Derived.Test.YtjmojlhebjbgaaaFal
import Derived.Test.YtjmojlhebjbgaaaFag
namespace Go.Proofs.Ytjmojlhebjbgaaa
open Go.RowKit
attribute [local go_sem] less_eq same_eq le_eq ge_eq gt_eq

theorem rpromise_at (x : Vw) (b : Bal) (A : Option Addr) (c : Nat) (w : World) (hv : RdI w w.heap.size (.slice A x.took.chests.length c) x.took.chests) :
    Calls Try.prog 13 #[vwv x (.slice A x.took.chests.length c), blv b] w fun e w' => ∃ A' c', e = .returned (.tuple #[vwv (promV x b) (.slice A' (promV x b).took.chests.length c'), .bool (lessB x.prom b)]) ∧ RdI w' w'.heap.size (.slice A' (promV x b).took.chests.length c') (promV x b).took.chests ∧ Below w.heap.size w w' := by
  have e : (promV x b).took = x.took := by unfold promV; split <;> rfl
  rw [e]
  refine (rpromise_any x b A x.took.chests.length c w).mono ?_
  rintro e w' ⟨rfl, hb⟩
  exact ⟨A, c, rfl, hv.next hb, hb⟩
theorem rtake_at (x : Vw) (b : Bal) (s : Sta) (A : Option Addr) (c : Nat) (B : Option Addr) (d : Nat) (w : World) (hv : RdI w w.heap.size (.slice A x.took.chests.length c) x.took.chests) (hu : RdI w w.heap.size (.slice B s.chests.length d) s.chests) :
    Calls Try.prog 15 #[vwv x (.slice A x.took.chests.length c), blv b, sval s (.slice B s.chests.length d)] w fun e w' => ∃ A' c', e = .returned (.tuple #[vwv (takeV x b s) (.slice A' (takeV x b s).took.chests.length c'), .bool (!lessB b x.prom)]) ∧ RdI w' w'.heap.size (.slice A' (takeV x b s).took.chests.length c') (takeV x b s).took.chests ∧ Below w.heap.size w w' := by
  refine (rtake_any x b s A x.took.chests.length c B s.chests.length d w).mono ?_
  rintro e w' ⟨rfl, hb⟩
  unfold takeV
  by_cases h : lessB b x.prom = true
  · rw [if_pos h, if_pos h]
    exact ⟨A, c, rfl, hv.next hb, hb⟩
  · rw [if_neg h, if_neg h]
    exact ⟨B, d, rfl, hu.next hb, hb⟩
set_option maxHeartbeats 4000000 in
set_option maxRecDepth 100000 in
theorem ballotVows_walk (x : Vw) (b : Bal) (s : Sta) (v u : Value) (w : World) (hv : RdI w w.heap.size v x.took.chests) (hu : RdI w w.heap.size u s.chests) (hl : x.took.chests.length ≤ 17592186043904) (hm : s.chests.length ≤ 17592186043904) :
    Calls Try.prog 4 #[vwv x v, blv b, sval s u] w fun e w' => e = .returned (.bool true) ∧ Below w.heap.size w w' := by
  obtain ⟨A, c, rfl, _, _⟩ := hv.at
  obtain ⟨B, d, rfl, _, _⟩ := hu.at
  have HP := Lib.hid (fun W h => ppromise_at x b A c W h hl)
  have HRP := Lib.hid (fun W h => rpromise_at x b A c W h)
  have HT := Lib.hid (fun W h g => ptake_at x b s A c B d W h g hl hm)
  have HRT := Lib.hid (fun W h g => rtake_at x b s A c B d W h g)
  have hpl : (promV x b).took.chests.length < 4611686018427387904 := by
    have e : (promV x b).took = x.took := by unfold promV; split <;> rfl
    rw [e]; omega
  have htl : (takeV x b s).took.chests.length < 4611686018427387904 := by
    unfold takeV; split
    · omega
    · show s.chests.length < _; omega
  have HS1 := Lib.hid (fun v1 v2 W h1 h2 => rsameV_eq (promV x b) hpl v1 v2 W h1 h2)
  have HS2 := Lib.hid (fun v1 v2 W h1 h2 => rsameV_eq (takeV x b s) htl v1 v2 W h1 h2)
  have HA := Lib.hid awakeV_any
  clear hpl htl
  generalize promV x b = y at HP HRP HS1
  generalize takeV x b s = z at HT HRT HS2
  generalize lessB x.prom b = r1 at HP HRP
  generalize lessB b x.prom = r2 at HT HRT
  unfold vwv blv at HP HRP HT HRT ⊢
  unfold vwv at HS1 HS2
  unfold sval at HT HRT ⊢
  obtain ⟨w1, hw1⟩ : ∃ w1, w1 = w.alloc (.cells #[.int .i64 x.prom.1, .int .i64 x.prom.2, .int .i64 x.at'.1, .int .i64 x.at'.2, .int .i64 x.took.gen, .int .i64 x.took.epoch, .int .i64 x.took.recd, .slice A x.took.chests.length c] 31) := ⟨_, rfl⟩
  have hsw1 : w1.heap.size = w.heap.size + 1 := by rw [hw1, World.size_alloc]
  obtain ⟨w2, hw2⟩ : ∃ w2, w2 = w1.alloc (.cells #[.int .i64 b.1, .int .i64 b.2] 23) := ⟨_, rfl⟩
  have hsw2 : w2.heap.size = w.heap.size + 1 + 1 := by rw [hw2, World.size_alloc, hsw1]
  obtain ⟨w3, hw3⟩ : ∃ w3, w3 = w2.alloc (.cells #[.int .i64 s.gen, .int .i64 s.epoch, .int .i64 s.recd, .slice B s.chests.length d] 29) := ⟨_, rfl⟩
  have hsw3 : w3.heap.size = w.heap.size + 1 + 1 + 1 := by rw [hw3, World.size_alloc, hsw2]
  have hb : Below w.heap.size w w3 := by rw [hw3, hw2, hw1]; exact ((((Below.refl _ w).alloc (by simp) _).alloc (by simp) _).alloc (by simp; omega) _)
  have HV_0 := Lib.hid (show Whole w3 (w.heap.size) 31 [.int .i64 x.prom.1, .int .i64 x.prom.2, .int .i64 x.at'.1, .int .i64 x.at'.2, .int .i64 x.took.gen, .int .i64 x.took.epoch, .int .i64 x.took.recd, .slice A x.took.chests.length c] from by rw [hw3, hw2, hw1]; exact ((Whole.fresh w _ [.int .i64 x.prom.1, .int .i64 x.prom.2, .int .i64 x.at'.1, .int .i64 x.at'.2, .int .i64 x.took.gen, .int .i64 x.took.epoch, .int .i64 x.took.recd, .slice A x.took.chests.length c]).alloc _).alloc _)
  have HB_0 := Lib.hid (show Whole w3 (w.heap.size + 1) 23 [.int .i64 b.1, .int .i64 b.2] from by rw [hw3, hw2, ← hsw1]; exact (Whole.fresh w1 _ [.int .i64 b.1, .int .i64 b.2]).alloc _)
  have HS_0 := Lib.hid (show Whole w3 (w.heap.size + 1 + 1) 29 [.int .i64 s.gen, .int .i64 s.epoch, .int .i64 s.recd, .slice B s.chests.length d] from by rw [hw3, ← hsw2]; exact Whole.fresh w2 _ [.int .i64 s.gen, .int .i64 s.epoch, .int .i64 s.recd, .slice B s.chests.length d])
  have HLO_0 := Lib.hid hb
  have HRv_0 := Lib.hid (hv.next hb)
  have HRu_0 := Lib.hid (hu.next hb)
  clear hb hv hu hl hm
  go_enter Try.func4, Try.ntmps4
  have kV0 := HV_0.out.cell 0 _ rfl
  have kV1 := HV_0.out.cell 1 _ rfl
  have kV2 := HV_0.out.cell 2 _ rfl
  have kV3 := HV_0.out.cell 3 _ rfl
  have kV4 := HV_0.out.cell 4 _ rfl
  have kV5 := HV_0.out.cell 5 _ rfl
  have kV6 := HV_0.out.cell 6 _ rfl
  have kV7 := HV_0.out.cell 7 _ rfl
  have kB0 := HB_0.out.cell 0 _ rfl
  have kB1 := HB_0.out.cell 1 _ rfl
  go_wp2_with fail
  rw [← hw1, ← hw2, ← hw3]
  clear hw1 hsw1 hw2 hsw2 hw3 hsw3
  refine (HP.out w3 HRv_0.out).mono ?_
  rintro e w4 ⟨A1, c1, rfl, hr1, hb⟩
  clear kV0 kV1 kV2 kV3 kV4 kV5 kV6 kV7 kB0 kB1
  have HV_1 := Lib.hid (HV_0.out.below hb HV_0.out.size)
  have HB_1 := Lib.hid (HB_0.out.below hb HB_0.out.size)
  have HS_1 := Lib.hid (HS_0.out.below hb HS_0.out.size)
  have HRv_1 := Lib.hid (HRv_0.out.next hb)
  have HRu_1 := Lib.hid (HRu_0.out.next hb)
  have HLO_1 := Lib.hid (HLO_0.out.trans (hb.mono HLO_0.out.size))
  clear HV_0 HB_0 HS_0 HRv_0 HRu_0 HLO_0
  clear hb
  have HRp_a1 := Lib.hid hr1
  clear hr1
  obtain ⟨w5, hw5⟩ : ∃ w5, w5 = w4.alloc (.cells #[.int .i64 y.prom.1, .int .i64 y.prom.2, .int .i64 y.at'.1, .int .i64 y.at'.2, .int .i64 y.took.gen, .int .i64 y.took.epoch, .int .i64 y.took.recd, .slice A1 y.took.chests.length c1] 31) := ⟨_, rfl⟩
  have hb : Below w4.heap.size w4 w5 := by rw [hw5]; exact (Below.refl _ _).alloc (Nat.le_refl _) _
  have hz : w5.heap.size = w4.heap.size + 1 := by rw [hw5, World.size_alloc]
  have HX1_f := Lib.hid (show Whole w5 (w4.heap.size) 31 [.int .i64 y.prom.1, .int .i64 y.prom.2, .int .i64 y.at'.1, .int .i64 y.at'.2, .int .i64 y.took.gen, .int .i64 y.took.epoch, .int .i64 y.took.recd, .slice A1 y.took.chests.length c1] from by have h := Whole.fresh w4 31 [.int .i64 y.prom.1, .int .i64 y.prom.2, .int .i64 y.at'.1, .int .i64 y.at'.2, .int .i64 y.took.gen, .int .i64 y.took.epoch, .int .i64 y.took.recd, .slice A1 y.took.chests.length c1]; rw [hw5]; exact h)
  have HV_2 := Lib.hid (HV_1.out.below hb HV_1.out.size)
  have HB_2 := Lib.hid (HB_1.out.below hb HB_1.out.size)
  have HS_2 := Lib.hid (HS_1.out.below hb HS_1.out.size)
  have HRv_2 := Lib.hid (HRv_1.out.next hb)
  have HRu_2 := Lib.hid (HRu_1.out.next hb)
  have HRp_2 := Lib.hid (HRp_a1.out.next hb)
  have HLO_2 := Lib.hid (HLO_1.out.trans (hb.mono HLO_1.out.size))
  clear HV_1 HB_1 HS_1 HRv_1 HRu_1 HRp_a1 HLO_1
  have HWw5 := Lib.hid hw5
  have HZw5 := Lib.hid hz
  clear hb hw5 hz
  have kV0 := HV_2.out.cell 0 _ rfl
  have kV1 := HV_2.out.cell 1 _ rfl
  have kV2 := HV_2.out.cell 2 _ rfl
  have kV3 := HV_2.out.cell 3 _ rfl
  have kV4 := HV_2.out.cell 4 _ rfl
  have kV5 := HV_2.out.cell 5 _ rfl
  have kV6 := HV_2.out.cell 6 _ rfl
  have kV7 := HV_2.out.cell 7 _ rfl
  have kB0 := HB_2.out.cell 0 _ rfl
  have kB1 := HB_2.out.cell 1 _ rfl
  rw [HWw5.out] at kV0 kV1 kV2 kV3 kV4 kV5 kV6 kV7 kB0 kB1
  go_wp2_with fail
  (try rw [← HWw5.out])
  refine (HRP.out w5 HRv_2.out).mono ?_
  rintro e w6 ⟨A2, c2, rfl, hr2, hb⟩
  clear kV0 kV1 kV2 kV3 kV4 kV5 kV6 kV7 kB0 kB1
  have HV_3 := Lib.hid (HV_2.out.below hb HV_2.out.size)
  have HB_3 := Lib.hid (HB_2.out.below hb HB_2.out.size)
  have HS_3 := Lib.hid (HS_2.out.below hb HS_2.out.size)
  have HX1_3 := Lib.hid (HX1_f.out.below hb HX1_f.out.size)
  have HRv_3 := Lib.hid (HRv_2.out.next hb)
  have HRu_3 := Lib.hid (HRu_2.out.next hb)
  have HRp_3 := Lib.hid (HRp_2.out.next hb)
  have HLO_3 := Lib.hid (HLO_2.out.trans (hb.mono HLO_2.out.size))
  clear HV_2 HB_2 HS_2 HX1_f HRv_2 HRu_2 HRp_2 HLO_2
  clear hb
  have HRq_a3 := Lib.hid hr2
  clear hr2
  obtain ⟨w7, hw7⟩ : ∃ w7, w7 = w6.alloc (.cells #[.int .i64 y.prom.1, .int .i64 y.prom.2, .int .i64 y.at'.1, .int .i64 y.at'.2, .int .i64 y.took.gen, .int .i64 y.took.epoch, .int .i64 y.took.recd, .slice A2 y.took.chests.length c2] 31) := ⟨_, rfl⟩
  have hb : Below w6.heap.size w6 w7 := by rw [hw7]; exact (Below.refl _ _).alloc (Nat.le_refl _) _
  have hz : w7.heap.size = w6.heap.size + 1 := by rw [hw7, World.size_alloc]
  have HX2_f := Lib.hid (show Whole w7 (w6.heap.size) 31 [.int .i64 y.prom.1, .int .i64 y.prom.2, .int .i64 y.at'.1, .int .i64 y.at'.2, .int .i64 y.took.gen, .int .i64 y.took.epoch, .int .i64 y.took.recd, .slice A2 y.took.chests.length c2] from by have h := Whole.fresh w6 31 [.int .i64 y.prom.1, .int .i64 y.prom.2, .int .i64 y.at'.1, .int .i64 y.at'.2, .int .i64 y.took.gen, .int .i64 y.took.epoch, .int .i64 y.took.recd, .slice A2 y.took.chests.length c2]; rw [hw7]; exact h)
  have HV_4 := Lib.hid (HV_3.out.below hb HV_3.out.size)
  have HB_4 := Lib.hid (HB_3.out.below hb HB_3.out.size)
  have HS_4 := Lib.hid (HS_3.out.below hb HS_3.out.size)
  have HX1_4 := Lib.hid (HX1_3.out.below hb HX1_3.out.size)
  have HRv_4 := Lib.hid (HRv_3.out.next hb)
  have HRu_4 := Lib.hid (HRu_3.out.next hb)
  have HRp_4 := Lib.hid (HRp_3.out.next hb)
  have HRq_4 := Lib.hid (HRq_a3.out.next hb)
  have HLO_4 := Lib.hid (HLO_3.out.trans (hb.mono HLO_3.out.size))
  clear HV_3 HB_3 HS_3 HX1_3 HRv_3 HRu_3 HRp_3 HRq_a3 HLO_3
  have HWw7 := Lib.hid hw7
  have HZw7 := Lib.hid hz
  clear hb hw7 hz
  have kV0 := HV_4.out.cell 0 _ rfl
  have kV1 := HV_4.out.cell 1 _ rfl
  have kV2 := HV_4.out.cell 2 _ rfl
  have kV3 := HV_4.out.cell 3 _ rfl
  have kV4 := HV_4.out.cell 4 _ rfl
  have kV5 := HV_4.out.cell 5 _ rfl
  have kV6 := HV_4.out.cell 6 _ rfl
  have kV7 := HV_4.out.cell 7 _ rfl
  have kB0 := HB_4.out.cell 0 _ rfl
  have kB1 := HB_4.out.cell 1 _ rfl
  have kS0 := HS_4.out.cell 0 _ rfl
  have kS1 := HS_4.out.cell 1 _ rfl
  have kS2 := HS_4.out.cell 2 _ rfl
  have kS3 := HS_4.out.cell 3 _ rfl
  rw [HWw7.out] at kV0 kV1 kV2 kV3 kV4 kV5 kV6 kV7 kB0 kB1 kS0 kS1 kS2 kS3
  go_wp2_with fail
  (try rw [← HWw7.out])
  refine (HT.out w7 HRv_4.out HRu_4.out).mono ?_
  rintro e w8 ⟨A3, c3, rfl, hr3, hb⟩
  clear kV0 kV1 kV2 kV3 kV4 kV5 kV6 kV7 kB0 kB1 kS0 kS1 kS2 kS3
  have HV_5 := Lib.hid (HV_4.out.below hb HV_4.out.size)
  have HB_5 := Lib.hid (HB_4.out.below hb HB_4.out.size)
  have HS_5 := Lib.hid (HS_4.out.below hb HS_4.out.size)
  have HX1_5 := Lib.hid (HX1_4.out.below hb HX1_4.out.size)
  have HX2_5 := Lib.hid (HX2_f.out.below hb HX2_f.out.size)
  have HRv_5 := Lib.hid (HRv_4.out.next hb)
  have HRu_5 := Lib.hid (HRu_4.out.next hb)
  have HRp_5 := Lib.hid (HRp_4.out.next hb)
  have HRq_5 := Lib.hid (HRq_4.out.next hb)
  have HLO_5 := Lib.hid (HLO_4.out.trans (hb.mono HLO_4.out.size))
  clear HV_4 HB_4 HS_4 HX1_4 HX2_f HRv_4 HRu_4 HRp_4 HRq_4 HLO_4
  clear hb
  have HRr_a5 := Lib.hid hr3
  clear hr3
  obtain ⟨w9, hw9⟩ : ∃ w9, w9 = w8.alloc (.cells #[.int .i64 z.prom.1, .int .i64 z.prom.2, .int .i64 z.at'.1, .int .i64 z.at'.2, .int .i64 z.took.gen, .int .i64 z.took.epoch, .int .i64 z.took.recd, .slice A3 z.took.chests.length c3] 31) := ⟨_, rfl⟩
  have hb : Below w8.heap.size w8 w9 := by rw [hw9]; exact (Below.refl _ _).alloc (Nat.le_refl _) _
  have hz : w9.heap.size = w8.heap.size + 1 := by rw [hw9, World.size_alloc]
  have HX3_f := Lib.hid (show Whole w9 (w8.heap.size) 31 [.int .i64 z.prom.1, .int .i64 z.prom.2, .int .i64 z.at'.1, .int .i64 z.at'.2, .int .i64 z.took.gen, .int .i64 z.took.epoch, .int .i64 z.took.recd, .slice A3 z.took.chests.length c3] from by have h := Whole.fresh w8 31 [.int .i64 z.prom.1, .int .i64 z.prom.2, .int .i64 z.at'.1, .int .i64 z.at'.2, .int .i64 z.took.gen, .int .i64 z.took.epoch, .int .i64 z.took.recd, .slice A3 z.took.chests.length c3]; rw [hw9]; exact h)
  have HV_6 := Lib.hid (HV_5.out.below hb HV_5.out.size)
  have HB_6 := Lib.hid (HB_5.out.below hb HB_5.out.size)
  have HS_6 := Lib.hid (HS_5.out.below hb HS_5.out.size)
  have HX1_6 := Lib.hid (HX1_5.out.below hb HX1_5.out.size)
  have HX2_6 := Lib.hid (HX2_5.out.below hb HX2_5.out.size)
  have HRv_6 := Lib.hid (HRv_5.out.next hb)
  have HRu_6 := Lib.hid (HRu_5.out.next hb)
  have HRp_6 := Lib.hid (HRp_5.out.next hb)
  have HRq_6 := Lib.hid (HRq_5.out.next hb)
  have HRr_6 := Lib.hid (HRr_a5.out.next hb)
  have HLO_6 := Lib.hid (HLO_5.out.trans (hb.mono HLO_5.out.size))
  clear HV_5 HB_5 HS_5 HX1_5 HX2_5 HRv_5 HRu_5 HRp_5 HRq_5 HRr_a5 HLO_5
  have HWw9 := Lib.hid hw9
  have HZw9 := Lib.hid hz
  clear hb hw9 hz
  have kV0 := HV_6.out.cell 0 _ rfl
  have kV1 := HV_6.out.cell 1 _ rfl
  have kV2 := HV_6.out.cell 2 _ rfl
  have kV3 := HV_6.out.cell 3 _ rfl
  have kV4 := HV_6.out.cell 4 _ rfl
  have kV5 := HV_6.out.cell 5 _ rfl
  have kV6 := HV_6.out.cell 6 _ rfl
  have kV7 := HV_6.out.cell 7 _ rfl
  have kB0 := HB_6.out.cell 0 _ rfl
  have kB1 := HB_6.out.cell 1 _ rfl
  have kS0 := HS_6.out.cell 0 _ rfl
  have kS1 := HS_6.out.cell 1 _ rfl
  have kS2 := HS_6.out.cell 2 _ rfl
  have kS3 := HS_6.out.cell 3 _ rfl
  rw [HWw9.out] at kV0 kV1 kV2 kV3 kV4 kV5 kV6 kV7 kB0 kB1 kS0 kS1 kS2 kS3
  go_wp2_with fail
  (try rw [← HWw9.out])
  refine (HRT.out w9 HRv_6.out HRu_6.out).mono ?_
  rintro e w10 ⟨A4, c4, rfl, hr4, hb⟩
  clear kV0 kV1 kV2 kV3 kV4 kV5 kV6 kV7 kB0 kB1 kS0 kS1 kS2 kS3
  have HV_7 := Lib.hid (HV_6.out.below hb HV_6.out.size)
  have HB_7 := Lib.hid (HB_6.out.below hb HB_6.out.size)
  have HS_7 := Lib.hid (HS_6.out.below hb HS_6.out.size)
  have HX1_7 := Lib.hid (HX1_6.out.below hb HX1_6.out.size)
  have HX2_7 := Lib.hid (HX2_6.out.below hb HX2_6.out.size)
  have HX3_7 := Lib.hid (HX3_f.out.below hb HX3_f.out.size)
  have HRv_7 := Lib.hid (HRv_6.out.next hb)
  have HRu_7 := Lib.hid (HRu_6.out.next hb)
  have HRp_7 := Lib.hid (HRp_6.out.next hb)
  have HRq_7 := Lib.hid (HRq_6.out.next hb)
  have HRr_7 := Lib.hid (HRr_6.out.next hb)
  have HLO_7 := Lib.hid (HLO_6.out.trans (hb.mono HLO_6.out.size))
  clear HV_6 HB_6 HS_6 HX1_6 HX2_6 HX3_f HRv_6 HRu_6 HRp_6 HRq_6 HRr_6 HLO_6
  clear hb
  have HRs_a7 := Lib.hid hr4
  clear hr4
  obtain ⟨w11, hw11⟩ : ∃ w11, w11 = w10.alloc (.cells #[.int .i64 z.prom.1, .int .i64 z.prom.2, .int .i64 z.at'.1, .int .i64 z.at'.2, .int .i64 z.took.gen, .int .i64 z.took.epoch, .int .i64 z.took.recd, .slice A4 z.took.chests.length c4] 31) := ⟨_, rfl⟩
  have hb : Below w10.heap.size w10 w11 := by rw [hw11]; exact (Below.refl _ _).alloc (Nat.le_refl _) _
  have hz : w11.heap.size = w10.heap.size + 1 := by rw [hw11, World.size_alloc]
  have HX4_f := Lib.hid (show Whole w11 (w10.heap.size) 31 [.int .i64 z.prom.1, .int .i64 z.prom.2, .int .i64 z.at'.1, .int .i64 z.at'.2, .int .i64 z.took.gen, .int .i64 z.took.epoch, .int .i64 z.took.recd, .slice A4 z.took.chests.length c4] from by have h := Whole.fresh w10 31 [.int .i64 z.prom.1, .int .i64 z.prom.2, .int .i64 z.at'.1, .int .i64 z.at'.2, .int .i64 z.took.gen, .int .i64 z.took.epoch, .int .i64 z.took.recd, .slice A4 z.took.chests.length c4]; rw [hw11]; exact h)
  have HV_8 := Lib.hid (HV_7.out.below hb HV_7.out.size)
  have HB_8 := Lib.hid (HB_7.out.below hb HB_7.out.size)
  have HS_8 := Lib.hid (HS_7.out.below hb HS_7.out.size)
  have HX1_8 := Lib.hid (HX1_7.out.below hb HX1_7.out.size)
  have HX2_8 := Lib.hid (HX2_7.out.below hb HX2_7.out.size)
  have HX3_8 := Lib.hid (HX3_7.out.below hb HX3_7.out.size)
  have HRv_8 := Lib.hid (HRv_7.out.next hb)
  have HRu_8 := Lib.hid (HRu_7.out.next hb)
  have HRp_8 := Lib.hid (HRp_7.out.next hb)
  have HRq_8 := Lib.hid (HRq_7.out.next hb)
  have HRr_8 := Lib.hid (HRr_7.out.next hb)
  have HRs_8 := Lib.hid (HRs_a7.out.next hb)
  have HLO_8 := Lib.hid (HLO_7.out.trans (hb.mono HLO_7.out.size))
  clear HV_7 HB_7 HS_7 HX1_7 HX2_7 HX3_7 HRv_7 HRu_7 HRp_7 HRq_7 HRr_7 HRs_a7 HLO_7
  have HWw11 := Lib.hid hw11
  have HZw11 := Lib.hid hz
  clear hb hw11 hz
  go_wp2_with fail
  (try rw [← HWw11.out])
  refine (HA.out w11).mono ?_
  rintro e w12 ⟨rfl, hb⟩
  have HV_9 := Lib.hid (HV_8.out.below hb HV_8.out.size)
  have HB_9 := Lib.hid (HB_8.out.below hb HB_8.out.size)
  have HS_9 := Lib.hid (HS_8.out.below hb HS_8.out.size)
  have HX1_9 := Lib.hid (HX1_8.out.below hb HX1_8.out.size)
  have HX2_9 := Lib.hid (HX2_8.out.below hb HX2_8.out.size)
  have HX3_9 := Lib.hid (HX3_8.out.below hb HX3_8.out.size)
  have HX4_9 := Lib.hid (HX4_f.out.below hb HX4_f.out.size)
  have HRv_9 := Lib.hid (HRv_8.out.next hb)
  have HRu_9 := Lib.hid (HRu_8.out.next hb)
  have HRp_9 := Lib.hid (HRp_8.out.next hb)
  have HRq_9 := Lib.hid (HRq_8.out.next hb)
  have HRr_9 := Lib.hid (HRr_8.out.next hb)
  have HRs_9 := Lib.hid (HRs_8.out.next hb)
  have HLO_9 := Lib.hid (HLO_8.out.trans (hb.mono HLO_8.out.size))
  clear HV_8 HB_8 HS_8 HX1_8 HX2_8 HX3_8 HX4_f HRv_8 HRu_8 HRp_8 HRq_8 HRr_8 HRs_8 HLO_8
  clear hb
  have kX10 := HX1_9.out.cell 0 _ rfl
  have kX11 := HX1_9.out.cell 1 _ rfl
  have kX12 := HX1_9.out.cell 2 _ rfl
  have kX13 := HX1_9.out.cell 3 _ rfl
  have kX14 := HX1_9.out.cell 4 _ rfl
  have kX15 := HX1_9.out.cell 5 _ rfl
  have kX16 := HX1_9.out.cell 6 _ rfl
  have kX17 := HX1_9.out.cell 7 _ rfl
  have kX20 := HX2_9.out.cell 0 _ rfl
  have kX21 := HX2_9.out.cell 1 _ rfl
  have kX22 := HX2_9.out.cell 2 _ rfl
  have kX23 := HX2_9.out.cell 3 _ rfl
  have kX24 := HX2_9.out.cell 4 _ rfl
  have kX25 := HX2_9.out.cell 5 _ rfl
  have kX26 := HX2_9.out.cell 6 _ rfl
  have kX27 := HX2_9.out.cell 7 _ rfl
  go_wp2_with fail
  refine (HS1.out _ _ w12 HRp_9.out HRq_9.out).mono ?_
  rintro e w13 ⟨rfl, hb⟩
  clear kX10 kX11 kX12 kX13 kX14 kX15 kX16 kX17 kX20 kX21 kX22 kX23 kX24 kX25 kX26 kX27
  have HV_10 := Lib.hid (HV_9.out.below hb HV_9.out.size)
  have HB_10 := Lib.hid (HB_9.out.below hb HB_9.out.size)
  have HS_10 := Lib.hid (HS_9.out.below hb HS_9.out.size)
  have HX1_10 := Lib.hid (HX1_9.out.below hb HX1_9.out.size)
  have HX2_10 := Lib.hid (HX2_9.out.below hb HX2_9.out.size)
  have HX3_10 := Lib.hid (HX3_9.out.below hb HX3_9.out.size)
  have HX4_10 := Lib.hid (HX4_9.out.below hb HX4_9.out.size)
  have HRv_10 := Lib.hid (HRv_9.out.next hb)
  have HRu_10 := Lib.hid (HRu_9.out.next hb)
  have HRp_10 := Lib.hid (HRp_9.out.next hb)
  have HRq_10 := Lib.hid (HRq_9.out.next hb)
  have HRr_10 := Lib.hid (HRr_9.out.next hb)
  have HRs_10 := Lib.hid (HRs_9.out.next hb)
  have HLO_10 := Lib.hid (HLO_9.out.trans (hb.mono HLO_9.out.size))
  clear HV_9 HB_9 HS_9 HX1_9 HX2_9 HX3_9 HX4_9 HRv_9 HRu_9 HRp_9 HRq_9 HRr_9 HRs_9 HLO_9
  clear hb
  have kX30 := HX3_10.out.cell 0 _ rfl
  have kX31 := HX3_10.out.cell 1 _ rfl
  have kX32 := HX3_10.out.cell 2 _ rfl
  have kX33 := HX3_10.out.cell 3 _ rfl
  have kX34 := HX3_10.out.cell 4 _ rfl
  have kX35 := HX3_10.out.cell 5 _ rfl
  have kX36 := HX3_10.out.cell 6 _ rfl
  have kX37 := HX3_10.out.cell 7 _ rfl
  have kX40 := HX4_10.out.cell 0 _ rfl
  have kX41 := HX4_10.out.cell 1 _ rfl
  have kX42 := HX4_10.out.cell 2 _ rfl
  have kX43 := HX4_10.out.cell 3 _ rfl
  have kX44 := HX4_10.out.cell 4 _ rfl
  have kX45 := HX4_10.out.cell 5 _ rfl
  have kX46 := HX4_10.out.cell 6 _ rfl
  have kX47 := HX4_10.out.cell 7 _ rfl
  go_wp2_with fail
  refine (HS2.out _ _ w13 HRr_10.out HRs_10.out).mono ?_
  rintro e w14 ⟨rfl, hb⟩
  clear kX30 kX31 kX32 kX33 kX34 kX35 kX36 kX37 kX40 kX41 kX42 kX43 kX44 kX45 kX46 kX47
  have HV_11 := Lib.hid (HV_10.out.below hb HV_10.out.size)
  have HB_11 := Lib.hid (HB_10.out.below hb HB_10.out.size)
  have HS_11 := Lib.hid (HS_10.out.below hb HS_10.out.size)
  have HX1_11 := Lib.hid (HX1_10.out.below hb HX1_10.out.size)
  have HX2_11 := Lib.hid (HX2_10.out.below hb HX2_10.out.size)
  have HX3_11 := Lib.hid (HX3_10.out.below hb HX3_10.out.size)
  have HX4_11 := Lib.hid (HX4_10.out.below hb HX4_10.out.size)
  have HRv_11 := Lib.hid (HRv_10.out.next hb)
  have HRu_11 := Lib.hid (HRu_10.out.next hb)
  have HRp_11 := Lib.hid (HRp_10.out.next hb)
  have HRq_11 := Lib.hid (HRq_10.out.next hb)
  have HRr_11 := Lib.hid (HRr_10.out.next hb)
  have HRs_11 := Lib.hid (HRs_10.out.next hb)
  have HLO_11 := Lib.hid (HLO_10.out.trans (hb.mono HLO_10.out.size))
  clear HV_10 HB_10 HS_10 HX1_10 HX2_10 HX3_10 HX4_10 HRv_10 HRu_10 HRp_10 HRq_10 HRr_10 HRs_10 HLO_10
  clear hb
  go_wp2_with fail
  go_ret
  exact ⟨rfl, HLO_11.out⟩
end Go.Proofs.Ytjmojlhebjbgaaa

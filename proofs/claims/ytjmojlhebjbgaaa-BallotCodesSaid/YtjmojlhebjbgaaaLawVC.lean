/- BallotCodes' walk. -/
import Derived.Test.YtjmojlhebjbgaaaFak
import Derived.Test.YtjmojlhebjbgaaaFai
import Derived.Test.YtjmojlhebjbgaaaFag
namespace Go.Proofs.Ytjmojlhebjbgaaa
open Go.RowKit
attribute [local go_sem] less_eq same_eq le_eq ge_eq gt_eq

theorem decV_fit (l : List UInt8) : (decV l).1.took.chests.length < 4611686018427387904 := by
  have h0 : zeroV.took.chests.length < 4611686018427387904 := by simp [zeroV, zeroS]
  unfold decV
  split
  · exact h0
  · rename_i r _
    simp only
    split
    · exact getSta_fit r
    · exact h0
theorem encV_len {x : Vw} (hf : x.fits) : (encV x).1.length ≤ 2000 := by
  unfold encV
  split
  · rename_i h
    have h1 := staB_len h.2.1 hf.2
    have h2 := encs4_len hf.1
    unfold vowB
    rw [List.length_append]
    omega
  · simp
set_option maxHeartbeats 4000000 in
set_option maxRecDepth 100000 in
theorem ballotCodes_walk (x : Vw) (hf : x.fits) (l : List UInt8) (v u : Value) (w : World) (hv : RdI w w.heap.size v x.took.chests) (hu : RdB w w.heap.size u l) (hl : x.took.chests.length ≤ 17592186043904) (hll : l.length < 4611686018427387904) :
    Calls Try.prog 6 #[vwv x v, u] w fun e w' => e = .returned (.bool true) ∧ Below w.heap.size w w' := by
  obtain ⟨A, c, rfl, _, _⟩ := hv.at
  obtain ⟨B, d, rfl, _, _⟩ := hu.at
  have hzl := encV_len hf
  have hE : (encV x).2 = 0 → decV (encV x).1 = (x, 0) := fun h => by
    unfold encV at h ⊢
    by_cases hs : soundV x
    · rw [if_pos hs]; exact dec_encV hs hf
    · rw [if_neg hs] at h; simp at h
  have HP := Lib.hid (fun W h => vencode_any x (.slice A x.took.chests.length c) W h hl hf)
  have HRP := Lib.hid (fun W h => rencV_any x hf (by omega) (.slice A x.took.chests.length c) W h)
  have HD := Lib.hid (fun W h => vdecode_any l (.slice B l.length d) W h hll)
  have HRD := Lib.hid (fun W h => rdecV_any l (.slice B l.length d) W h hll)
  have HDZ := Lib.hid (fun W v h => vdecode_any (encV x).1 v W h (by omega))
  have hyl := decV_fit l
  have HA := Lib.hid awakeV_any
  generalize encV x = E at HP HRP HDZ hE hzl
  obtain ⟨lz, er⟩ := E
  simp only at HP HRP HDZ hE hzl
  generalize decV lz = Z at HDZ hE
  generalize decV l = Y at HD HRD hyl
  obtain ⟨y, g⟩ := Y
  obtain ⟨z, i⟩ := Z
  simp only at HD HRD HDZ hyl
  have HS1 := Lib.hid (fun v1 v2 W h1 h2 => rsameV_eq y hyl v1 v2 W h1 h2)
  have HS2 := Lib.hid (fun v1 v2 W h1 h2 => rsameV_eq x (by omega) v1 v2 W h1 h2)
  have HE := Lib.hid hE
  unfold vwv at HP HRP HD HRD HDZ HS1 HS2 ⊢
  obtain ⟨ln, hln⟩ : ∃ ln, ln = lz.length := ⟨_, rfl⟩
  have HLN := Lib.hid hln
  clear hln
  obtain ⟨w1, hw1⟩ : ∃ w1, w1 = w.alloc (.cells #[.int .i64 x.prom.1, .int .i64 x.prom.2, .int .i64 x.at'.1, .int .i64 x.at'.2, .int .i64 x.took.gen, .int .i64 x.took.epoch, .int .i64 x.took.recd, .slice A x.took.chests.length c] 31) := ⟨_, rfl⟩
  have hsw1 : w1.heap.size = w.heap.size + 1 := by rw [hw1, World.size_alloc]
  have hb : Below w.heap.size w w1 := by rw [hw1]; exact ((Below.refl _ w).alloc (by simp) _)
  have HV_0 := Lib.hid (show Whole w1 (w.heap.size) 31 [.int .i64 x.prom.1, .int .i64 x.prom.2, .int .i64 x.at'.1, .int .i64 x.at'.2, .int .i64 x.took.gen, .int .i64 x.took.epoch, .int .i64 x.took.recd, .slice A x.took.chests.length c] from by rw [hw1]; exact Whole.fresh w _ [.int .i64 x.prom.1, .int .i64 x.prom.2, .int .i64 x.at'.1, .int .i64 x.at'.2, .int .i64 x.took.gen, .int .i64 x.took.epoch, .int .i64 x.took.recd, .slice A x.took.chests.length c])
  have HLO_0 := Lib.hid hb
  have HRv_0 := Lib.hid (hv.next hb)
  have HRu_0 := Lib.hid (hu.next hb)
  clear hb hv hu hl hll hf hE hyl hzl
  go_enter Try.func6, Try.ntmps6
  have kV0 := HV_0.out.cell 0 _ rfl
  have kV1 := HV_0.out.cell 1 _ rfl
  have kV2 := HV_0.out.cell 2 _ rfl
  have kV3 := HV_0.out.cell 3 _ rfl
  have kV4 := HV_0.out.cell 4 _ rfl
  have kV5 := HV_0.out.cell 5 _ rfl
  have kV6 := HV_0.out.cell 6 _ rfl
  have kV7 := HV_0.out.cell 7 _ rfl
  go_wp2_with fail
  rw [← hw1]
  clear hw1 hsw1
  refine (HP.out w1 HRv_0.out).mono ?_
  rintro e w2 ⟨q1, rfl, hq1, hb⟩
  clear kV0 kV1 kV2 kV3 kV4 kV5 kV6 kV7
  have HV_1 := Lib.hid (HV_0.out.below hb HV_0.out.size)
  have HRv_1 := Lib.hid (HRv_0.out.next hb)
  have HRu_1 := Lib.hid (HRu_0.out.next hb)
  have HLO_1 := Lib.hid (HLO_0.out.trans (hb.mono HLO_0.out.size))
  clear HV_0 HRv_0 HRu_0 HLO_0
  clear hb
  obtain ⟨A1, c1, rfl, _, _⟩ := hq1.at
  rw [← HLN.out] at hq1 ⊢
  have HRa_a := Lib.hid hq1
  clear hq1
  have kV0 := HV_1.out.cell 0 _ rfl
  have kV1 := HV_1.out.cell 1 _ rfl
  have kV2 := HV_1.out.cell 2 _ rfl
  have kV3 := HV_1.out.cell 3 _ rfl
  have kV4 := HV_1.out.cell 4 _ rfl
  have kV5 := HV_1.out.cell 5 _ rfl
  have kV6 := HV_1.out.cell 6 _ rfl
  have kV7 := HV_1.out.cell 7 _ rfl
  go_wp2_with fail
  refine (HRP.out w2 HRv_1.out).mono ?_
  rintro e w3 ⟨q2, rfl, hq2, hb⟩
  clear kV0 kV1 kV2 kV3 kV4 kV5 kV6 kV7
  have HV_2 := Lib.hid (HV_1.out.below hb HV_1.out.size)
  have HRv_2 := Lib.hid (HRv_1.out.next hb)
  have HRu_2 := Lib.hid (HRu_1.out.next hb)
  have HRa_2 := Lib.hid (HRa_a.out.next hb)
  have HLO_2 := Lib.hid (HLO_1.out.trans (hb.mono HLO_1.out.size))
  clear HV_1 HRv_1 HRu_1 HRa_a HLO_1
  clear hb
  obtain ⟨A2, c2, rfl, _, _⟩ := hq2.at
  rw [← HLN.out] at hq2 ⊢
  have HRb_a := Lib.hid hq2
  clear hq2
  go_wp2_with fail
  refine (HD.out w3 HRu_2.out).mono ?_
  rintro e w4 ⟨q3, rfl, hq3, hb⟩
  have HV_3 := Lib.hid (HV_2.out.below hb HV_2.out.size)
  have HRv_3 := Lib.hid (HRv_2.out.next hb)
  have HRu_3 := Lib.hid (HRu_2.out.next hb)
  have HRa_3 := Lib.hid (HRa_2.out.next hb)
  have HRb_3 := Lib.hid (HRb_a.out.next hb)
  have HLO_3 := Lib.hid (HLO_2.out.trans (hb.mono HLO_2.out.size))
  clear HV_2 HRv_2 HRu_2 HRa_2 HRb_a HLO_2
  clear hb
  obtain ⟨A3, c3, rfl, _, _⟩ := hq3.at
  have HRy1_a := Lib.hid hq3
  clear hq3
  obtain ⟨w5, hw5⟩ : ∃ w5, w5 = w4.alloc (.cells #[.int .i64 y.prom.1, .int .i64 y.prom.2, .int .i64 y.at'.1, .int .i64 y.at'.2, .int .i64 y.took.gen, .int .i64 y.took.epoch, .int .i64 y.took.recd, .slice A3 y.took.chests.length c3] 31) := ⟨_, rfl⟩
  have hb : Below w4.heap.size w4 w5 := by rw [hw5]; exact (Below.refl _ _).alloc (Nat.le_refl _) _
  have hz : w5.heap.size = w4.heap.size + 1 := by rw [hw5, World.size_alloc]
  have HY1_f := Lib.hid (show Whole w5 (w4.heap.size) 31 [.int .i64 y.prom.1, .int .i64 y.prom.2, .int .i64 y.at'.1, .int .i64 y.at'.2, .int .i64 y.took.gen, .int .i64 y.took.epoch, .int .i64 y.took.recd, .slice A3 y.took.chests.length c3] from by have h := Whole.fresh w4 31 [.int .i64 y.prom.1, .int .i64 y.prom.2, .int .i64 y.at'.1, .int .i64 y.at'.2, .int .i64 y.took.gen, .int .i64 y.took.epoch, .int .i64 y.took.recd, .slice A3 y.took.chests.length c3]; rw [hw5]; exact h)
  have HV_4 := Lib.hid (HV_3.out.below hb HV_3.out.size)
  have HRv_4 := Lib.hid (HRv_3.out.next hb)
  have HRu_4 := Lib.hid (HRu_3.out.next hb)
  have HRa_4 := Lib.hid (HRa_3.out.next hb)
  have HRb_4 := Lib.hid (HRb_3.out.next hb)
  have HRy1_4 := Lib.hid (HRy1_a.out.next hb)
  have HLO_4 := Lib.hid (HLO_3.out.trans (hb.mono HLO_3.out.size))
  clear HV_3 HRv_3 HRu_3 HRa_3 HRb_3 HRy1_a HLO_3
  have HWw5 := Lib.hid hw5
  have HZw5 := Lib.hid hz
  clear hb hw5 hz
  go_wp2_with fail
  (try rw [← HWw5.out])
  refine (HRD.out w5 HRu_4.out).mono ?_
  rintro e w6 ⟨q4, rfl, hq4, hb⟩
  have HV_5 := Lib.hid (HV_4.out.below hb HV_4.out.size)
  have HY1_5 := Lib.hid (HY1_f.out.below hb HY1_f.out.size)
  have HRv_5 := Lib.hid (HRv_4.out.next hb)
  have HRu_5 := Lib.hid (HRu_4.out.next hb)
  have HRa_5 := Lib.hid (HRa_4.out.next hb)
  have HRb_5 := Lib.hid (HRb_4.out.next hb)
  have HRy1_5 := Lib.hid (HRy1_4.out.next hb)
  have HLO_5 := Lib.hid (HLO_4.out.trans (hb.mono HLO_4.out.size))
  clear HV_4 HY1_f HRv_4 HRu_4 HRa_4 HRb_4 HRy1_4 HLO_4
  clear hb
  obtain ⟨A4, c4, rfl, _, _⟩ := hq4.at
  have HRy2_a := Lib.hid hq4
  clear hq4
  obtain ⟨w7, hw7⟩ : ∃ w7, w7 = w6.alloc (.cells #[.int .i64 y.prom.1, .int .i64 y.prom.2, .int .i64 y.at'.1, .int .i64 y.at'.2, .int .i64 y.took.gen, .int .i64 y.took.epoch, .int .i64 y.took.recd, .slice A4 y.took.chests.length c4] 31) := ⟨_, rfl⟩
  have hb : Below w6.heap.size w6 w7 := by rw [hw7]; exact (Below.refl _ _).alloc (Nat.le_refl _) _
  have hz : w7.heap.size = w6.heap.size + 1 := by rw [hw7, World.size_alloc]
  have HY2_f := Lib.hid (show Whole w7 (w6.heap.size) 31 [.int .i64 y.prom.1, .int .i64 y.prom.2, .int .i64 y.at'.1, .int .i64 y.at'.2, .int .i64 y.took.gen, .int .i64 y.took.epoch, .int .i64 y.took.recd, .slice A4 y.took.chests.length c4] from by have h := Whole.fresh w6 31 [.int .i64 y.prom.1, .int .i64 y.prom.2, .int .i64 y.at'.1, .int .i64 y.at'.2, .int .i64 y.took.gen, .int .i64 y.took.epoch, .int .i64 y.took.recd, .slice A4 y.took.chests.length c4]; rw [hw7]; exact h)
  have HV_6 := Lib.hid (HV_5.out.below hb HV_5.out.size)
  have HY1_6 := Lib.hid (HY1_5.out.below hb HY1_5.out.size)
  have HRv_6 := Lib.hid (HRv_5.out.next hb)
  have HRu_6 := Lib.hid (HRu_5.out.next hb)
  have HRa_6 := Lib.hid (HRa_5.out.next hb)
  have HRb_6 := Lib.hid (HRb_5.out.next hb)
  have HRy1_6 := Lib.hid (HRy1_5.out.next hb)
  have HRy2_6 := Lib.hid (HRy2_a.out.next hb)
  have HLO_6 := Lib.hid (HLO_5.out.trans (hb.mono HLO_5.out.size))
  clear HV_5 HY1_5 HRv_5 HRu_5 HRa_5 HRb_5 HRy1_5 HRy2_a HLO_5
  have HWw7 := Lib.hid hw7
  have HZw7 := Lib.hid hz
  clear hb hw7 hz
  go_wp2_with fail
  (try rw [← HWw7.out])
  refine (HDZ.out w7 _ HRa_6.out).mono ?_
  rintro e w8 ⟨q5, rfl, hq5, hb⟩
  have HV_7 := Lib.hid (HV_6.out.below hb HV_6.out.size)
  have HY1_7 := Lib.hid (HY1_6.out.below hb HY1_6.out.size)
  have HY2_7 := Lib.hid (HY2_f.out.below hb HY2_f.out.size)
  have HRv_7 := Lib.hid (HRv_6.out.next hb)
  have HRu_7 := Lib.hid (HRu_6.out.next hb)
  have HRa_7 := Lib.hid (HRa_6.out.next hb)
  have HRb_7 := Lib.hid (HRb_6.out.next hb)
  have HRy1_7 := Lib.hid (HRy1_6.out.next hb)
  have HRy2_7 := Lib.hid (HRy2_6.out.next hb)
  have HLO_7 := Lib.hid (HLO_6.out.trans (hb.mono HLO_6.out.size))
  clear HV_6 HY1_6 HY2_f HRv_6 HRu_6 HRa_6 HRb_6 HRy1_6 HRy2_6 HLO_6
  clear hb
  obtain ⟨A5, c5, rfl, _, _⟩ := hq5.at
  have HRz1_a := Lib.hid hq5
  clear hq5
  obtain ⟨w9, hw9⟩ : ∃ w9, w9 = w8.alloc (.cells #[.int .i64 z.prom.1, .int .i64 z.prom.2, .int .i64 z.at'.1, .int .i64 z.at'.2, .int .i64 z.took.gen, .int .i64 z.took.epoch, .int .i64 z.took.recd, .slice A5 z.took.chests.length c5] 31) := ⟨_, rfl⟩
  have hb : Below w8.heap.size w8 w9 := by rw [hw9]; exact (Below.refl _ _).alloc (Nat.le_refl _) _
  have hz : w9.heap.size = w8.heap.size + 1 := by rw [hw9, World.size_alloc]
  have HZ1_f := Lib.hid (show Whole w9 (w8.heap.size) 31 [.int .i64 z.prom.1, .int .i64 z.prom.2, .int .i64 z.at'.1, .int .i64 z.at'.2, .int .i64 z.took.gen, .int .i64 z.took.epoch, .int .i64 z.took.recd, .slice A5 z.took.chests.length c5] from by have h := Whole.fresh w8 31 [.int .i64 z.prom.1, .int .i64 z.prom.2, .int .i64 z.at'.1, .int .i64 z.at'.2, .int .i64 z.took.gen, .int .i64 z.took.epoch, .int .i64 z.took.recd, .slice A5 z.took.chests.length c5]; rw [hw9]; exact h)
  have HV_8 := Lib.hid (HV_7.out.below hb HV_7.out.size)
  have HY1_8 := Lib.hid (HY1_7.out.below hb HY1_7.out.size)
  have HY2_8 := Lib.hid (HY2_7.out.below hb HY2_7.out.size)
  have HRv_8 := Lib.hid (HRv_7.out.next hb)
  have HRu_8 := Lib.hid (HRu_7.out.next hb)
  have HRa_8 := Lib.hid (HRa_7.out.next hb)
  have HRb_8 := Lib.hid (HRb_7.out.next hb)
  have HRy1_8 := Lib.hid (HRy1_7.out.next hb)
  have HRy2_8 := Lib.hid (HRy2_7.out.next hb)
  have HRz1_8 := Lib.hid (HRz1_a.out.next hb)
  have HLO_8 := Lib.hid (HLO_7.out.trans (hb.mono HLO_7.out.size))
  clear HV_7 HY1_7 HY2_7 HRv_7 HRu_7 HRa_7 HRb_7 HRy1_7 HRy2_7 HRz1_a HLO_7
  have HWw9 := Lib.hid hw9
  have HZw9 := Lib.hid hz
  clear hb hw9 hz
  go_wp2_with fail
  (try rw [← HWw9.out])
  refine (HA.out w9).mono ?_
  rintro e w10 ⟨rfl, hb⟩
  have HV_9 := Lib.hid (HV_8.out.below hb HV_8.out.size)
  have HY1_9 := Lib.hid (HY1_8.out.below hb HY1_8.out.size)
  have HY2_9 := Lib.hid (HY2_8.out.below hb HY2_8.out.size)
  have HZ1_9 := Lib.hid (HZ1_f.out.below hb HZ1_f.out.size)
  have HRv_9 := Lib.hid (HRv_8.out.next hb)
  have HRu_9 := Lib.hid (HRu_8.out.next hb)
  have HRa_9 := Lib.hid (HRa_8.out.next hb)
  have HRb_9 := Lib.hid (HRb_8.out.next hb)
  have HRy1_9 := Lib.hid (HRy1_8.out.next hb)
  have HRy2_9 := Lib.hid (HRy2_8.out.next hb)
  have HRz1_9 := Lib.hid (HRz1_8.out.next hb)
  have HLO_9 := Lib.hid (HLO_8.out.trans (hb.mono HLO_8.out.size))
  clear HV_8 HY1_8 HY2_8 HZ1_f HRv_8 HRu_8 HRa_8 HRb_8 HRy1_8 HRy2_8 HRz1_8 HLO_8
  clear hb
  have hca := run_convB HRa_9.out
  have hcb := run_convB HRb_9.out
  (try rw [← HLN.out] at hca hcb)
  generalize strB lz = sz at hca hcb
  have kY10 := HY1_9.out.cell 0 _ rfl
  have kY11 := HY1_9.out.cell 1 _ rfl
  have kY12 := HY1_9.out.cell 2 _ rfl
  have kY13 := HY1_9.out.cell 3 _ rfl
  have kY14 := HY1_9.out.cell 4 _ rfl
  have kY15 := HY1_9.out.cell 5 _ rfl
  have kY16 := HY1_9.out.cell 6 _ rfl
  have kY17 := HY1_9.out.cell 7 _ rfl
  have kY20 := HY2_9.out.cell 0 _ rfl
  have kY21 := HY2_9.out.cell 1 _ rfl
  have kY22 := HY2_9.out.cell 2 _ rfl
  have kY23 := HY2_9.out.cell 3 _ rfl
  have kY24 := HY2_9.out.cell 4 _ rfl
  have kY25 := HY2_9.out.cell 5 _ rfl
  have kY26 := HY2_9.out.cell 6 _ rfl
  have kY27 := HY2_9.out.cell 7 _ rfl
  go_wp2_with fail
  refine (HS1.out _ _ w10 HRy1_9.out HRy2_9.out).mono ?_
  rintro e w11 ⟨rfl, hb⟩
  clear kY10 kY11 kY12 kY13 kY14 kY15 kY16 kY17 kY20 kY21 kY22 kY23 kY24 kY25 kY26 kY27
  have HV_10 := Lib.hid (HV_9.out.below hb HV_9.out.size)
  have HY1_10 := Lib.hid (HY1_9.out.below hb HY1_9.out.size)
  have HY2_10 := Lib.hid (HY2_9.out.below hb HY2_9.out.size)
  have HZ1_10 := Lib.hid (HZ1_9.out.below hb HZ1_9.out.size)
  have HRv_10 := Lib.hid (HRv_9.out.next hb)
  have HRu_10 := Lib.hid (HRu_9.out.next hb)
  have HRa_10 := Lib.hid (HRa_9.out.next hb)
  have HRb_10 := Lib.hid (HRb_9.out.next hb)
  have HRy1_10 := Lib.hid (HRy1_9.out.next hb)
  have HRy2_10 := Lib.hid (HRy2_9.out.next hb)
  have HRz1_10 := Lib.hid (HRz1_9.out.next hb)
  have HLO_10 := Lib.hid (HLO_9.out.trans (hb.mono HLO_9.out.size))
  clear HV_9 HY1_9 HY2_9 HZ1_9 HRv_9 HRu_9 HRa_9 HRb_9 HRy1_9 HRy2_9 HRz1_9 HLO_9
  clear hb
  clear hca hcb
  have hE := HE.out
  clear HE
  by_cases h0 : er = 0
  · obtain ⟨rfl, rfl⟩ := Prod.mk.inj (hE h0)
    subst h0
    clear hE
    have kZ10 := HZ1_10.out.cell 0 _ rfl
    have kZ11 := HZ1_10.out.cell 1 _ rfl
    have kZ12 := HZ1_10.out.cell 2 _ rfl
    have kZ13 := HZ1_10.out.cell 3 _ rfl
    have kZ14 := HZ1_10.out.cell 4 _ rfl
    have kZ15 := HZ1_10.out.cell 5 _ rfl
    have kZ16 := HZ1_10.out.cell 6 _ rfl
    have kZ17 := HZ1_10.out.cell 7 _ rfl
    have kV0 := HV_10.out.cell 0 _ rfl
    have kV1 := HV_10.out.cell 1 _ rfl
    have kV2 := HV_10.out.cell 2 _ rfl
    have kV3 := HV_10.out.cell 3 _ rfl
    have kV4 := HV_10.out.cell 4 _ rfl
    have kV5 := HV_10.out.cell 5 _ rfl
    have kV6 := HV_10.out.cell 6 _ rfl
    have kV7 := HV_10.out.cell 7 _ rfl
    go_wp2_with fail
    refine (HS2.out _ _ w11 HRz1_10.out HRv_10.out).mono ?_
    rintro e w12 ⟨rfl, hb⟩
    clear kZ10 kZ11 kZ12 kZ13 kZ14 kZ15 kZ16 kZ17 kV0 kV1 kV2 kV3 kV4 kV5 kV6 kV7
    have HV_11 := Lib.hid (HV_10.out.below hb HV_10.out.size)
    have HY1_11 := Lib.hid (HY1_10.out.below hb HY1_10.out.size)
    have HY2_11 := Lib.hid (HY2_10.out.below hb HY2_10.out.size)
    have HZ1_11 := Lib.hid (HZ1_10.out.below hb HZ1_10.out.size)
    have HRv_11 := Lib.hid (HRv_10.out.next hb)
    have HRu_11 := Lib.hid (HRu_10.out.next hb)
    have HRa_11 := Lib.hid (HRa_10.out.next hb)
    have HRb_11 := Lib.hid (HRb_10.out.next hb)
    have HRy1_11 := Lib.hid (HRy1_10.out.next hb)
    have HRy2_11 := Lib.hid (HRy2_10.out.next hb)
    have HRz1_11 := Lib.hid (HRz1_10.out.next hb)
    have HLO_11 := Lib.hid (HLO_10.out.trans (hb.mono HLO_10.out.size))
    clear HV_10 HY1_10 HY2_10 HZ1_10 HRv_10 HRu_10 HRa_10 HRb_10 HRy1_10 HRy2_10 HRz1_10 HLO_10
    clear hb
    go_wp2_with fail
    go_ret
    exact ⟨rfl, HLO_11.out⟩
  · have h0b : (er == 0) = false := by simpa using h0
    clear hE
    go_wp2_with fail
    go_ret
    exact ⟨rfl, HLO_10.out⟩
end Go.Proofs.Ytjmojlhebjbgaaa

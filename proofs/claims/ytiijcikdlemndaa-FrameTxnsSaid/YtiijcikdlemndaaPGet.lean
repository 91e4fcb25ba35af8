/- The program's GetTxn, GetBatch, GetState. -/
import Derived.Test.YtiijcikdlemndaaPDec
namespace Go.Proofs.Ytiijcikdlemndaa
open Go.RowKit
attribute [local go_sem] less_eq same_eq le_eq ge_eq gt_eq

theorem rdSpans_len (most : Nat) (S : Rest) : ∀ s ∈ (rdList rdSpan most S).1, s.1.size ≤ 65536 ∧ s.2.size ≤ 65536 := repL_all (p := fun s : K × K => s.1.size ≤ 65536 ∧ s.2.size ≤ 65536) rdSpan_len _ _
theorem rdChgs_len (most : Nat) (S : Rest) : ∀ c ∈ (rdList rdChg most S).1, c.key.size ≤ 65536 ∧ c.val.size ≤ 65536 := repL_all (p := fun c : Chg => c.key.size ≤ 65536 ∧ c.val.size ≤ 65536) rdChg_len _ _
theorem rdNums_len (most : Nat) (S : Rest) : ∀ n ∈ (rdList rdN most S).1, 0 ≤ n ∧ n < 9223372036854775808 := repL_all (p := fun n : Int => 0 ≤ n ∧ n < 9223372036854775808) rdN_lt _ _

set_option maxHeartbeats 8000000 in
set_option maxRecDepth 100000 in
theorem pgetS (l : List UInt8) (v : Value) (w : World) (hv : RdB w w.heap.size v l) (hl : l.length < 4611686018427387904) :
    Calls Try.prog 27 #[v] w fun e w' => ∃ v1, e = .returned (.tuple #[sval (getSta l).1 v1, .int .i64 (getSta l).2]) ∧ RdI w' w'.heap.size v1 (getSta l).1.chests ∧ Below w.heap.size w w' := by
  obtain ⟨w1, hw1⟩ : ∃ w1, w1 = w.alloc (.cells #[.int .i64 0, .int .i64 0, .int .i64 0, .slice none 0 0] 51) := ⟨_, rfl⟩
  have hb1 : Below w.heap.size w w1 := by rw [hw1]; exact (Below.refl _ _).alloc (Nat.le_refl _) _
  have hV1 : Whole w1 w.heap.size 51 [.int .i64 0, .int .i64 0, .int .i64 0, .slice none 0 0] := by rw [hw1]; exact Whole.fresh _ _ _
  have hfr := ffrom_any l v w1 (hv.next hb1) hl
  obtain ⟨R, hD⟩ : ∃ R, R = getSta l := ⟨_, rfl⟩
  rw [← hD]
  unfold getSta rdSta at hD
  simp only at hD
  have hN1 := fun W base p h => fnum_any (some l) base p W h
  generalize rdN (some l) = r1 at hN1 hD
  obtain ⟨n1, S1⟩ := r1
  simp only at hN1 hD
  have hN2 := fun W base p h => fnum_any S1 base p W h
  generalize rdN S1 = r2 at hN2 hD
  obtain ⟨n2, S2⟩ := r2
  simp only at hN2 hD
  have hN3 := fun W base p h => fnum_any S2 base p W h
  generalize rdN S2 = r3 at hN3 hD
  obtain ⟨n3, S3⟩ := r3
  simp only at hN3 hD
  have hL1 := fun W base p h => fnums_rd 16 (by omega) S3 base p W h
  have hln1 := rdList_len rdN 16 S3
  have hel1 := rdNums_len 16 S3
  generalize rdList rdN 16 S3 = q1 at hL1 hln1 hel1 hD
  obtain ⟨L1, T1⟩ := q1
  simp only at hL1 hln1 hel1 hD
  have hsd := fun (W : World) (v1 : Value) (h1 : RdI W W.heap.size v1 L1) => soundS_any ⟨n1, n2, n3, L1⟩ (by simp only; omega) v1 W h1
  have hwh := fun W base p h => fwhole_any T1 base p W h
  obtain ⟨D1, hD1⟩ : ∃ D1, D1 = decide (T1 = some []) := ⟨_, rfl⟩
  obtain ⟨D2, hD2⟩ : ∃ D2, D2 = decide (soundS ⟨n1, n2, n3, L1⟩) := ⟨_, rfl⟩
  rw [← hD1] at hwh
  rw [← hD2] at hsd
  have hyes : D1 = true → D2 = true → R = (⟨n1, n2, n3, L1⟩, 0) := fun h1 h2 => by
    rw [hD, if_pos ⟨of_decide_eq_true (hD1 ▸ h1), of_decide_eq_true (hD2 ▸ h2)⟩]
  have hno : ¬ (D1 = true ∧ D2 = true) → R = (zeroS, 2) := fun h => by
    rw [hD, if_neg fun h' => h ⟨by rw [hD1]; exact decide_eq_true h'.1, by rw [hD2]; exact decide_eq_true h'.2⟩]
  obtain ⟨A0, c0, hvv, _, _⟩ := hv.at
  subst hvv
  simp only [sval] at hsd
  have HYES := Lib.hid hyes
  have HNO := Lib.hid hno
  have HSD := Lib.hid hsd
  have HWH := Lib.hid hwh
  have HFR := Lib.hid hfr
  have HN1 := Lib.hid hN1
  have HN2 := Lib.hid hN2
  have HN3 := Lib.hid hN3
  have HL1 := Lib.hid hL1
  have HW1 := Lib.hid hw1
  have HB1 := Lib.hid hb1
  have HV1 := Lib.hid hV1
  have hwlt : w.heap.size < w1.heap.size := hV1.size
  clear hyes hno hsd hwh hfr hD hD1 hD2 hv hw1 hb1 hV1 hN1 hN2 hN3 hL1 hel1
  go_enter Try.func27, Try.ntmps27
  go_wp2_with fail
  rw [← HW1.out]
  refine HFR.out.mono ?_
  rintro e w2 ⟨p, rfl, hf2, hb2, hp⟩
  obtain ⟨base, hbase⟩ : ∃ base, base = w1.heap.size := ⟨_, rfl⟩
  rw [← hbase] at hf2 hb2 hp
  subst hp
  have HF2 := Lib.hid hf2
  have HO2 := Lib.hid (show Only p w1 w2 from (Only.refl _ _).below (by rw [← hbase]; exact hb2))
  have HBASE := Lib.hid hbase
  clear hf2 hb2 hbase
  go_wp2_with fail
  refine (HN1.out _ _ _ HF2.out).mono ?_
  rintro e w3 ⟨rfl, hf3, ho3⟩
  have HF3 := Lib.hid hf3
  have HO3 := Lib.hid (HO2.out.trans ho3)
  clear hf3 ho3
  go_wp2_with fail
  refine (HN2.out _ _ _ HF3.out).mono ?_
  rintro e w4 ⟨rfl, hf4, ho4⟩
  have HF4 := Lib.hid hf4
  have HO4 := Lib.hid (HO3.out.trans ho4)
  clear hf4 ho4
  go_wp2_with fail
  refine (HN3.out _ _ _ HF4.out).mono ?_
  rintro e w5 ⟨rfl, hf5, ho5⟩
  have HF5 := Lib.hid hf5
  have HO5 := Lib.hid (HO4.out.trans ho5)
  clear hf5 ho5
  go_wp2_with fail
  have hpl1 : p < w5.heap.size := HF5.out.size
  refine (HL1.out _ _ _ HF5.out).mono ?_
  rintro e w6 ⟨A1, c1, rfl, how1, hf6, ho6⟩
  have HF6 := Lib.hid hf6
  have HO6 := Lib.hid (HO5.out.trans ho6)
  have HW1_6 := Lib.hid how1
  clear hf6 ho6 how1
  go_wp2_with fail
  obtain ⟨w7, hw7⟩ : ∃ W, W = w6.alloc (.cells #[.int .i64 n1, .int .i64 n2, .int .i64 n3, .slice A1 L1.length c1] 51) := ⟨_, rfl⟩
  have hba : Below w6.heap.size w6 w7 := by rw [hw7]; exact (Below.refl _ _).alloc (Nat.le_refl _) _
  have hMa : Whole w7 w6.heap.size 51 [.int .i64 n1, .int .i64 n2, .int .i64 n3, .slice A1 L1.length c1] := by rw [hw7]; exact Whole.fresh _ _ _
  rw [← hw7]
  have hbl : Below w1.heap.size w1 w6 := HO6.out.low (by rw [HBASE.out]; exact Nat.le_refl _) (Nat.le_refl _)
  have hVz := HV1.out.below hbl hwlt
  have HVA := Lib.hid (hVz.below hba hVz.size)
  have HBA := Lib.hid (show Below w.heap.size w w7 from (HB1.out.trans (hbl.mono (by omega))).trans (hba.mono (by have := hVz.size; omega)))
  have HWC := Lib.hid (HWH.out _ _ _ (HF6.out.more hba))
  have HWA1 := Lib.hid (HW1_6.out.below hba (Nat.le_refl _))
  obtain ⟨G, hG⟩ : ∃ G, G = w6.heap.size := ⟨_, rfl⟩
  rw [← hG] at hMa ⊢
  have HMA := Lib.hid hMa
  clear hw7 hba hMa hG hbl hVz
  refine HWC.out.mono ?_
  rintro e wb ⟨rfl, rfl⟩
  cases D1 with
  | false =>
    have hr := HNO.out (by simp)
    have HRE := Lib.hid hr; clear hr
    have q0 := HVA.out.cell 0 _ rfl
    have g0 := HVA.out.frozen 0
    have q1 := HVA.out.cell 1 _ rfl
    have g1 := HVA.out.frozen 1
    have q2 := HVA.out.cell 2 _ rfl
    have g2 := HVA.out.frozen 2
    have q3 := HVA.out.cell 3 _ rfl
    have g3 := HVA.out.frozen 3
    go_wp2_with fail
    have hVZ := ((((HVA.out.put 0 (.int .i64 0)).put 1 (.int .i64 0)).put 2 (.int .i64 0)).put 3 (.slice none 0 0))
    have j0 := hVZ.cell 0 _ rfl
    have j1 := hVZ.cell 1 _ rfl
    have j2 := hVZ.cell 2 _ rfl
    have j3 := hVZ.cell 3 _ rfl
    rw [HRE.out]
    refine bodyPost_ret (v := .tuple #[.agg #[.int .i64 0, .int .i64 0, .int .i64 0, .slice none 0 0], .int .i64 2]) (by simp [results, Try.results27, go_sem, j0, j1, j2, j3]) rfl ⟨_, rfl, Rd.nil _ _, ((((HBA.out.setCell (Nat.le_refl _) _).setCell (Nat.le_refl _) _).setCell (Nat.le_refl _) _).setCell (Nat.le_refl _) _)⟩
  | true =>
    have kk0 := HMA.out.cell 0 _ rfl
    have kk1 := HMA.out.cell 1 _ rfl
    have kk2 := HMA.out.cell 2 _ rfl
    have kk3 := HMA.out.cell 3 _ rfl
    have hsc := HSD.out wb _ (Own.rd encI_len HWA1.out)
    have HSC := Lib.hid hsc; clear hsc
    go_wp2_with fail
    refine HSC.out.mono ?_
    rintro e wc ⟨rfl, hbc⟩
    have HVC := Lib.hid (HVA.out.below hbc HVA.out.size)
    have HMC := Lib.hid (HMA.out.below hbc HMA.out.size)
    have HBC := Lib.hid (HBA.out.trans (hbc.mono (by have := HVA.out.size; omega)))
    have HWX1 := Lib.hid (HWA1.out.below hbc (Nat.le_refl _))
    clear hbc kk0 kk1 kk2 kk3
    cases D2 with
    | false =>
      have hr := HNO.out (by simp)
      have HRE := Lib.hid hr; clear hr
      have q0 := HVC.out.cell 0 _ rfl
      have g0 := HVC.out.frozen 0
      have q1 := HVC.out.cell 1 _ rfl
      have g1 := HVC.out.frozen 1
      have q2 := HVC.out.cell 2 _ rfl
      have g2 := HVC.out.frozen 2
      have q3 := HVC.out.cell 3 _ rfl
      have g3 := HVC.out.frozen 3
      go_wp2_with fail
      have hVZ := ((((HVC.out.put 0 (.int .i64 0)).put 1 (.int .i64 0)).put 2 (.int .i64 0)).put 3 (.slice none 0 0))
      have j0 := hVZ.cell 0 _ rfl
      have j1 := hVZ.cell 1 _ rfl
      have j2 := hVZ.cell 2 _ rfl
      have j3 := hVZ.cell 3 _ rfl
      rw [HRE.out]
      refine bodyPost_ret (v := .tuple #[.agg #[.int .i64 0, .int .i64 0, .int .i64 0, .slice none 0 0], .int .i64 2]) (by simp [results, Try.results27, go_sem, j0, j1, j2, j3]) rfl ⟨_, rfl, Rd.nil _ _, ((((HBC.out.setCell (Nat.le_refl _) _).setCell (Nat.le_refl _) _).setCell (Nat.le_refl _) _).setCell (Nat.le_refl _) _)⟩
    | true =>
      have hr := HYES.out (by simp) (by simp)
      have HRE := Lib.hid hr; clear hr
      have kk0 := HMC.out.cell 0 _ rfl
      have kk1 := HMC.out.cell 1 _ rfl
      have kk2 := HMC.out.cell 2 _ rfl
      have kk3 := HMC.out.cell 3 _ rfl
      have q0 := HVC.out.cell 0 _ rfl
      have g0 := HVC.out.frozen 0
      have q1 := HVC.out.cell 1 _ rfl
      have g1 := HVC.out.frozen 1
      have q2 := HVC.out.cell 2 _ rfl
      have g2 := HVC.out.frozen 2
      have q3 := HVC.out.cell 3 _ rfl
      have g3 := HVC.out.frozen 3
      go_wp2_with fail
      have hVZ := ((((HVC.out.put 0 (.int .i64 n1)).put 1 (.int .i64 n2)).put 2 (.int .i64 n3)).put 3 (.slice A1 L1.length c1))
      have j0 := hVZ.cell 0 _ rfl
      have j1 := hVZ.cell 1 _ rfl
      have j2 := hVZ.cell 2 _ rfl
      have j3 := hVZ.cell 3 _ rfl
      rw [HRE.out]
      refine bodyPost_ret (v := .tuple #[.agg #[.int .i64 n1, .int .i64 n2, .int .i64 n3, .slice A1 L1.length c1], .int .i64 0]) (by simp [results, Try.results27, go_sem, j0, j1, j2, j3]) rfl ⟨_, rfl, Own.rd encI_len ((((HWX1.out.put HVC.out (by decide) 0 (.int .i64 n1)).put (HVC.out.put 0 (.int .i64 n1)) (by decide) 1 (.int .i64 n2)).put ((HVC.out.put 0 (.int .i64 n1)).put 1 (.int .i64 n2)) (by decide) 2 (.int .i64 n3)).put (((HVC.out.put 0 (.int .i64 n1)).put 1 (.int .i64 n2)).put 2 (.int .i64 n3)) (by decide) 3 (.slice A1 L1.length c1)), ((((HBC.out.setCell (Nat.le_refl _) _).setCell (Nat.le_refl _) _).setCell (Nat.le_refl _) _).setCell (Nat.le_refl _) _)⟩

set_option maxHeartbeats 8000000 in
set_option maxRecDepth 100000 in
theorem pgetB (l : List UInt8) (v : Value) (w : World) (hv : RdB w w.heap.size v l) (hl : l.length < 4611686018427387904) :
    Calls Try.prog 22 #[v] w fun e w' => ∃ v1, e = .returned (.tuple #[bval (getBat l).1 v1, .int .i64 (getBat l).2]) ∧ RdC w' w'.heap.size v1 (getBat l).1.chgs ∧ Below w.heap.size w w' := by
  obtain ⟨w1, hw1⟩ : ∃ w1, w1 = w.alloc (.cells #[.int .i64 0, .int .i64 0, .int .i64 0, .slice none 0 0] 43) := ⟨_, rfl⟩
  have hb1 : Below w.heap.size w w1 := by rw [hw1]; exact (Below.refl _ _).alloc (Nat.le_refl _) _
  have hV1 : Whole w1 w.heap.size 43 [.int .i64 0, .int .i64 0, .int .i64 0, .slice none 0 0] := by rw [hw1]; exact Whole.fresh _ _ _
  have hfr := ffrom_any l v w1 (hv.next hb1) hl
  obtain ⟨R, hD⟩ : ∃ R, R = getBat l := ⟨_, rfl⟩
  rw [← hD]
  unfold getBat rdBat at hD
  simp only at hD
  have hN1 := fun W base p h => fnum_any (some l) base p W h
  generalize rdN (some l) = r1 at hN1 hD
  obtain ⟨n1, S1⟩ := r1
  simp only at hN1 hD
  have hN2 := fun W base p h => fnum_any S1 base p W h
  generalize rdN S1 = r2 at hN2 hD
  obtain ⟨n2, S2⟩ := r2
  simp only at hN2 hD
  have hN3 := fun W base p h => fnum_any S2 base p W h
  generalize rdN S2 = r3 at hN3 hD
  obtain ⟨n3, S3⟩ := r3
  simp only at hN3 hD
  have hL1 := fun W base p h => fchgs_rd 4096 (by omega) S3 base p W h
  have hln1 := rdList_len rdChg 4096 S3
  have hel1 := rdChgs_len 4096 S3
  generalize rdList rdChg 4096 S3 = q1 at hL1 hln1 hel1 hD
  obtain ⟨L1, T1⟩ := q1
  simp only at hL1 hln1 hel1 hD
  have hsd := fun (W : World) (v1 : Value) (h1 : RdC W W.heap.size v1 L1) => soundB_any ⟨n1, n2, n3, L1⟩ ⟨by simp only; omega, fun c hc => ⟨by have := (hel1 c hc).1; omega, by have := (hel1 c hc).2; omega⟩⟩ v1 W h1
  have hwh := fun W base p h => fwhole_any T1 base p W h
  obtain ⟨D1, hD1⟩ : ∃ D1, D1 = decide (T1 = some []) := ⟨_, rfl⟩
  obtain ⟨D2, hD2⟩ : ∃ D2, D2 = decide (soundB ⟨n1, n2, n3, L1⟩) := ⟨_, rfl⟩
  rw [← hD1] at hwh
  rw [← hD2] at hsd
  have hyes : D1 = true → D2 = true → R = (⟨n1, n2, n3, L1⟩, 0) := fun h1 h2 => by
    rw [hD, if_pos ⟨of_decide_eq_true (hD1 ▸ h1), of_decide_eq_true (hD2 ▸ h2)⟩]
  have hno : ¬ (D1 = true ∧ D2 = true) → R = (zeroB, 2) := fun h => by
    rw [hD, if_neg fun h' => h ⟨by rw [hD1]; exact decide_eq_true h'.1, by rw [hD2]; exact decide_eq_true h'.2⟩]
  obtain ⟨A0, c0, hvv, _, _⟩ := hv.at
  subst hvv
  simp only [bval] at hsd
  have HYES := Lib.hid hyes
  have HNO := Lib.hid hno
  have HSD := Lib.hid hsd
  have HWH := Lib.hid hwh
  have HFR := Lib.hid hfr
  have HN1 := Lib.hid hN1
  have HN2 := Lib.hid hN2
  have HN3 := Lib.hid hN3
  have HL1 := Lib.hid hL1
  have HW1 := Lib.hid hw1
  have HB1 := Lib.hid hb1
  have HV1 := Lib.hid hV1
  have hwlt : w.heap.size < w1.heap.size := hV1.size
  clear hyes hno hsd hwh hfr hD hD1 hD2 hv hw1 hb1 hV1 hN1 hN2 hN3 hL1 hel1
  go_enter Try.func22, Try.ntmps22
  go_wp2_with fail
  rw [← HW1.out]
  refine HFR.out.mono ?_
  rintro e w2 ⟨p, rfl, hf2, hb2, hp⟩
  obtain ⟨base, hbase⟩ : ∃ base, base = w1.heap.size := ⟨_, rfl⟩
  rw [← hbase] at hf2 hb2 hp
  subst hp
  have HF2 := Lib.hid hf2
  have HO2 := Lib.hid (show Only p w1 w2 from (Only.refl _ _).below (by rw [← hbase]; exact hb2))
  have HBASE := Lib.hid hbase
  clear hf2 hb2 hbase
  go_wp2_with fail
  refine (HN1.out _ _ _ HF2.out).mono ?_
  rintro e w3 ⟨rfl, hf3, ho3⟩
  have HF3 := Lib.hid hf3
  have HO3 := Lib.hid (HO2.out.trans ho3)
  clear hf3 ho3
  go_wp2_with fail
  refine (HN2.out _ _ _ HF3.out).mono ?_
  rintro e w4 ⟨rfl, hf4, ho4⟩
  have HF4 := Lib.hid hf4
  have HO4 := Lib.hid (HO3.out.trans ho4)
  clear hf4 ho4
  go_wp2_with fail
  refine (HN3.out _ _ _ HF4.out).mono ?_
  rintro e w5 ⟨rfl, hf5, ho5⟩
  have HF5 := Lib.hid hf5
  have HO5 := Lib.hid (HO4.out.trans ho5)
  clear hf5 ho5
  go_wp2_with fail
  have hpl1 : p < w5.heap.size := HF5.out.size
  refine (HL1.out _ _ _ HF5.out).mono ?_
  rintro e w6 ⟨A1, c1, rfl, how1, hf6, ho6⟩
  have HF6 := Lib.hid hf6
  have HO6 := Lib.hid (HO5.out.trans ho6)
  have HW1_6 := Lib.hid how1
  clear hf6 ho6 how1
  go_wp2_with fail
  obtain ⟨w7, hw7⟩ : ∃ W, W = w6.alloc (.cells #[.int .i64 n1, .int .i64 n2, .int .i64 n3, .slice A1 L1.length c1] 43) := ⟨_, rfl⟩
  have hba : Below w6.heap.size w6 w7 := by rw [hw7]; exact (Below.refl _ _).alloc (Nat.le_refl _) _
  have hMa : Whole w7 w6.heap.size 43 [.int .i64 n1, .int .i64 n2, .int .i64 n3, .slice A1 L1.length c1] := by rw [hw7]; exact Whole.fresh _ _ _
  rw [← hw7]
  have hbl : Below w1.heap.size w1 w6 := HO6.out.low (by rw [HBASE.out]; exact Nat.le_refl _) (Nat.le_refl _)
  have hVz := HV1.out.below hbl hwlt
  have HVA := Lib.hid (hVz.below hba hVz.size)
  have HBA := Lib.hid (show Below w.heap.size w w7 from (HB1.out.trans (hbl.mono (by omega))).trans (hba.mono (by have := hVz.size; omega)))
  have HWC := Lib.hid (HWH.out _ _ _ (HF6.out.more hba))
  have HWA1 := Lib.hid (HW1_6.out.below hba (Nat.le_refl _))
  obtain ⟨G, hG⟩ : ∃ G, G = w6.heap.size := ⟨_, rfl⟩
  rw [← hG] at hMa ⊢
  have HMA := Lib.hid hMa
  clear hw7 hba hMa hG hbl hVz
  refine HWC.out.mono ?_
  rintro e wb ⟨rfl, rfl⟩
  cases D1 with
  | false =>
    have hr := HNO.out (by simp)
    have HRE := Lib.hid hr; clear hr
    have q0 := HVA.out.cell 0 _ rfl
    have g0 := HVA.out.frozen 0
    have q1 := HVA.out.cell 1 _ rfl
    have g1 := HVA.out.frozen 1
    have q2 := HVA.out.cell 2 _ rfl
    have g2 := HVA.out.frozen 2
    have q3 := HVA.out.cell 3 _ rfl
    have g3 := HVA.out.frozen 3
    go_wp2_with fail
    have hVZ := ((((HVA.out.put 0 (.int .i64 0)).put 1 (.int .i64 0)).put 2 (.int .i64 0)).put 3 (.slice none 0 0))
    have j0 := hVZ.cell 0 _ rfl
    have j1 := hVZ.cell 1 _ rfl
    have j2 := hVZ.cell 2 _ rfl
    have j3 := hVZ.cell 3 _ rfl
    rw [HRE.out]
    refine bodyPost_ret (v := .tuple #[.agg #[.int .i64 0, .int .i64 0, .int .i64 0, .slice none 0 0], .int .i64 2]) (by simp [results, Try.results22, go_sem, j0, j1, j2, j3]) rfl ⟨_, rfl, Rd.nil _ _, ((((HBA.out.setCell (Nat.le_refl _) _).setCell (Nat.le_refl _) _).setCell (Nat.le_refl _) _).setCell (Nat.le_refl _) _)⟩
  | true =>
    have kk0 := HMA.out.cell 0 _ rfl
    have kk1 := HMA.out.cell 1 _ rfl
    have kk2 := HMA.out.cell 2 _ rfl
    have kk3 := HMA.out.cell 3 _ rfl
    have hsc := HSD.out wb _ (Own.rd encC_len HWA1.out)
    have HSC := Lib.hid hsc; clear hsc
    go_wp2_with fail
    refine HSC.out.mono ?_
    rintro e wc ⟨rfl, hbc⟩
    have HVC := Lib.hid (HVA.out.below hbc HVA.out.size)
    have HMC := Lib.hid (HMA.out.below hbc HMA.out.size)
    have HBC := Lib.hid (HBA.out.trans (hbc.mono (by have := HVA.out.size; omega)))
    have HWX1 := Lib.hid (HWA1.out.below hbc (Nat.le_refl _))
    clear hbc kk0 kk1 kk2 kk3
    cases D2 with
    | false =>
      have hr := HNO.out (by simp)
      have HRE := Lib.hid hr; clear hr
      have q0 := HVC.out.cell 0 _ rfl
      have g0 := HVC.out.frozen 0
      have q1 := HVC.out.cell 1 _ rfl
      have g1 := HVC.out.frozen 1
      have q2 := HVC.out.cell 2 _ rfl
      have g2 := HVC.out.frozen 2
      have q3 := HVC.out.cell 3 _ rfl
      have g3 := HVC.out.frozen 3
      go_wp2_with fail
      have hVZ := ((((HVC.out.put 0 (.int .i64 0)).put 1 (.int .i64 0)).put 2 (.int .i64 0)).put 3 (.slice none 0 0))
      have j0 := hVZ.cell 0 _ rfl
      have j1 := hVZ.cell 1 _ rfl
      have j2 := hVZ.cell 2 _ rfl
      have j3 := hVZ.cell 3 _ rfl
      rw [HRE.out]
      refine bodyPost_ret (v := .tuple #[.agg #[.int .i64 0, .int .i64 0, .int .i64 0, .slice none 0 0], .int .i64 2]) (by simp [results, Try.results22, go_sem, j0, j1, j2, j3]) rfl ⟨_, rfl, Rd.nil _ _, ((((HBC.out.setCell (Nat.le_refl _) _).setCell (Nat.le_refl _) _).setCell (Nat.le_refl _) _).setCell (Nat.le_refl _) _)⟩
    | true =>
      have hr := HYES.out (by simp) (by simp)
      have HRE := Lib.hid hr; clear hr
      have kk0 := HMC.out.cell 0 _ rfl
      have kk1 := HMC.out.cell 1 _ rfl
      have kk2 := HMC.out.cell 2 _ rfl
      have kk3 := HMC.out.cell 3 _ rfl
      have q0 := HVC.out.cell 0 _ rfl
      have g0 := HVC.out.frozen 0
      have q1 := HVC.out.cell 1 _ rfl
      have g1 := HVC.out.frozen 1
      have q2 := HVC.out.cell 2 _ rfl
      have g2 := HVC.out.frozen 2
      have q3 := HVC.out.cell 3 _ rfl
      have g3 := HVC.out.frozen 3
      go_wp2_with fail
      have hVZ := ((((HVC.out.put 0 (.int .i64 n1)).put 1 (.int .i64 n2)).put 2 (.int .i64 n3)).put 3 (.slice A1 L1.length c1))
      have j0 := hVZ.cell 0 _ rfl
      have j1 := hVZ.cell 1 _ rfl
      have j2 := hVZ.cell 2 _ rfl
      have j3 := hVZ.cell 3 _ rfl
      rw [HRE.out]
      refine bodyPost_ret (v := .tuple #[.agg #[.int .i64 n1, .int .i64 n2, .int .i64 n3, .slice A1 L1.length c1], .int .i64 0]) (by simp [results, Try.results22, go_sem, j0, j1, j2, j3]) rfl ⟨_, rfl, Own.rd encC_len ((((HWX1.out.put HVC.out (by decide) 0 (.int .i64 n1)).put (HVC.out.put 0 (.int .i64 n1)) (by decide) 1 (.int .i64 n2)).put ((HVC.out.put 0 (.int .i64 n1)).put 1 (.int .i64 n2)) (by decide) 2 (.int .i64 n3)).put (((HVC.out.put 0 (.int .i64 n1)).put 1 (.int .i64 n2)).put 2 (.int .i64 n3)) (by decide) 3 (.slice A1 L1.length c1)), ((((HBC.out.setCell (Nat.le_refl _) _).setCell (Nat.le_refl _) _).setCell (Nat.le_refl _) _).setCell (Nat.le_refl _) _)⟩

set_option maxHeartbeats 8000000 in
set_option maxRecDepth 100000 in
theorem pgetT (l : List UInt8) (v : Value) (w : World) (hv : RdB w w.heap.size v l) (hl : l.length < 4611686018427387904) :
    Calls Try.prog 17 #[v] w fun e w' => ∃ v1 v2, e = .returned (.tuple #[tval (getTxn l).1 v1 v2, .int .i64 (getTxn l).2]) ∧ RdP w' w'.heap.size v1 (getTxn l).1.reads ∧ RdC w' w'.heap.size v2 (getTxn l).1.chgs ∧ Below w.heap.size w w' := by
  obtain ⟨w1, hw1⟩ : ∃ w1, w1 = w.alloc (.cells #[.int .i64 0, .slice none 0 0, .slice none 0 0] 36) := ⟨_, rfl⟩
  have hb1 : Below w.heap.size w w1 := by rw [hw1]; exact (Below.refl _ _).alloc (Nat.le_refl _) _
  have hV1 : Whole w1 w.heap.size 36 [.int .i64 0, .slice none 0 0, .slice none 0 0] := by rw [hw1]; exact Whole.fresh _ _ _
  have hfr := ffrom_any l v w1 (hv.next hb1) hl
  obtain ⟨R, hD⟩ : ∃ R, R = getTxn l := ⟨_, rfl⟩
  rw [← hD]
  unfold getTxn rdTxn at hD
  simp only at hD
  have hN1 := fun W base p h => fnum_any (some l) base p W h
  generalize rdN (some l) = r1 at hN1 hD
  obtain ⟨n1, S1⟩ := r1
  simp only at hN1 hD
  have hL1 := fun W base p h => fspans_rd 24 (by omega) S1 base p W h
  have hln1 := rdList_len rdSpan 24 S1
  have hel1 := rdSpans_len 24 S1
  generalize rdList rdSpan 24 S1 = q1 at hL1 hln1 hel1 hD
  obtain ⟨L1, T1⟩ := q1
  simp only at hL1 hln1 hel1 hD
  have hL2 := fun W base p h => fchgs_rd 24 (by omega) T1 base p W h
  have hln2 := rdList_len rdChg 24 T1
  have hel2 := rdChgs_len 24 T1
  generalize rdList rdChg 24 T1 = q2 at hL2 hln2 hel2 hD
  obtain ⟨L2, T2⟩ := q2
  simp only at hL2 hln2 hel2 hD
  have hsd := fun (W : World) (v1 : Value) (h1 : RdP W W.heap.size v1 L1) (v2 : Value) (h2 : RdC W W.heap.size v2 L2) => soundT_any ⟨n1, L1, L2⟩ ⟨by simp only; omega, fun s hs => by have := hel1 s hs; omega, by simp only; omega, fun c hc => ⟨by have := (hel2 c hc).1; omega, by have := (hel2 c hc).2; omega⟩⟩ v1 v2 W h1 h2
  have hwh := fun W base p h => fwhole_any T2 base p W h
  obtain ⟨D1, hD1⟩ : ∃ D1, D1 = decide (T2 = some []) := ⟨_, rfl⟩
  obtain ⟨D2, hD2⟩ : ∃ D2, D2 = decide (soundT ⟨n1, L1, L2⟩) := ⟨_, rfl⟩
  rw [← hD1] at hwh
  rw [← hD2] at hsd
  have hyes : D1 = true → D2 = true → R = (⟨n1, L1, L2⟩, 0) := fun h1 h2 => by
    rw [hD, if_pos ⟨of_decide_eq_true (hD1 ▸ h1), of_decide_eq_true (hD2 ▸ h2)⟩]
  have hno : ¬ (D1 = true ∧ D2 = true) → R = (zeroT, 2) := fun h => by
    rw [hD, if_neg fun h' => h ⟨by rw [hD1]; exact decide_eq_true h'.1, by rw [hD2]; exact decide_eq_true h'.2⟩]
  obtain ⟨A0, c0, hvv, _, _⟩ := hv.at
  subst hvv
  simp only [tval] at hsd
  have HYES := Lib.hid hyes
  have HNO := Lib.hid hno
  have HSD := Lib.hid hsd
  have HWH := Lib.hid hwh
  have HFR := Lib.hid hfr
  have HN1 := Lib.hid hN1
  have HL1 := Lib.hid hL1
  have HL2 := Lib.hid hL2
  have HW1 := Lib.hid hw1
  have HB1 := Lib.hid hb1
  have HV1 := Lib.hid hV1
  have hwlt : w.heap.size < w1.heap.size := hV1.size
  clear hyes hno hsd hwh hfr hD hD1 hD2 hv hw1 hb1 hV1 hN1 hL1 hel1 hL2 hel2
  go_enter Try.func17, Try.ntmps17
  go_wp2_with fail
  rw [← HW1.out]
  refine HFR.out.mono ?_
  rintro e w2 ⟨p, rfl, hf2, hb2, hp⟩
  obtain ⟨base, hbase⟩ : ∃ base, base = w1.heap.size := ⟨_, rfl⟩
  rw [← hbase] at hf2 hb2 hp
  subst hp
  have HF2 := Lib.hid hf2
  have HO2 := Lib.hid (show Only p w1 w2 from (Only.refl _ _).below (by rw [← hbase]; exact hb2))
  have HBASE := Lib.hid hbase
  clear hf2 hb2 hbase
  go_wp2_with fail
  refine (HN1.out _ _ _ HF2.out).mono ?_
  rintro e w3 ⟨rfl, hf3, ho3⟩
  have HF3 := Lib.hid hf3
  have HO3 := Lib.hid (HO2.out.trans ho3)
  clear hf3 ho3
  go_wp2_with fail
  have hpl1 : p < w3.heap.size := HF3.out.size
  refine (HL1.out _ _ _ HF3.out).mono ?_
  rintro e w4 ⟨A1, c1, rfl, how1, hf4, ho4⟩
  have HF4 := Lib.hid hf4
  have HO4 := Lib.hid (HO3.out.trans ho4)
  have HW1_4 := Lib.hid how1
  clear hf4 ho4 how1
  go_wp2_with fail
  have hpl2 : p < w4.heap.size := HF4.out.size
  refine (HL2.out _ _ _ HF4.out).mono ?_
  rintro e w5 ⟨A2, c2, rfl, how2, hf5, ho5⟩
  have HF5 := Lib.hid hf5
  have HO5 := Lib.hid (HO4.out.trans ho5)
  have HW2_5 := Lib.hid how2
  have HW1_5 := Lib.hid (HW1_4.out.only ho5 hpl1)
  clear hf5 ho5 how2
  go_wp2_with fail
  obtain ⟨w6, hw6⟩ : ∃ W, W = w5.alloc (.cells #[.int .i64 n1, .slice A1 L1.length c1, .slice A2 L2.length c2] 36) := ⟨_, rfl⟩
  have hba : Below w5.heap.size w5 w6 := by rw [hw6]; exact (Below.refl _ _).alloc (Nat.le_refl _) _
  have hMa : Whole w6 w5.heap.size 36 [.int .i64 n1, .slice A1 L1.length c1, .slice A2 L2.length c2] := by rw [hw6]; exact Whole.fresh _ _ _
  rw [← hw6]
  have hbl : Below w1.heap.size w1 w5 := HO5.out.low (by rw [HBASE.out]; exact Nat.le_refl _) (Nat.le_refl _)
  have hVz := HV1.out.below hbl hwlt
  have HVA := Lib.hid (hVz.below hba hVz.size)
  have HBA := Lib.hid (show Below w.heap.size w w6 from (HB1.out.trans (hbl.mono (by omega))).trans (hba.mono (by have := hVz.size; omega)))
  have HWC := Lib.hid (HWH.out _ _ _ (HF5.out.more hba))
  have HWA1 := Lib.hid (HW1_5.out.below hba (Nat.le_refl _))
  have HWA2 := Lib.hid (HW2_5.out.below hba (Nat.le_refl _))
  obtain ⟨G, hG⟩ : ∃ G, G = w5.heap.size := ⟨_, rfl⟩
  rw [← hG] at hMa ⊢
  have HMA := Lib.hid hMa
  clear hw6 hba hMa hG hbl hVz
  refine HWC.out.mono ?_
  rintro e wb ⟨rfl, rfl⟩
  cases D1 with
  | false =>
    have hr := HNO.out (by simp)
    have HRE := Lib.hid hr; clear hr
    have q0 := HVA.out.cell 0 _ rfl
    have g0 := HVA.out.frozen 0
    have q1 := HVA.out.cell 1 _ rfl
    have g1 := HVA.out.frozen 1
    have q2 := HVA.out.cell 2 _ rfl
    have g2 := HVA.out.frozen 2
    go_wp2_with fail
    have hVZ := (((HVA.out.put 0 (.int .i64 0)).put 1 (.slice none 0 0)).put 2 (.slice none 0 0))
    have j0 := hVZ.cell 0 _ rfl
    have j1 := hVZ.cell 1 _ rfl
    have j2 := hVZ.cell 2 _ rfl
    rw [HRE.out]
    refine bodyPost_ret (v := .tuple #[.agg #[.int .i64 0, .slice none 0 0, .slice none 0 0], .int .i64 2]) (by simp [results, Try.results17, go_sem, j0, j1, j2]) rfl ⟨_, _, rfl, Rd.nil _ _, Rd.nil _ _, (((HBA.out.setCell (Nat.le_refl _) _).setCell (Nat.le_refl _) _).setCell (Nat.le_refl _) _)⟩
  | true =>
    have kk0 := HMA.out.cell 0 _ rfl
    have kk1 := HMA.out.cell 1 _ rfl
    have kk2 := HMA.out.cell 2 _ rfl
    have hsc := HSD.out wb _ (Own.rd cellsS_len HWA1.out) _ (Own.rd encC_len HWA2.out)
    have HSC := Lib.hid hsc; clear hsc
    go_wp2_with fail
    refine HSC.out.mono ?_
    rintro e wc ⟨rfl, hbc⟩
    have HVC := Lib.hid (HVA.out.below hbc HVA.out.size)
    have HMC := Lib.hid (HMA.out.below hbc HMA.out.size)
    have HBC := Lib.hid (HBA.out.trans (hbc.mono (by have := HVA.out.size; omega)))
    have HWX1 := Lib.hid (HWA1.out.below hbc (Nat.le_refl _))
    have HWX2 := Lib.hid (HWA2.out.below hbc (Nat.le_refl _))
    clear hbc kk0 kk1 kk2
    cases D2 with
    | false =>
      have hr := HNO.out (by simp)
      have HRE := Lib.hid hr; clear hr
      have q0 := HVC.out.cell 0 _ rfl
      have g0 := HVC.out.frozen 0
      have q1 := HVC.out.cell 1 _ rfl
      have g1 := HVC.out.frozen 1
      have q2 := HVC.out.cell 2 _ rfl
      have g2 := HVC.out.frozen 2
      go_wp2_with fail
      have hVZ := (((HVC.out.put 0 (.int .i64 0)).put 1 (.slice none 0 0)).put 2 (.slice none 0 0))
      have j0 := hVZ.cell 0 _ rfl
      have j1 := hVZ.cell 1 _ rfl
      have j2 := hVZ.cell 2 _ rfl
      rw [HRE.out]
      refine bodyPost_ret (v := .tuple #[.agg #[.int .i64 0, .slice none 0 0, .slice none 0 0], .int .i64 2]) (by simp [results, Try.results17, go_sem, j0, j1, j2]) rfl ⟨_, _, rfl, Rd.nil _ _, Rd.nil _ _, (((HBC.out.setCell (Nat.le_refl _) _).setCell (Nat.le_refl _) _).setCell (Nat.le_refl _) _)⟩
    | true =>
      have hr := HYES.out (by simp) (by simp)
      have HRE := Lib.hid hr; clear hr
      have kk0 := HMC.out.cell 0 _ rfl
      have kk1 := HMC.out.cell 1 _ rfl
      have kk2 := HMC.out.cell 2 _ rfl
      have q0 := HVC.out.cell 0 _ rfl
      have g0 := HVC.out.frozen 0
      have q1 := HVC.out.cell 1 _ rfl
      have g1 := HVC.out.frozen 1
      have q2 := HVC.out.cell 2 _ rfl
      have g2 := HVC.out.frozen 2
      go_wp2_with fail
      have hVZ := (((HVC.out.put 0 (.int .i64 n1)).put 1 (.slice A1 L1.length c1)).put 2 (.slice A2 L2.length c2))
      have j0 := hVZ.cell 0 _ rfl
      have j1 := hVZ.cell 1 _ rfl
      have j2 := hVZ.cell 2 _ rfl
      rw [HRE.out]
      refine bodyPost_ret (v := .tuple #[.agg #[.int .i64 n1, .slice A1 L1.length c1, .slice A2 L2.length c2], .int .i64 0]) (by simp [results, Try.results17, go_sem, j0, j1, j2]) rfl ⟨_, _, rfl, Own.rd cellsS_len (((HWX1.out.put HVC.out (by decide) 0 (.int .i64 n1)).put (HVC.out.put 0 (.int .i64 n1)) (by decide) 1 (.slice A1 L1.length c1)).put ((HVC.out.put 0 (.int .i64 n1)).put 1 (.slice A1 L1.length c1)) (by decide) 2 (.slice A2 L2.length c2)), Own.rd encC_len (((HWX2.out.put HVC.out (by decide) 0 (.int .i64 n1)).put (HVC.out.put 0 (.int .i64 n1)) (by decide) 1 (.slice A1 L1.length c1)).put ((HVC.out.put 0 (.int .i64 n1)).put 1 (.slice A1 L1.length c1)) (by decide) 2 (.slice A2 L2.length c2)), (((HBC.out.setCell (Nat.le_refl _) _).setCell (Nat.le_refl _) _).setCell (Nat.le_refl _) _)⟩
end Go.Proofs.Ytiijcikdlemndaa

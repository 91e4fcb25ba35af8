/- The reference's tape: Add, Sync. -/
import Derived.Test.YthkhcobdcmclfaaRT
namespace Go.Proofs.Ythkhcobdcmclfaa
open Go.RowKit

set_option maxHeartbeats 1000000 in
set_option maxRecDepth 100000 in
theorem radd_any (r : Nat) (t : Tp) (v : Value) (b : List UInt8) (w : World) (h : RefAt w r t) (hv : ∀ w1, Mv (fun i => i = r) w w1 → RdB w1 w1.heap.size v b) (hbl : b.length ≤ 140737488351232) :
    Calls Try.prog 10 #[.pointer (some ⟨r, 0, none⟩), v] w fun e w' => e = .returned (.int .i64 (t.add b).1) ∧ Rent w w' r (t.add b).2 := by
  have H0 := Lib.hid h
  obtain ⟨sure, loose, room, left, down⟩ := t
  obtain ⟨A, c, rfl, _, _⟩ := (hv w (Mv.refl _ _)).at
  have HV := Lib.hid hv; clear hv
  obtain ⟨hb, ⟨k1, k2, k3⟩, hl⟩ := h
  simp only at hb k1 k2 k3 hl
  obtain ⟨L, hL⟩ : ∃ L, L = sure.length + loose.length + b.length := ⟨_, rfl⟩
  have hbg := rwrite_any r ⟨sure, loose, room, left, down⟩ L w.drew ⟨H0.out.1.drew, H0.out.2⟩
  have hca := Tp.write_cases ⟨sure, loose, room, left, down⟩ L
  have hkp := Tp.write_keeps ⟨sure, loose, room, left, down⟩ L
  have had : Tp.add ⟨sure, loose, room, left, down⟩ b = if (Tp.write ⟨sure, loose, room, left, down⟩ L).1 = 0 then (0, { (Tp.write ⟨sure, loose, room, left, down⟩ L).2 with loose := loose ++ b }) else Tp.write ⟨sure, loose, room, left, down⟩ L := by
    rw [hL]; rfl
  rw [had]; clear had
  generalize Tp.write ⟨sure, loose, room, left, down⟩ L = q at hbg hca hkp ⊢
  obtain ⟨e0, t1⟩ := q
  obtain ⟨sure1, loose1, room1, left1, down1⟩ := t1
  simp only at hbg hca hkp ⊢
  obtain ⟨rfl, rfl, rfl⟩ := hkp
  have HG := Lib.hid hbg; clear hbg
  have c0 := hb.cell 0 _ rfl
  have c1 := hb.cell 1 _ rfl
  clear hb
  obtain ⟨S1, hS1⟩ : ∃ S1, S1 = strB sure1 := ⟨_, rfl⟩
  obtain ⟨L1, hL1⟩ : ∃ L1, L1 = strB loose1 := ⟨_, rfl⟩
  rw [← hS1] at c0
  rw [← hL1] at c1
  have z0 : S1.size = sure1.length := by rw [hS1, strB_size]
  have z1 : L1.size = loose1.length := by rw [hL1, strB_size]
  have hw1 : IntKind.i64.wrap ((sure1.length : Int) + (loose1.length : Int)) = ((sure1.length + loose1.length : Nat) : Int) := by rw [wrap_small _ (by omega) (by omega)]; omega
  have hw2 : IntKind.i64.wrap (((sure1.length + loose1.length : Nat) : Int) + (b.length : Int)) = (L : Int) := by rw [wrap_small _ (by omega) (by omega)]; omega
  have hcat : ¬ (9223372036854775807 < L1.size + (strB b).size) := by rw [z1, strB_size]; omega
  have HCAT := Lib.hid hcat; clear hcat
  have HL := Lib.hid hL; clear hL
  generalize sure1.length = n at hw1 hw2 z0 k3
  generalize loose1.length = m at hw1 hw2 z1 k3
  obtain ⟨nm, hnm⟩ : ∃ nm, nm = n + m := ⟨_, rfl⟩
  rw [← hnm] at hw1 hw2
  have HS1 := Lib.hid hS1; clear hS1
  have HL1 := Lib.hid hL1; clear hL1
  clear hnm k3
  rcases hca with ⟨rfl, hroom⟩ | ⟨hne, hwh⟩
  · have HROOM := Lib.hid hroom; clear hroom
    go_enter Try.func10, Try.ntmps10
    go_wp2_with fail
    go_still_tail 15, (by kernel_rfl)
    change wpList _ _ _ _ _ w.drew
    have hmd : Mv (fun i => i = r) w w.drew := (Mv.refl _ w).drew
    clear c0 c1 H0
    generalize w.drew = wd at HG hmd ⊢
    go_wp2_with fail
    refine HG.out.mono ?_
    rintro e w1 ⟨rfl, hwent⟩
    have hm1 := hmd.trans hwent.moved (fun _ _ h => h)
    have hrd := HV.out w1 hm1
    have hcv := run_convB hrd
    have hcv2 := run_convB (w := w1.drew) (hrd.drewN 1)
    have HM1 := Lib.hid hm1
    obtain ⟨hb1, hk1, hl1⟩ := hwent.now
    simp only at hb1 hk1 hl1
    have HB1 := Lib.hid hb1; clear hb1
    have HK1 := Lib.hid hk1; clear hk1 hwent hm1 hrd hmd
    rw [← HL1.out, ← HS1.out] at HB1
    have p1 := HB1.out.cell 1 _ rfl
    clear hw1 hw2 z0 z1
    have hcat := HCAT.out
    go_wp2_with fail
    go_still_tail 9, (by kernel_rfl)
    change wpList _ _ _ _ _ w1.drew
    have hm2 : Mv (fun i => i = r) w w1.drew := HM1.out.drew
    have hb2 := HB1.out.drew
    clear p1 HM1 HB1 hcv hcv2 hcat
    generalize w1.drew = w2 at hm2 hb2 ⊢
    have p1 := hb2.cell 1 _ rfl
    have f1 := hb2.frozen 1
    have hlt2 := hb2.size
    have HM2 := Lib.hid hm2; clear hm2
    have HB2 := Lib.hid hb2; clear hb2
    go_wp2_with fail
    go_ret
    refine ⟨rfl, ⟨?_, ?_, hl1⟩, HM2.out.setCell (p := ⟨r, 1, none⟩) (fun _ => rfl) _⟩
    · have := HB2.out.put 1 (.string (L1 ++ strB b))
      simp only [List.set] at this
      try simp only
      rw [← strB_append, ← HL1.out, ← HS1.out]
      exact this
    · obtain ⟨m1, m2, m3⟩ := HK1.out
      have h1 := HL.out
      have h2 := HROOM.out
      refine ⟨m1, m2, ?_⟩
      show ((sure1.length + (loose1 ++ b).length : Nat) : Int) ≤ room1
      rw [List.length_append]
      try simp only at h2
      omega
  · rw [if_neg hne]
    go_enter Try.func10, Try.ntmps10
    go_wp2_with fail
    go_still_tail 15, (by kernel_rfl)
    change wpList _ _ _ _ _ w.drew
    have hmd : Mv (fun i => i = r) w w.drew := (Mv.refl _ w).drew
    clear c0 c1 H0
    generalize w.drew = wd at HG hmd ⊢
    go_wp2_with fail
    refine HG.out.mono ?_
    rintro e w1 ⟨rfl, hwent⟩
    have hm1 := hmd.trans hwent.moved (fun _ _ h => h)
    have HN := Lib.hid hwent.now
    have HM1 := Lib.hid hm1
    clear hwent hm1 hmd hw1 hw2
    go_wp2_with fail
    go_ret
    exact ⟨rfl, HN.out, HM1.out⟩

set_option maxHeartbeats 1000000 in
set_option maxRecDepth 100000 in
theorem rsync_any (r : Nat) (t : Tp) (w : World) (h : RefAt w r t) :
    Calls Try.prog 12 #[.pointer (some ⟨r, 0, none⟩)] w fun e w' => e = .returned (.int .i64 t.sync.1) ∧ Rent w w' r t.sync.2 := by
  have H0 := Lib.hid h
  obtain ⟨sure, loose, room, left, down⟩ := t
  obtain ⟨hb, ⟨k1, k2, k3⟩, hl⟩ := h
  simp only at hb k1 k2 k3 hl
  have hbg := rwrite_any r ⟨sure, loose, room, left, down⟩ 0 w H0.out
  have hca := Tp.write_cases ⟨sure, loose, room, left, down⟩ 0
  have hkp := Tp.write_keeps ⟨sure, loose, room, left, down⟩ 0
  have had : Tp.sync ⟨sure, loose, room, left, down⟩ = if (Tp.write ⟨sure, loose, room, left, down⟩ 0).1 = 0 then (0, { (Tp.write ⟨sure, loose, room, left, down⟩ 0).2 with sure := sure ++ loose, loose := [] }) else Tp.write ⟨sure, loose, room, left, down⟩ 0 := rfl
  rw [had]; clear had
  generalize Tp.write ⟨sure, loose, room, left, down⟩ 0 = q at hbg hca hkp ⊢
  obtain ⟨e0, t1⟩ := q
  obtain ⟨sure1, loose1, room1, left1, down1⟩ := t1
  simp only at hbg hca hkp ⊢
  obtain ⟨rfl, rfl, rfl⟩ := hkp
  rw [show ((0 : Nat) : Int) = 0 from rfl] at hbg
  have HG := Lib.hid hbg; clear hbg hb
  have hcat : ¬ (9223372036854775807 < (strB sure1).size + (strB loose1).size) := by rw [strB_size, strB_size]; omega
  obtain ⟨S1, hS1⟩ : ∃ S1, S1 = strB sure1 := ⟨_, rfl⟩
  obtain ⟨L1, hL1⟩ : ∃ L1, L1 = strB loose1 := ⟨_, rfl⟩
  rw [← hL1, ← hS1] at hcat
  have HCAT := Lib.hid hcat; clear hcat
  have HS1 := Lib.hid hS1; clear hS1
  have HL1 := Lib.hid hL1; clear hL1
  rcases hca with ⟨rfl, hroom⟩ | ⟨hne, hwh⟩
  · clear hroom H0
    go_enter Try.func12, Try.ntmps12
    go_wp2_with fail
    refine HG.out.mono ?_
    rintro e w1 ⟨rfl, hwent⟩
    have HM1 := Lib.hid hwent.moved
    obtain ⟨hb1, hk1, hl1⟩ := hwent.now
    simp only at hb1 hk1 hl1
    have HB1 := Lib.hid hb1; clear hb1
    have HK1 := Lib.hid hk1; clear hk1 hwent
    rw [← HL1.out, ← HS1.out] at HB1
    have p0 := HB1.out.cell 0 _ rfl
    have p1 := HB1.out.cell 1 _ rfl
    have hcat := HCAT.out
    go_wp2_with fail
    go_still_tail 11, (by kernel_rfl)
    change wpList _ _ _ _ _ w1.drew
    have hm2 : Mv (fun i => i = r) w w1.drew := HM1.out.drew
    have hb2 := HB1.out.drew
    clear p0 p1 HM1 HB1 hcat
    generalize w1.drew = w2 at hm2 hb2 ⊢
    have p0 := hb2.cell 0 _ rfl
    have p1 := hb2.cell 1 _ rfl
    have f0 := hb2.frozen 0
    have f1 := hb2.frozen 1
    have hlt2 := hb2.size
    have HM2 := Lib.hid hm2; clear hm2
    have HB2 := Lib.hid hb2; clear hb2
    go_wp2_with fail
    go_ret
    refine ⟨rfl, ⟨?_, ?_, hl1⟩, (HM2.out.setCell (p := ⟨r, 0, none⟩) (fun _ => rfl) _).setCell (p := ⟨r, 1, none⟩) (fun _ => rfl) _⟩
    · have := (HB2.out.put 0 (.string (S1 ++ L1))).put 1 (.string ⟨#[]⟩)
      simp only [List.set] at this
      try simp only
      rw [← strB_append, ← HL1.out, ← HS1.out]
      exact this
    · obtain ⟨m1, m2, m3⟩ := HK1.out
      refine ⟨m1, m2, ?_⟩
      show (((sure1 ++ loose1).length + 0 : Nat) : Int) ≤ room1
      rw [List.length_append]
      try simp only at m3
      omega
  · rw [if_neg hne]
    go_enter Try.func12, Try.ntmps12
    go_wp2_with fail
    refine HG.out.mono ?_
    rintro e w1 ⟨rfl, hwent⟩
    have HW := Lib.hid hwent; clear hwent
    go_wp2_with fail
    go_ret
    exact ⟨rfl, HW.out⟩
end Go.Proofs.Ythkhcobdcmclfaa

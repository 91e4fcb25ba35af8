/- ChangeTwice is true for every input, and leaves its arguments as they were. No condition. -/
import Derived.Test.YtdkdolcocblhkaaSameM
import Derived.Test.YtdkdolcocblhkaaLeastR
import Derived.Test.YtdkdolcocblhkaaShut
namespace Go.Proofs.Ytdkdolcocblhkaa
open Go.RowKit
attribute [local go_sem] less_eq same_eq le_eq ge_eq gt_eq

set_option maxHeartbeats 8000000 in
set_option maxRecDepth 100000 in
theorem changeTwice_walk (l : List (K × K)) (cs : List Chg) (hs : ∀ p ∈ l, p.1.size < 4611686018427387904 ∧ p.2.size < 4611686018427387904) (hcs : ∀ c ∈ cs, smallC c) (v vc : Value) (w : World) (hv : RdP w w.heap.size v l) (hvc : RdC w w.heap.size vc cs) (hl : l.length ≤ 7036874410000) (hlc : cs.length < 4611686018427387904) :
    Calls Try.prog 11 #[v, vc] w fun e w' => e = .returned (.bool true) ∧ Below w.heap.size w w' := by
  obtain ⟨A, c, rfl, hcc, -⟩ := hvc.at
  have hhs : ∀ c ∈ cs.take 60, smallC c := fun c h => hcs c (List.mem_of_mem_take h)
  have hll : (cs.take 60).length ≤ 60 := by simp; omega
  have hv2 : RdC w w.heap.size (.slice A (if 60 < cs.length then 60 else cs.length) c) (cs.take 60) := by
    by_cases h : 60 < cs.length
    · rw [if_pos h]; exact hvc.take 60 (by omega)
    · rw [if_neg h]; have e : cs.take 60 = cs := List.take_of_length_le (by omega); rw [e]; exact hvc
  obtain ⟨L, hL⟩ : ∃ L, L = cs.take 60 := ⟨_, rfl⟩
  rw [← hL] at hhs hll hv2
  obtain ⟨n, hn⟩ : ∃ n, n = cs.length := ⟨_, rfl⟩
  rw [← hn] at hv2 hlc hcc ⊢
  clear hL hn hvc hcs cs
  have HB0 := Lib.hid (Below.refl w.heap.size w)
  have HP0 := Lib.hid hv; clear hv
  have hlm := leastP_len L
  by_cases h0 : applyErr l L = 0
  · obtain ⟨ha, hsd⟩ := applyErr_zero.1 h0
    have hsd2 := sound_apply hsd ha
    have hXl := applyP_length l L
    have h1 := fun W h1 h2 => papply_rd l L hs hhs v (.slice A (if 60 < n then 60 else n) c) W h1 h2 (by omega)
    have h2 := fun vp W h1 h2 => papply_rd (applyP l L) L (small_sound hsd2) hhs vp (.slice A (if 60 < n then 60 else n) c) W h1 h2 (by omega)
    have h3 := fun W h2 => papply_rd [] L small_nil hhs (.slice none 0 0) (.slice A (if 60 < n then 60 else n) c) W (Rd.nil _ _) h2 (by simp; omega)
    have h4 := fun W h => pleast_rd L hhs (.slice A (if 60 < n then 60 else n) c) W h (by omega)
    rw [applyErr_good ha hsd, applyRes_good ha hsd] at h1
    rw [applyErr_good ha hsd2, applyRes_good ha hsd2, apply_again (soundP_spec hsd).1] at h2
    rw [applyErr_good ha sound_nil, applyRes_good ha sound_nil] at h3
    rw [leastRes, if_pos ha, ha] at h4
    have hZl := applyP_length [] L
    have hRL : (leastP L).length = (goneL L).length + (applyP [] L).length := by simp [leastP]
    have hgk : ∀ i (h : i < (leastP L).length), i < (goneL L).length → (leastP L)[i].kind ≠ 1 := fun i h h2 => least_low (goneL L) (applyP [] L) i h h2
    have hpk : ∀ i (h : i < (leastP L).length), (goneL L).length ≤ i → ∃ h2 : i - (goneL L).length < (applyP [] L).length, (leastP L)[i] = toPut (applyP [] L)[i - (goneL L).length] := fun i h h2 => least_high (goneL L) (applyP [] L) i h h2
    generalize applyP l L = X at h1 h2 hXl
    generalize applyP [] L = Z at h3 hZl hRL hpk
    generalize leastP L = R at h4 hRL hgk hpk hlm
    generalize (goneL L).length = gl at hRL hgk hpk
    have HRL := Lib.hid hRL; clear hRL
    have HGK := Lib.hid hgk; clear hgk
    have HPK := Lib.hid hpk; clear hpk
    simp only [List.length_nil, Nat.zero_add] at hZl
    clear h0 ha hsd hsd2 hs hhs
    by_cases hcap : 60 < n
    · rw [if_pos hcap] at hv2
      have HV0 := Lib.hid hv2; clear hv2
      have H1 := Lib.hid h1; clear h1
      have H2 := Lib.hid h2; clear h2
      have H3 := Lib.hid h3; clear h3
      have H4 := Lib.hid h4; clear h4
      simp only [if_pos hcap] at H1 H2 H3 H4
      go_enter Try.func11, Try.ntmps11
      go_wp2_with fail
      refine (H1.out _ HP0.out HV0.out).mono ?_
      rintro e w1 ⟨A1, c1, rfl, hr, hb⟩
      have HV1 := Lib.hid (HV0.out.next hb)
      have HX1 := Lib.hid hr; clear hr
      have HB1 := Lib.hid (HB0.out.trans (hb.mono HB0.out.size)); clear hb
      go_wp2_with fail
      refine (H2.out _ _ HX1.out HV1.out).mono ?_
      rintro e w2 ⟨A2, c2, rfl, hr, hb⟩
      have HV2 := Lib.hid (HV1.out.next hb)
      have HX2 := Lib.hid (HX1.out.next hb)
      have HY2 := Lib.hid hr; clear hr
      have HB2 := Lib.hid (HB1.out.trans (hb.mono HB1.out.size)); clear hb
      go_wp2_with fail
      refine (H3.out _ HV2.out).mono ?_
      rintro e w3 ⟨A3, c3, rfl, hr, hb⟩
      have HV3 := Lib.hid (HV2.out.next hb)
      have HX3 := Lib.hid (HX2.out.next hb)
      have HY3 := Lib.hid (HY2.out.next hb)
      have HZ3 := Lib.hid hr; clear hr
      have HB3 := Lib.hid (HB2.out.trans (hb.mono HB2.out.size)); clear hb
      go_wp2_with fail
      refine (H4.out _ HV3.out).mono ?_
      rintro e w4 ⟨A4, c4, rfl, hr, hb⟩
      have HX4 := Lib.hid (HX3.out.next hb)
      have HY4 := Lib.hid (HY3.out.next hb)
      have HZ4 := Lib.hid (HZ3.out.next hb)
      have HR4 := Lib.hid hr; clear hr
      have HB4 := Lib.hid (HB3.out.trans (hb.mono HB3.out.size)); clear hb
      go_wp2_with fail
      refine (awake_any _).mono ?_
      rintro e w5 ⟨rfl, hb⟩
      have HX5 := Lib.hid (HX4.out.next hb)
      have HY5 := Lib.hid (HY4.out.next hb)
      have HZ5 := Lib.hid (HZ4.out.next hb)
      have HR5 := Lib.hid (HR4.out.next hb)
      have HB5 := Lib.hid (HB4.out.trans (hb.mono HB4.out.size)); clear hb
      have hcr : ∀ i (h : i < R.length), ∃ b o, A4 = some ⟨b, o, none⟩ ∧ ∀ W, Below w5.heap.size w5 W → W.cell? ⟨b, o + i * 3, none⟩ = some (.int .i64 R[i].kind) ∧ W.cell? ⟨b, o + i * 3 + 1, none⟩ = some (.string R[i].key) ∧ W.cell? ⟨b, o + i * 3 + 2, none⟩ = some (.string R[i].val) := fun i h => by
        obtain ⟨A, c, hA, hc, hi⟩ := RdC.at HR5.out
        injection hA with hA1 hA2 hA3
        obtain ⟨b, o, hA, hbB, k0, k1, k2⟩ := hi i h
        exact ⟨b, o, hA1.trans hA, fun W hW => ⟨(hW.cell (p := ⟨b, _, none⟩) hbB).trans k0, (hW.cell (p := ⟨b, _, none⟩) hbB).trans k1, (hW.cell (p := ⟨b, _, none⟩) hbB).trans k2⟩⟩
      have hcz : ∀ i (h : i < Z.length), ∃ b o, A3 = some ⟨b, o, none⟩ ∧ ∀ W, Below w5.heap.size w5 W → W.cell? ⟨b, o + i * 2, none⟩ = some (.string Z[i].1) ∧ W.cell? ⟨b, o + i * 2 + 1, none⟩ = some (.string Z[i].2) := fun i h => by
        obtain ⟨A, c, hA, hc, hi⟩ := RdP.at HZ5.out
        injection hA with hA1 hA2 hA3
        obtain ⟨b, o, hA, hbB, k0, k1⟩ := hi i h
        exact ⟨b, o, hA1.trans hA, fun W hW => ⟨(hW.cell (p := ⟨b, _, none⟩) hbB).trans k0, (hW.cell (p := ⟨b, _, none⟩) hbB).trans k1⟩⟩
      have hcapR : R.length ≤ c4 := by
        obtain ⟨A, c, hA, hc, _⟩ := RdC.at HR5.out
        injection hA with hA1 hA2 hA3
        rw [hA3]; exact hc
      have hcapZ : Z.length ≤ c3 := by
        obtain ⟨A, c, hA, hc, _⟩ := RdP.at HZ5.out
        injection hA with hA1 hA2 hA3
        rw [hA3]; exact hc
      have HCR := Lib.hid hcr; clear hcr
      have HCZ := Lib.hid hcz; clear hcz
      have HB50 := Lib.hid (Below.refl w5.heap.size w5)
      go_wp2_with fail
      go_loopw [13, 14] (fun pv iv wr => ∃ i P : Nat, i ≤ R.length ∧ iv = .int .i64 i ∧ pv = .int .i64 P ∧ Below w5.heap.size w5 wr ∧ Hid (P = i - gl)) (fun _ iv _ => R.length - (intOf iv).toNat)
      case atStart => exact ⟨0, 0, Nat.zero_le _, rfl, rfl, HB50.out, Lib.hid (by omega)⟩
      case round =>
        obtain ⟨i, P, hil, rfl, rfl, hbw, HSM⟩ := hrel
        have HBW := Lib.hid hbw; clear hbw
        by_cases hlt : i < R.length
        · obtain ⟨b, o, rfl, hcell⟩ := HCR.out i hlt
          by_cases hgl : i < gl
          · have hkd := HGK.out i hlt hgl
            have HP2 := Lib.hid (show P = i + 1 - gl by rw [HSM.out]; omega)
            generalize R[i] = y at hcell hkd
            obtain ⟨k0, k1, k2⟩ := hcell wr HBW.out
            clear hcell
            obtain ⟨ky, xy, yy⟩ := y
            simp only at k0 k1 k2 hkd
            go_wp2_with fail
            go_roundw
            case rel => exact ⟨i + 1, P, by omega, by go_num, rfl, HBW.out, HP2⟩
            case measure => simp [intOf]; omega
          · obtain ⟨hpl, hpe⟩ := HPK.out i hlt (by omega)
            rw [← HSM.out] at hpl
            obtain ⟨b2, o2, rfl, hcell2⟩ := HCZ.out P hpl
            have hpe2 : R[i] = toPut Z[P] := by rw [hpe]; congr 1; simp only [HSM.out]
            rw [hpe2] at hcell
            have HP2 := Lib.hid (show P + 1 = i + 1 - gl by rw [HSM.out]; omega)
            generalize Z[P] = y at hcell hcell2
            clear hpe hpe2
            obtain ⟨xy, yy⟩ := y
            unfold toPut at hcell
            simp only at hcell hcell2
            obtain ⟨k0, _, _⟩ := hcell wr HBW.out
            have HBD := Lib.hid HBW.out.drew
            have HC := Lib.hid (fun W (hW : Below wr.drew.heap.size wr.drew W) => hcell W (HBD.out.trans (hW.mono HBD.out.size)))
            have HC2 := Lib.hid (fun W (hW : Below wr.drew.heap.size wr.drew W) => hcell2 W (HBD.out.trans (hW.mono HBD.out.size)))
            clear hcell hcell2
            have hi1 : (i : Int) < (R.length : Int) := by omega
            have hi0 : (0 : Int) ≤ (i : Int) := by omega
            have hp1 : (P : Int) < (Z.length : Int) := by omega
            have hp0 : (0 : Int) ≤ (P : Int) := by omega
            have hp2 : ¬ ((Z.length : Int) ≤ (P : Int)) := by omega
            have hp3 : ¬ (Z.length ≤ P) := by omega
            have HN := Lib.hid (show ∀ W : World, (binOp .neq 57 (.agg #[.string xy, .string yy]) (.agg #[.string xy, .string yy])).run Try.prog W = .ok (.bool false) W from fun W => by rw [neq_pair]; simp)
            go_wp2_with fail
            clear k0
            refine wp_region_planB [(true, 0), (true, 1), (true, 2), (true, 3), (true, 4), (true, 5), (true, 6), (true, 7), (true, 8), (true, 9), (true, 10), (true, 11), (true, 12), (true, 13), (true, 14), (true, 15), (true, 16), (true, 17), (true, 18), (true, 19), (true, 20), (true, 21)] (by kernel_rfl) (by kernel_rfl) (fun _ _ d _ _ h => by cases d <;> exact h) ?_
            repeat (refine PlanB.take (v := ?_) rfl rfl ?_ ?_; rotate_left; (focus (intro W hW; obtain ⟨k0, k1, k2⟩ := HC.out W hW; obtain ⟨j0, j1⟩ := HC2.out W hW; have kn := HN.out W; have kg := pair_guard; go_simp; (try with_reducible rfl); done)); (try simp only [Act.put, List.setIfInBounds_toArray, List.set_cons_zero, List.set_cons_succ]))
            simp only [PlanB]
            go_wp2_with fail
            go_roundw
            case rel => exact ⟨i + 1, P + 1, by omega, by go_num, by go_num, HBD.out, HP2⟩
            case measure => simp [intOf]; omega
        · have he : P = Z.length := by rw [HSM.out]; have := HRL.out; omega
          subst he
          have hpt := fun W (hW : Below w5.heap.size w5 W) => pairs_true X X rfl _ _ W (HX5.out.next hW) (HY5.out.next hW) (by omega)
          have HPT := Lib.hid hpt; clear hpt
          go_wp2_with fail
          refine (HPT.out _ HBW.out).mono ?_
          rintro e w7 ⟨rfl, hb7⟩
          have HB7 := Lib.hid ((HB5.out.trans (HBW.out.mono HB5.out.size)).trans (hb7.mono (Nat.le_trans HB5.out.size HBW.out.size))); clear hb7
          go_wp2_with fail
          go_ret
          exact ⟨rfl, HB7.out⟩
    · rw [if_neg hcap] at hv2
      have HV0 := Lib.hid hv2; clear hv2
      have H1 := Lib.hid h1; clear h1
      have H2 := Lib.hid h2; clear h2
      have H3 := Lib.hid h3; clear h3
      have H4 := Lib.hid h4; clear h4
      simp only [if_neg hcap] at H1 H2 H3 H4
      go_enter Try.func11, Try.ntmps11
      go_wp2_with fail
      refine (H1.out _ HP0.out HV0.out).mono ?_
      rintro e w1 ⟨A1, c1, rfl, hr, hb⟩
      have HV1 := Lib.hid (HV0.out.next hb)
      have HX1 := Lib.hid hr; clear hr
      have HB1 := Lib.hid (HB0.out.trans (hb.mono HB0.out.size)); clear hb
      go_wp2_with fail
      refine (H2.out _ _ HX1.out HV1.out).mono ?_
      rintro e w2 ⟨A2, c2, rfl, hr, hb⟩
      have HV2 := Lib.hid (HV1.out.next hb)
      have HX2 := Lib.hid (HX1.out.next hb)
      have HY2 := Lib.hid hr; clear hr
      have HB2 := Lib.hid (HB1.out.trans (hb.mono HB1.out.size)); clear hb
      go_wp2_with fail
      refine (H3.out _ HV2.out).mono ?_
      rintro e w3 ⟨A3, c3, rfl, hr, hb⟩
      have HV3 := Lib.hid (HV2.out.next hb)
      have HX3 := Lib.hid (HX2.out.next hb)
      have HY3 := Lib.hid (HY2.out.next hb)
      have HZ3 := Lib.hid hr; clear hr
      have HB3 := Lib.hid (HB2.out.trans (hb.mono HB2.out.size)); clear hb
      go_wp2_with fail
      refine (H4.out _ HV3.out).mono ?_
      rintro e w4 ⟨A4, c4, rfl, hr, hb⟩
      have HX4 := Lib.hid (HX3.out.next hb)
      have HY4 := Lib.hid (HY3.out.next hb)
      have HZ4 := Lib.hid (HZ3.out.next hb)
      have HR4 := Lib.hid hr; clear hr
      have HB4 := Lib.hid (HB3.out.trans (hb.mono HB3.out.size)); clear hb
      go_wp2_with fail
      refine (awake_any _).mono ?_
      rintro e w5 ⟨rfl, hb⟩
      have HX5 := Lib.hid (HX4.out.next hb)
      have HY5 := Lib.hid (HY4.out.next hb)
      have HZ5 := Lib.hid (HZ4.out.next hb)
      have HR5 := Lib.hid (HR4.out.next hb)
      have HB5 := Lib.hid (HB4.out.trans (hb.mono HB4.out.size)); clear hb
      have hcr : ∀ i (h : i < R.length), ∃ b o, A4 = some ⟨b, o, none⟩ ∧ ∀ W, Below w5.heap.size w5 W → W.cell? ⟨b, o + i * 3, none⟩ = some (.int .i64 R[i].kind) ∧ W.cell? ⟨b, o + i * 3 + 1, none⟩ = some (.string R[i].key) ∧ W.cell? ⟨b, o + i * 3 + 2, none⟩ = some (.string R[i].val) := fun i h => by
        obtain ⟨A, c, hA, hc, hi⟩ := RdC.at HR5.out
        injection hA with hA1 hA2 hA3
        obtain ⟨b, o, hA, hbB, k0, k1, k2⟩ := hi i h
        exact ⟨b, o, hA1.trans hA, fun W hW => ⟨(hW.cell (p := ⟨b, _, none⟩) hbB).trans k0, (hW.cell (p := ⟨b, _, none⟩) hbB).trans k1, (hW.cell (p := ⟨b, _, none⟩) hbB).trans k2⟩⟩
      have hcz : ∀ i (h : i < Z.length), ∃ b o, A3 = some ⟨b, o, none⟩ ∧ ∀ W, Below w5.heap.size w5 W → W.cell? ⟨b, o + i * 2, none⟩ = some (.string Z[i].1) ∧ W.cell? ⟨b, o + i * 2 + 1, none⟩ = some (.string Z[i].2) := fun i h => by
        obtain ⟨A, c, hA, hc, hi⟩ := RdP.at HZ5.out
        injection hA with hA1 hA2 hA3
        obtain ⟨b, o, hA, hbB, k0, k1⟩ := hi i h
        exact ⟨b, o, hA1.trans hA, fun W hW => ⟨(hW.cell (p := ⟨b, _, none⟩) hbB).trans k0, (hW.cell (p := ⟨b, _, none⟩) hbB).trans k1⟩⟩
      have hcapR : R.length ≤ c4 := by
        obtain ⟨A, c, hA, hc, _⟩ := RdC.at HR5.out
        injection hA with hA1 hA2 hA3
        rw [hA3]; exact hc
      have hcapZ : Z.length ≤ c3 := by
        obtain ⟨A, c, hA, hc, _⟩ := RdP.at HZ5.out
        injection hA with hA1 hA2 hA3
        rw [hA3]; exact hc
      have HCR := Lib.hid hcr; clear hcr
      have HCZ := Lib.hid hcz; clear hcz
      have HB50 := Lib.hid (Below.refl w5.heap.size w5)
      go_wp2_with fail
      go_loopw [13, 14] (fun pv iv wr => ∃ i P : Nat, i ≤ R.length ∧ iv = .int .i64 i ∧ pv = .int .i64 P ∧ Below w5.heap.size w5 wr ∧ Hid (P = i - gl)) (fun _ iv _ => R.length - (intOf iv).toNat)
      case atStart => exact ⟨0, 0, Nat.zero_le _, rfl, rfl, HB50.out, Lib.hid (by omega)⟩
      case round =>
        obtain ⟨i, P, hil, rfl, rfl, hbw, HSM⟩ := hrel
        have HBW := Lib.hid hbw; clear hbw
        by_cases hlt : i < R.length
        · obtain ⟨b, o, rfl, hcell⟩ := HCR.out i hlt
          by_cases hgl : i < gl
          · have hkd := HGK.out i hlt hgl
            have HP2 := Lib.hid (show P = i + 1 - gl by rw [HSM.out]; omega)
            generalize R[i] = y at hcell hkd
            obtain ⟨k0, k1, k2⟩ := hcell wr HBW.out
            clear hcell
            obtain ⟨ky, xy, yy⟩ := y
            simp only at k0 k1 k2 hkd
            go_wp2_with fail
            go_roundw
            case rel => exact ⟨i + 1, P, by omega, by go_num, rfl, HBW.out, HP2⟩
            case measure => simp [intOf]; omega
          · obtain ⟨hpl, hpe⟩ := HPK.out i hlt (by omega)
            rw [← HSM.out] at hpl
            obtain ⟨b2, o2, rfl, hcell2⟩ := HCZ.out P hpl
            have hpe2 : R[i] = toPut Z[P] := by rw [hpe]; congr 1; simp only [HSM.out]
            rw [hpe2] at hcell
            have HP2 := Lib.hid (show P + 1 = i + 1 - gl by rw [HSM.out]; omega)
            generalize Z[P] = y at hcell hcell2
            clear hpe hpe2
            obtain ⟨xy, yy⟩ := y
            unfold toPut at hcell
            simp only at hcell hcell2
            obtain ⟨k0, _, _⟩ := hcell wr HBW.out
            have HBD := Lib.hid HBW.out.drew
            have HC := Lib.hid (fun W (hW : Below wr.drew.heap.size wr.drew W) => hcell W (HBD.out.trans (hW.mono HBD.out.size)))
            have HC2 := Lib.hid (fun W (hW : Below wr.drew.heap.size wr.drew W) => hcell2 W (HBD.out.trans (hW.mono HBD.out.size)))
            clear hcell hcell2
            have hi1 : (i : Int) < (R.length : Int) := by omega
            have hi0 : (0 : Int) ≤ (i : Int) := by omega
            have hp1 : (P : Int) < (Z.length : Int) := by omega
            have hp0 : (0 : Int) ≤ (P : Int) := by omega
            have hp2 : ¬ ((Z.length : Int) ≤ (P : Int)) := by omega
            have hp3 : ¬ (Z.length ≤ P) := by omega
            have HN := Lib.hid (show ∀ W : World, (binOp .neq 57 (.agg #[.string xy, .string yy]) (.agg #[.string xy, .string yy])).run Try.prog W = .ok (.bool false) W from fun W => by rw [neq_pair]; simp)
            go_wp2_with fail
            clear k0
            refine wp_region_planB [(true, 0), (true, 1), (true, 2), (true, 3), (true, 4), (true, 5), (true, 6), (true, 7), (true, 8), (true, 9), (true, 10), (true, 11), (true, 12), (true, 13), (true, 14), (true, 15), (true, 16), (true, 17), (true, 18), (true, 19), (true, 20), (true, 21)] (by kernel_rfl) (by kernel_rfl) (fun _ _ d _ _ h => by cases d <;> exact h) ?_
            repeat (refine PlanB.take (v := ?_) rfl rfl ?_ ?_; rotate_left; (focus (intro W hW; obtain ⟨k0, k1, k2⟩ := HC.out W hW; obtain ⟨j0, j1⟩ := HC2.out W hW; have kn := HN.out W; have kg := pair_guard; go_simp; (try with_reducible rfl); done)); (try simp only [Act.put, List.setIfInBounds_toArray, List.set_cons_zero, List.set_cons_succ]))
            simp only [PlanB]
            go_wp2_with fail
            go_roundw
            case rel => exact ⟨i + 1, P + 1, by omega, by go_num, by go_num, HBD.out, HP2⟩
            case measure => simp [intOf]; omega
        · have he : P = Z.length := by rw [HSM.out]; have := HRL.out; omega
          subst he
          have hpt := fun W (hW : Below w5.heap.size w5 W) => pairs_true X X rfl _ _ W (HX5.out.next hW) (HY5.out.next hW) (by omega)
          have HPT := Lib.hid hpt; clear hpt
          go_wp2_with fail
          refine (HPT.out _ HBW.out).mono ?_
          rintro e w7 ⟨rfl, hb7⟩
          have HB7 := Lib.hid ((HB5.out.trans (HBW.out.mono HB5.out.size)).trans (hb7.mono (Nat.le_trans HB5.out.size HBW.out.size))); clear hb7
          go_wp2_with fail
          go_ret
          exact ⟨rfl, HB7.out⟩
  · have hX : applyRes l L = [] := by unfold applyRes; rw [if_neg h0]
    have h1 := fun W h1 h2 => papply_rd l L hs hhs v (.slice A (if 60 < n then 60 else n) c) W h1 h2 (by omega)
    have h2 := fun vp W h1 h2 => papply_rd [] L small_nil hhs vp (.slice A (if 60 < n then 60 else n) c) W h1 h2 (by simp; omega)
    have h3 := fun W h2 => papply_rd [] L small_nil hhs (.slice none 0 0) (.slice A (if 60 < n then 60 else n) c) W (Rd.nil _ _) h2 (by simp; omega)
    have h4 := fun W h => pleast_rd L hhs (.slice A (if 60 < n then 60 else n) c) W h (by omega)
    obtain ⟨E, hE⟩ : ∃ E : List (K × K), E = [] := ⟨_, rfl⟩
    rw [hX] at h1
    rw [← hE] at h1 h2
    generalize applyErr l L = q at h1 h0
    generalize applyErr E L = q2 at h2
    generalize applyErr [] L = q3 at h3
    generalize allAns L = q4 at h4
    generalize applyRes E L = Y at h2
    generalize applyRes [] L = Z at h3
    generalize leastRes L = R at h4
    clear hs hhs hE hX hlm
    have H0 := Lib.hid h0
    by_cases hcap : 60 < n
    · rw [if_pos hcap] at hv2
      have HV0 := Lib.hid hv2; clear hv2
      have H1 := Lib.hid h1; clear h1
      have H2 := Lib.hid h2; clear h2
      have H3 := Lib.hid h3; clear h3
      have H4 := Lib.hid h4; clear h4
      simp only [if_pos hcap] at H1 H2 H3 H4
      go_enter Try.func11, Try.ntmps11
      go_wp2_with fail
      refine (H1.out _ HP0.out HV0.out).mono ?_
      rintro e w1 ⟨A1, c1, rfl, hr, hb⟩
      have HV1 := Lib.hid (HV0.out.next hb)
      have HX1 := Lib.hid hr; clear hr
      have HB1 := Lib.hid (HB0.out.trans (hb.mono HB0.out.size)); clear hb
      go_wp2_with fail
      refine (H2.out _ _ HX1.out HV1.out).mono ?_
      rintro e w2 ⟨A2, c2, rfl, hr, hb⟩
      have HV2 := Lib.hid (HV1.out.next hb)
      have HX2 := Lib.hid (HX1.out.next hb)
      have HY2 := Lib.hid hr; clear hr
      have HB2 := Lib.hid (HB1.out.trans (hb.mono HB1.out.size)); clear hb
      go_wp2_with fail
      refine (H3.out _ HV2.out).mono ?_
      rintro e w3 ⟨A3, c3, rfl, hr, hb⟩
      have HV3 := Lib.hid (HV2.out.next hb)
      have HX3 := Lib.hid (HX2.out.next hb)
      have HY3 := Lib.hid (HY2.out.next hb)
      have HZ3 := Lib.hid hr; clear hr
      have HB3 := Lib.hid (HB2.out.trans (hb.mono HB2.out.size)); clear hb
      go_wp2_with fail
      refine (H4.out _ HV3.out).mono ?_
      rintro e w4 ⟨A4, c4, rfl, hr, hb⟩
      have HX4 := Lib.hid (HX3.out.next hb)
      have HY4 := Lib.hid (HY3.out.next hb)
      have HZ4 := Lib.hid (HZ3.out.next hb)
      have HR4 := Lib.hid hr; clear hr
      have HB4 := Lib.hid (HB3.out.trans (hb.mono HB3.out.size)); clear hb
      go_wp2_with fail
      refine (awake_any _).mono ?_
      rintro e w5 ⟨rfl, hb⟩
      have HX5 := Lib.hid (HX4.out.next hb)
      have HY5 := Lib.hid (HY4.out.next hb)
      have HZ5 := Lib.hid (HZ4.out.next hb)
      have HR5 := Lib.hid (HR4.out.next hb)
      have HB5 := Lib.hid (HB4.out.trans (hb.mono HB4.out.size)); clear hb
      go_wp2_with fail
      refine (awake_any _).mono ?_
      rintro e w6 ⟨rfl, hb⟩
      have HB6 := Lib.hid (HB5.out.trans (hb.mono HB5.out.size)); clear hb
      go_wp2_with fail
      go_ret
      exact ⟨rfl, HB6.out⟩
    · rw [if_neg hcap] at hv2
      have HV0 := Lib.hid hv2; clear hv2
      have H1 := Lib.hid h1; clear h1
      have H2 := Lib.hid h2; clear h2
      have H3 := Lib.hid h3; clear h3
      have H4 := Lib.hid h4; clear h4
      simp only [if_neg hcap] at H1 H2 H3 H4
      go_enter Try.func11, Try.ntmps11
      go_wp2_with fail
      refine (H1.out _ HP0.out HV0.out).mono ?_
      rintro e w1 ⟨A1, c1, rfl, hr, hb⟩
      have HV1 := Lib.hid (HV0.out.next hb)
      have HX1 := Lib.hid hr; clear hr
      have HB1 := Lib.hid (HB0.out.trans (hb.mono HB0.out.size)); clear hb
      go_wp2_with fail
      refine (H2.out _ _ HX1.out HV1.out).mono ?_
      rintro e w2 ⟨A2, c2, rfl, hr, hb⟩
      have HV2 := Lib.hid (HV1.out.next hb)
      have HX2 := Lib.hid (HX1.out.next hb)
      have HY2 := Lib.hid hr; clear hr
      have HB2 := Lib.hid (HB1.out.trans (hb.mono HB1.out.size)); clear hb
      go_wp2_with fail
      refine (H3.out _ HV2.out).mono ?_
      rintro e w3 ⟨A3, c3, rfl, hr, hb⟩
      have HV3 := Lib.hid (HV2.out.next hb)
      have HX3 := Lib.hid (HX2.out.next hb)
      have HY3 := Lib.hid (HY2.out.next hb)
      have HZ3 := Lib.hid hr; clear hr
      have HB3 := Lib.hid (HB2.out.trans (hb.mono HB2.out.size)); clear hb
      go_wp2_with fail
      refine (H4.out _ HV3.out).mono ?_
      rintro e w4 ⟨A4, c4, rfl, hr, hb⟩
      have HX4 := Lib.hid (HX3.out.next hb)
      have HY4 := Lib.hid (HY3.out.next hb)
      have HZ4 := Lib.hid (HZ3.out.next hb)
      have HR4 := Lib.hid hr; clear hr
      have HB4 := Lib.hid (HB3.out.trans (hb.mono HB3.out.size)); clear hb
      go_wp2_with fail
      refine (awake_any _).mono ?_
      rintro e w5 ⟨rfl, hb⟩
      have HX5 := Lib.hid (HX4.out.next hb)
      have HY5 := Lib.hid (HY4.out.next hb)
      have HZ5 := Lib.hid (HZ4.out.next hb)
      have HR5 := Lib.hid (HR4.out.next hb)
      have HB5 := Lib.hid (HB4.out.trans (hb.mono HB4.out.size)); clear hb
      go_wp2_with fail
      refine (awake_any _).mono ?_
      rintro e w6 ⟨rfl, hb⟩
      have HB6 := Lib.hid (HB5.out.trans (hb.mono HB5.out.size)); clear hb
      go_wp2_with fail
      go_ret
      exact ⟨rfl, HB6.out⟩
end Go.Proofs.Ytdkdolcocblhkaa
namespace Go.Proofs.Ytdkdolcocblhkaa
open Go.ChangeShapes Go.WideShapes Go.ChangeAt Go.RowKit Go.Joins

set_option maxRecDepth 100000 in
theorem changeTwice_lifted (os : Os) (started : os.Started) (H : Type) (enc : TypeId × Value → H) :
    ReturnsInHanded {} Try.checked os 11 .any (Rows.changeTwiceSpec.pre6 enc Try.prog Try.f11 Rows.changeTwiceRow.domain false) (Rows.changeTwiceSpec.post enc Try.prog Try.f11 false true false false) := by
  refine law_lifted os started H enc (by kernel_rfl) Try.func11
    (ChangeSpec.witness6 (enc := enc) (C := Try.checked) false ⟨#[], #[.slice none 0 0, .slice none 0 0], []⟩ 8 (by kernel_rfl) (by kernel_rfl) (by kernel_rfl) (by kernel_rfl)) (by kernel_rfl) rfl rfl
    (fun ds h => by match ds, h with | [a, b], _ => rfl) ?_
  intro W base args ds p hval0 hA0 hlt hsz0
  have hval : ∀ (j : Nat) t v, Try.f11.params[j]? = some t → args[j]? = some v → Value.okWide Try.prog W .any base t v := hval0
  have hA := hA0
  have hsz := hsz0
  rw [Try.params11] at hA hval hsz
  obtain ⟨v0, v1, d0, d1, p0, p1, rfl, rfl, rfl, h0, h1⟩ := trodAll_two hA
  obtain ⟨l0, hr0, hz0⟩ := open_pairs (hval 0 30 v0 rfl rfl) h0
  have hn0 := hz0.reachP hsz (j := 0) rfl rfl
  have hs0 := hz0.textsP hsz (j := 0) rfl rfl
  obtain ⟨l1, hr1, hz1⟩ := open_chgs (hval 1 24 v1 rfl rfl) h1
  have hn1 := hz1.reachC hsz (j := 1) rfl rfl
  have hs1 := hz1.textsC hsz (j := 1) rfl rfl
  exact changeTwice_walk l0 l1 (smallP_of hs0) (small_of hs1) _ _ W hr0 hr1 (by omega) (by omega)

set_option maxRecDepth 100000 in
theorem changeTwice_holds : Rows.ChangeTwiceSaid :=
  OpenClaim.holds_of_wide 11 Try.f11 rfl rfl rfl rfl rfl rfl rfl ⟨rfl, rfl, rfl, rfl, rfl⟩ rfl rfl rfl rfl rfl (by kernel_rfl) Try.func11 (by kernel_rfl)
    (of_decide_eq_true (by kernel_rfl)) (by unfold Func.isWrapper; rw [if_neg (by decide +kernel)]; exact ⟨rfl, rfl⟩)
    (fun os started H enc _ => changeTwice_lifted os started H enc)

#print axioms changeTwice_holds
end Go.Proofs.Ytdkdolcocblhkaa

/- ChangeSame is true for every input, and leaves its arguments as they were. No condition. -/
import Derived.Test.YtdkdolcocblhkaaSameM
import Derived.Test.YtdkdolcocblhkaaLeastR
import Derived.Test.YtdkdolcocblhkaaShut
namespace Go.Proofs.Ytdkdolcocblhkaa
open Go.RowKit
attribute [local go_sem] less_eq same_eq le_eq ge_eq gt_eq

set_option maxHeartbeats 8000000 in
set_option maxRecDepth 100000 in
theorem changeSame_walk (l : List (K × K)) (cs : List Chg) (hs : ∀ p ∈ l, p.1.size < 4611686018427387904 ∧ p.2.size < 4611686018427387904) (hcs : ∀ c ∈ cs, smallC c) (v vc : Value) (w : World) (hv : RdP w w.heap.size v l) (hvc : RdC w w.heap.size vc cs) (hl : l.length ≤ 7036874410000) (hlc : cs.length < 4611686018427387904) :
    Calls Try.prog 8 #[v, vc] w fun e w' => e = .returned (.bool true) ∧ Below w.heap.size w w' := by
  obtain ⟨A, c, rfl, hcc, -⟩ := hvc.at
  have hhs : ∀ c ∈ cs.take 60, smallC c := fun c h => hcs c (List.mem_of_mem_take h)
  have hll : (cs.take 60).length ≤ 60 := by simp; omega
  have hv2 : RdC w w.heap.size (.slice A (if 60 < cs.length then 60 else cs.length) c) (cs.take 60) := by
    by_cases h : 60 < cs.length
    · rw [if_pos h]; exact hvc.take 60 (by omega)
    · rw [if_neg h]; have e : cs.take 60 = cs := List.take_of_length_le (by omega); rw [e]; exact hvc
  obtain ⟨L, hL⟩ : ∃ L, L = cs.take 60 := ⟨_, rfl⟩
  rw [← hL] at hhs hll hv2
  obtain ⟨n, hn⟩ : ∃ n, n = cs.length := ⟨_, rfl⟩
  rw [← hn] at hv2 hlc hcc ⊢
  clear hL hn hvc hcs cs
  have HB0 := Lib.hid (Below.refl w.heap.size w)
  have HP0 := Lib.hid hv; clear hv
  have hlm := leastP_len L
  by_cases h0 : allAns L = 0
  · by_cases h2 : soundP l = true
    · have hl1 := fun W h => pleast_rd L hhs (.slice A (if 60 < n then 60 else n) c) W h (by omega)
      have ha1 := fun W h1 h2 => papply_rd l L hs hhs v (.slice A (if 60 < n then 60 else n) c) W h1 h2 (by omega)
      have ha2 := fun vc W h1 h2 => papply_rd l (leastP L) hs (small_all (leastP_check h0)) v vc W h1 h2 (by omega)
      have hl2 := fun vc W h => pleast_rd (leastP L) (small_all (leastP_check h0)) vc W h (by omega)
      rw [leastRes, if_pos h0, h0] at hl1
      rw [applyErr_good h0 h2, applyRes_good h0 h2] at ha1
      rw [applyErr_good (leastP_check h0) h2, applyRes_good (leastP_check h0) h2, leastP_apply (soundP_spec h2).1] at ha2
      rw [leastRes, if_pos (leastP_check h0), leastP_check h0, leastP_again] at hl2
      have hXl := applyP_length l L
      generalize applyP l L = X at ha1 ha2 hXl
      generalize leastP L = R at hl1 hl2 ha2 hlm
      clear h0 h2 hs hhs
      by_cases hcap : 60 < n
      · rw [if_pos hcap] at hv2
        have HV0 := Lib.hid hv2; clear hv2
        have HL := Lib.hid hl1; clear hl1
        have HA := Lib.hid ha1; clear ha1
        have HA2 := Lib.hid ha2; clear ha2
        have HL2 := Lib.hid hl2; clear hl2
        simp only [if_pos hcap] at HL HA
        go_enter Try.func8, Try.ntmps8
        go_wp2_with fail
        refine (HL.out _ HV0.out).mono ?_
        rintro e w1 ⟨A1, c1, rfl, hr, hb⟩
        have HV1 := Lib.hid (HV0.out.next hb)
        have HP1 := Lib.hid (HP0.out.next hb)
        have HR1 := Lib.hid hr; clear hr
        have HB1 := Lib.hid (HB0.out.trans (hb.mono HB0.out.size)); clear hb
        go_wp2_with fail
        refine (HA.out _ HP1.out HV1.out).mono ?_
        rintro e w2 ⟨A2, c2, rfl, hr, hb⟩
        have HP2 := Lib.hid (HP1.out.next hb)
        have HR2 := Lib.hid (HR1.out.next hb)
        have HQ2 := Lib.hid hr; clear hr
        have HB2 := Lib.hid (HB1.out.trans (hb.mono HB1.out.size)); clear hb
        go_wp2_with fail
        refine (awake_any _).mono ?_
        rintro e w3 ⟨rfl, hb⟩
        have HP3 := Lib.hid (HP2.out.next hb)
        have HR3 := Lib.hid (HR2.out.next hb)
        have HQ3 := Lib.hid (HQ2.out.next hb)
        have HB3 := Lib.hid (HB2.out.trans (hb.mono HB2.out.size)); clear hb
        go_wp2_with fail
        refine (HA2.out _ _ HP3.out HR3.out).mono ?_
        rintro e w4 ⟨A4, c4, rfl, hr, hb⟩
        have HR4 := Lib.hid (HR3.out.next hb)
        have HQ4 := Lib.hid (HQ3.out.next hb)
        have HS4 := Lib.hid hr; clear hr
        have HB4 := Lib.hid (HB3.out.trans (hb.mono HB3.out.size)); clear hb
        go_wp2_with fail
        refine (HL2.out _ _ HR4.out).mono ?_
        rintro e w5 ⟨A5, c5, rfl, hr, hb⟩
        have HR5 := Lib.hid (HR4.out.next hb)
        have HQ5 := Lib.hid (HQ4.out.next hb)
        have HS5 := Lib.hid (HS4.out.next hb)
        have HT5 := Lib.hid hr; clear hr
        have HB5 := Lib.hid (HB4.out.trans (hb.mono HB4.out.size)); clear hb
        go_wp2_with fail
        have hpt := pairs_true X X rfl _ _ w5 HQ5.out HS5.out (by omega)
        have HPT := Lib.hid hpt; clear hpt
        refine (HPT.out).mono ?_
        rintro e w6 ⟨rfl, hb⟩
        have HR6 := Lib.hid (HR5.out.next hb)
        have HT6 := Lib.hid (HT5.out.next hb)
        have HB6 := Lib.hid (HB5.out.trans (hb.mono HB5.out.size)); clear hb
        go_wp2_with fail
        have hct := chgs_true R R rfl _ _ w6 HT6.out HR6.out (by omega)
        have HCT := Lib.hid hct; clear hct
        refine (HCT.out).mono ?_
        rintro e w7 ⟨rfl, hb⟩
        have HB7 := Lib.hid (HB6.out.trans (hb.mono HB6.out.size)); clear hb
        go_wp2_with fail
        go_ret
        exact ⟨rfl, HB7.out⟩
      · rw [if_neg hcap] at hv2
        have HV0 := Lib.hid hv2; clear hv2
        have HL := Lib.hid hl1; clear hl1
        have HA := Lib.hid ha1; clear ha1
        have HA2 := Lib.hid ha2; clear ha2
        have HL2 := Lib.hid hl2; clear hl2
        simp only [if_neg hcap] at HL HA
        go_enter Try.func8, Try.ntmps8
        go_wp2_with fail
        refine (HL.out _ HV0.out).mono ?_
        rintro e w1 ⟨A1, c1, rfl, hr, hb⟩
        have HV1 := Lib.hid (HV0.out.next hb)
        have HP1 := Lib.hid (HP0.out.next hb)
        have HR1 := Lib.hid hr; clear hr
        have HB1 := Lib.hid (HB0.out.trans (hb.mono HB0.out.size)); clear hb
        go_wp2_with fail
        refine (HA.out _ HP1.out HV1.out).mono ?_
        rintro e w2 ⟨A2, c2, rfl, hr, hb⟩
        have HP2 := Lib.hid (HP1.out.next hb)
        have HR2 := Lib.hid (HR1.out.next hb)
        have HQ2 := Lib.hid hr; clear hr
        have HB2 := Lib.hid (HB1.out.trans (hb.mono HB1.out.size)); clear hb
        go_wp2_with fail
        refine (awake_any _).mono ?_
        rintro e w3 ⟨rfl, hb⟩
        have HP3 := Lib.hid (HP2.out.next hb)
        have HR3 := Lib.hid (HR2.out.next hb)
        have HQ3 := Lib.hid (HQ2.out.next hb)
        have HB3 := Lib.hid (HB2.out.trans (hb.mono HB2.out.size)); clear hb
        go_wp2_with fail
        refine (HA2.out _ _ HP3.out HR3.out).mono ?_
        rintro e w4 ⟨A4, c4, rfl, hr, hb⟩
        have HR4 := Lib.hid (HR3.out.next hb)
        have HQ4 := Lib.hid (HQ3.out.next hb)
        have HS4 := Lib.hid hr; clear hr
        have HB4 := Lib.hid (HB3.out.trans (hb.mono HB3.out.size)); clear hb
        go_wp2_with fail
        refine (HL2.out _ _ HR4.out).mono ?_
        rintro e w5 ⟨A5, c5, rfl, hr, hb⟩
        have HR5 := Lib.hid (HR4.out.next hb)
        have HQ5 := Lib.hid (HQ4.out.next hb)
        have HS5 := Lib.hid (HS4.out.next hb)
        have HT5 := Lib.hid hr; clear hr
        have HB5 := Lib.hid (HB4.out.trans (hb.mono HB4.out.size)); clear hb
        go_wp2_with fail
        have hpt := pairs_true X X rfl _ _ w5 HQ5.out HS5.out (by omega)
        have HPT := Lib.hid hpt; clear hpt
        refine (HPT.out).mono ?_
        rintro e w6 ⟨rfl, hb⟩
        have HR6 := Lib.hid (HR5.out.next hb)
        have HT6 := Lib.hid (HT5.out.next hb)
        have HB6 := Lib.hid (HB5.out.trans (hb.mono HB5.out.size)); clear hb
        go_wp2_with fail
        have hct := chgs_true R R rfl _ _ w6 HT6.out HR6.out (by omega)
        have HCT := Lib.hid hct; clear hct
        refine (HCT.out).mono ?_
        rintro e w7 ⟨rfl, hb⟩
        have HB7 := Lib.hid (HB6.out.trans (hb.mono HB6.out.size)); clear hb
        go_wp2_with fail
        go_ret
        exact ⟨rfl, HB7.out⟩
    · have hl1 := fun W h => pleast_rd L hhs (.slice A (if 60 < n then 60 else n) c) W h (by omega)
      have ha1 := fun W h1 h2 => papply_rd l L hs hhs v (.slice A (if 60 < n then 60 else n) c) W h1 h2 (by omega)
      rw [leastRes, if_pos h0, h0] at hl1
      rw [applyErr_wild h0 h2] at ha1
      generalize applyRes l L = X at ha1
      generalize leastP L = R at hl1 hlm
      clear h0 h2 hs hhs
      by_cases hcap : 60 < n
      · rw [if_pos hcap] at hv2
        have HV0 := Lib.hid hv2; clear hv2
        have HL := Lib.hid hl1; clear hl1
        have HA := Lib.hid ha1; clear ha1
        simp only [if_pos hcap] at HL HA
        go_enter Try.func8, Try.ntmps8
        go_wp2_with fail
        refine (HL.out _ HV0.out).mono ?_
        rintro e w1 ⟨A1, c1, rfl, hr, hb⟩
        have HV1 := Lib.hid (HV0.out.next hb)
        have HP1 := Lib.hid (HP0.out.next hb)
        have HR1 := Lib.hid hr; clear hr
        have HB1 := Lib.hid (HB0.out.trans (hb.mono HB0.out.size)); clear hb
        go_wp2_with fail
        refine (HA.out _ HP1.out HV1.out).mono ?_
        rintro e w2 ⟨A2, c2, rfl, hr, hb⟩
        have HP2 := Lib.hid (HP1.out.next hb)
        have HR2 := Lib.hid (HR1.out.next hb)
        have HQ2 := Lib.hid hr; clear hr
        have HB2 := Lib.hid (HB1.out.trans (hb.mono HB1.out.size)); clear hb
        go_wp2_with fail
        refine (awake_any _).mono ?_
        rintro e w3 ⟨rfl, hb⟩
        have HP3 := Lib.hid (HP2.out.next hb)
        have HR3 := Lib.hid (HR2.out.next hb)
        have HQ3 := Lib.hid (HQ2.out.next hb)
        have HB3 := Lib.hid (HB2.out.trans (hb.mono HB2.out.size)); clear hb
        go_wp2_with fail
        refine (awake_any _).mono ?_
        rintro e w4 ⟨rfl, hb⟩
        have HB4 := Lib.hid (HB3.out.trans (hb.mono HB3.out.size)); clear hb
        go_wp2_with fail
        go_ret
        exact ⟨rfl, HB4.out⟩
      · rw [if_neg hcap] at hv2
        have HV0 := Lib.hid hv2; clear hv2
        have HL := Lib.hid hl1; clear hl1
        have HA := Lib.hid ha1; clear ha1
        simp only [if_neg hcap] at HL HA
        go_enter Try.func8, Try.ntmps8
        go_wp2_with fail
        refine (HL.out _ HV0.out).mono ?_
        rintro e w1 ⟨A1, c1, rfl, hr, hb⟩
        have HV1 := Lib.hid (HV0.out.next hb)
        have HP1 := Lib.hid (HP0.out.next hb)
        have HR1 := Lib.hid hr; clear hr
        have HB1 := Lib.hid (HB0.out.trans (hb.mono HB0.out.size)); clear hb
        go_wp2_with fail
        refine (HA.out _ HP1.out HV1.out).mono ?_
        rintro e w2 ⟨A2, c2, rfl, hr, hb⟩
        have HP2 := Lib.hid (HP1.out.next hb)
        have HR2 := Lib.hid (HR1.out.next hb)
        have HQ2 := Lib.hid hr; clear hr
        have HB2 := Lib.hid (HB1.out.trans (hb.mono HB1.out.size)); clear hb
        go_wp2_with fail
        refine (awake_any _).mono ?_
        rintro e w3 ⟨rfl, hb⟩
        have HP3 := Lib.hid (HP2.out.next hb)
        have HR3 := Lib.hid (HR2.out.next hb)
        have HQ3 := Lib.hid (HQ2.out.next hb)
        have HB3 := Lib.hid (HB2.out.trans (hb.mono HB2.out.size)); clear hb
        go_wp2_with fail
        refine (awake_any _).mono ?_
        rintro e w4 ⟨rfl, hb⟩
        have HB4 := Lib.hid (HB3.out.trans (hb.mono HB3.out.size)); clear hb
        go_wp2_with fail
        go_ret
        exact ⟨rfl, HB4.out⟩
  · have hl1 := fun W h => pleast_rd L hhs (.slice A (if 60 < n then 60 else n) c) W h (by omega)
    have ha1 := fun W h1 h2 => papply_rd l L hs hhs v (.slice A (if 60 < n then 60 else n) c) W h1 h2 (by omega)
    rw [leastRes, if_neg h0] at hl1
    rw [applyErr_bad h0] at ha1
    generalize applyRes l L = X at ha1
    generalize allAns L = q at hl1 ha1 h0
    obtain ⟨R, hR⟩ : ∃ R : List Chg, R = [] := ⟨_, rfl⟩
    rw [← hR] at hl1
    clear hs hhs hR hlm
    have H0 := Lib.hid h0
    by_cases hcap : 60 < n
    · rw [if_pos hcap] at hv2
      have HV0 := Lib.hid hv2; clear hv2
      have HL := Lib.hid hl1; clear hl1
      have HA := Lib.hid ha1; clear ha1
      simp only [if_pos hcap] at HL HA
      go_enter Try.func8, Try.ntmps8
      go_wp2_with fail
      refine (HL.out _ HV0.out).mono ?_
      rintro e w1 ⟨A1, c1, rfl, hr, hb⟩
      have HV1 := Lib.hid (HV0.out.next hb)
      have HP1 := Lib.hid (HP0.out.next hb)
      have HR1 := Lib.hid hr; clear hr
      have HB1 := Lib.hid (HB0.out.trans (hb.mono HB0.out.size)); clear hb
      go_wp2_with fail
      refine (HA.out _ HP1.out HV1.out).mono ?_
      rintro e w2 ⟨A2, c2, rfl, hr, hb⟩
      have HP2 := Lib.hid (HP1.out.next hb)
      have HR2 := Lib.hid (HR1.out.next hb)
      have HQ2 := Lib.hid hr; clear hr
      have HB2 := Lib.hid (HB1.out.trans (hb.mono HB1.out.size)); clear hb
      go_wp2_with fail
      refine (awake_any _).mono ?_
      rintro e w3 ⟨rfl, hb⟩
      have HP3 := Lib.hid (HP2.out.next hb)
      have HR3 := Lib.hid (HR2.out.next hb)
      have HQ3 := Lib.hid (HQ2.out.next hb)
      have HB3 := Lib.hid (HB2.out.trans (hb.mono HB2.out.size)); clear hb
      go_wp2_with fail
      refine (awake_any _).mono ?_
      rintro e w4 ⟨rfl, hb⟩
      have HB4 := Lib.hid (HB3.out.trans (hb.mono HB3.out.size)); clear hb
      go_wp2_with fail
      go_ret
      exact ⟨rfl, HB4.out⟩
    · rw [if_neg hcap] at hv2
      have HV0 := Lib.hid hv2; clear hv2
      have HL := Lib.hid hl1; clear hl1
      have HA := Lib.hid ha1; clear ha1
      simp only [if_neg hcap] at HL HA
      go_enter Try.func8, Try.ntmps8
      go_wp2_with fail
      refine (HL.out _ HV0.out).mono ?_
      rintro e w1 ⟨A1, c1, rfl, hr, hb⟩
      have HV1 := Lib.hid (HV0.out.next hb)
      have HP1 := Lib.hid (HP0.out.next hb)
      have HR1 := Lib.hid hr; clear hr
      have HB1 := Lib.hid (HB0.out.trans (hb.mono HB0.out.size)); clear hb
      go_wp2_with fail
      refine (HA.out _ HP1.out HV1.out).mono ?_
      rintro e w2 ⟨A2, c2, rfl, hr, hb⟩
      have HP2 := Lib.hid (HP1.out.next hb)
      have HR2 := Lib.hid (HR1.out.next hb)
      have HQ2 := Lib.hid hr; clear hr
      have HB2 := Lib.hid (HB1.out.trans (hb.mono HB1.out.size)); clear hb
      go_wp2_with fail
      refine (awake_any _).mono ?_
      rintro e w3 ⟨rfl, hb⟩
      have HP3 := Lib.hid (HP2.out.next hb)
      have HR3 := Lib.hid (HR2.out.next hb)
      have HQ3 := Lib.hid (HQ2.out.next hb)
      have HB3 := Lib.hid (HB2.out.trans (hb.mono HB2.out.size)); clear hb
      go_wp2_with fail
      refine (awake_any _).mono ?_
      rintro e w4 ⟨rfl, hb⟩
      have HB4 := Lib.hid (HB3.out.trans (hb.mono HB3.out.size)); clear hb
      go_wp2_with fail
      go_ret
      exact ⟨rfl, HB4.out⟩
end Go.Proofs.Ytdkdolcocblhkaa
namespace Go.Proofs.Ytdkdolcocblhkaa
open Go.ChangeShapes Go.WideShapes Go.ChangeAt Go.RowKit Go.Joins

set_option maxRecDepth 100000 in
theorem changeSame_lifted (os : Os) (started : os.Started) (H : Type) (enc : TypeId × Value → H) :
    ReturnsInHanded {} Try.checked os 8 .any (Rows.changeSameSpec.pre6 enc Try.prog Try.f8 Rows.changeSameRow.domain false) (Rows.changeSameSpec.post enc Try.prog Try.f8 false true false false) := by
  refine law_lifted os started H enc (by kernel_rfl) Try.func8
    (ChangeSpec.witness6 (enc := enc) (C := Try.checked) false ⟨#[], #[.slice none 0 0, .slice none 0 0], []⟩ 8 (by kernel_rfl) (by kernel_rfl) (by kernel_rfl) (by kernel_rfl)) (by kernel_rfl) rfl rfl
    (fun ds h => by match ds, h with | [a, b], _ => rfl) ?_
  intro W base args ds p hval0 hA0 hlt hsz0
  have hval : ∀ (j : Nat) t v, Try.f8.params[j]? = some t → args[j]? = some v → Value.okWide Try.prog W .any base t v := hval0
  have hA := hA0
  have hsz := hsz0
  rw [Try.params8] at hA hval hsz
  obtain ⟨v0, v1, d0, d1, p0, p1, rfl, rfl, rfl, h0, h1⟩ := trodAll_two hA
  obtain ⟨l0, hr0, hz0⟩ := open_pairs (hval 0 30 v0 rfl rfl) h0
  have hn0 := hz0.reachP hsz (j := 0) rfl rfl
  have hs0 := hz0.textsP hsz (j := 0) rfl rfl
  obtain ⟨l1, hr1, hz1⟩ := open_chgs (hval 1 24 v1 rfl rfl) h1
  have hn1 := hz1.reachC hsz (j := 1) rfl rfl
  have hs1 := hz1.textsC hsz (j := 1) rfl rfl
  exact changeSame_walk l0 l1 (smallP_of hs0) (small_of hs1) _ _ W hr0 hr1 (by omega) (by omega)

set_option maxRecDepth 100000 in
theorem changeSame_holds : Rows.ChangeSameSaid :=
  OpenClaim.holds_of_wide 8 Try.f8 rfl rfl rfl rfl rfl rfl rfl ⟨rfl, rfl, rfl, rfl, rfl⟩ rfl rfl rfl rfl rfl (by kernel_rfl) Try.func8 (by kernel_rfl)
    (of_decide_eq_true (by kernel_rfl)) (by unfold Func.isWrapper; rw [if_neg (by decide +kernel)]; exact ⟨rfl, rfl⟩)
    (fun os started H enc _ => changeSame_lifted os started H enc)

#print axioms changeSame_holds
end Go.Proofs.Ytdkdolcocblhkaa

/- ChangeLeast is true for every input, and leaves its arguments as they were. No condition. -/
import Derived.Test.YtdkdolcocblhkaaLeastR
import Derived.Test.YtdkdolcocblhkaaRLeast
import Derived.Test.YtdkdolcocblhkaaShut
namespace Go.Proofs.Ytdkdolcocblhkaa
open Go.RowKit
attribute [local go_sem] less_eq same_eq le_eq ge_eq gt_eq

theorem rleast_good (l : List Chg) (hs : ∀ c ∈ l, smallC c) (v : Value) (w : World) (hv : RdC w w.heap.size v l) (hl : l.length ≤ 40) :
    Calls Try.prog 25 #[v] w fun e w' => ∃ A G R c, e = .returned (.slice A R.length c) ∧ RdC w' w'.heap.size (.slice A R.length c) R ∧ Below w.heap.size w w' ∧ R = G.map toGone ++ (applyP [] l).map toPut ∧ Fits G (goneP l) :=
  (rleast_any l hs v w hv (by omega)).mono fun e w' h => by
    obtain ⟨v', G, rfl, ho, hb, hf⟩ := h
    have hr := ho.rd encC_len
    obtain ⟨A, c, rfl, _⟩ := Own.slice ho
    exact ⟨A, G, _, c, rfl, hr, hb, rfl, hf⟩

set_option maxHeartbeats 8000000 in
set_option maxRecDepth 100000 in
theorem changeLeast_walk (l : List Chg) (hs : ∀ c ∈ l, smallC c) (v : Value) (w : World) (hv : RdC w w.heap.size v l) (hlen : l.length < 4611686018427387904) :
    Calls Try.prog 6 #[v] w fun e w' => e = .returned (.bool true) ∧ Below w.heap.size w w' := by
  obtain ⟨A, c, rfl, hcc, -⟩ := hv.at
  have hhs : ∀ c ∈ l.take 30, smallC c := fun c h => hs c (List.mem_of_mem_take h)
  have hll : (l.take 30).length ≤ 30 := by simp; omega
  have hv2 : RdC w w.heap.size (.slice A (if 30 < l.length then 30 else l.length) c) (l.take 30) := by
    by_cases h : 30 < l.length
    · rw [if_pos h]; exact hv.take 30 (by omega)
    · rw [if_neg h]; have e : l.take 30 = l := List.take_of_length_le (by omega); rw [e]; exact hv
  obtain ⟨L, hL⟩ : ∃ L, L = l.take 30 := ⟨_, rfl⟩
  rw [← hL] at hhs hll hv2
  obtain ⟨n, hn⟩ : ∃ n, n = l.length := ⟨_, rfl⟩
  rw [← hn] at hv2 hlen hcc ⊢
  clear hL hn hv hs l
  have hB := Below.refl w.heap.size w
  by_cases h0 : allAns L = 0
  · have HP := Lib.hid fun v W h => pleast_good L hhs v W h (by omega) h0
    have HA := Lib.hid fun v W h => rall_any L hhs v W h (by omega)
    rw [h0] at HA
    have HR := Lib.hid fun v W h => rleast_good L hhs v W h (by omega)
    clear h0 hhs
    by_cases h30 : 30 < n
    · rw [if_pos h30] at hv2
      have HV := Lib.hid hv2; clear hv2
      go_enter Try.func6, Try.ntmps6
      go_wp2_with fail
      refine (HP.out _ _ HV.out).mono ?_
      rintro e w1 ⟨A1, G1, R1, c1, rfl, hr1, hb1, hq1, hf1, hn1⟩
      have HR1 := Lib.hid hr1; clear hr1
      have HF1 := Lib.hid hf1; clear hf1
      have HQ1 := Lib.hid hq1; clear hq1
      have HN1 := Lib.hid hn1; clear hn1
      have HV1 := Lib.hid (HV.out.next hb1)
      have HB1 := Lib.hid (hB.trans (hb1.mono hB.size)); clear hb1
      go_wp2_with fail
      refine (HA.out _ _ HV1.out).mono ?_
      rintro e w2 ⟨rfl, hb2⟩
      have HR2 := Lib.hid (HR1.out.next hb2)
      have HV2 := Lib.hid (HV1.out.next hb2)
      have HB2 := Lib.hid (HB1.out.trans (hb2.mono HB1.out.size)); clear hb2
      go_wp2_with fail
      refine (awake_any _).mono ?_
      rintro e w3 ⟨rfl, hb3⟩
      have HR3 := Lib.hid (HR2.out.next hb3)
      have HV3 := Lib.hid (HV2.out.next hb3)
      have HB3 := Lib.hid (HB2.out.trans (hb3.mono HB2.out.size)); clear hb3
      go_wp2_with fail
      refine (HR.out _ _ HV3.out).mono ?_
      rintro e w4 ⟨A4, G4, R4, c4, rfl, hr4, hb4, hq4, hf4⟩
      have hpt := chgs_true R1 R4 (by rw [HQ1.out, hq4, HF1.out.eq hf4]) _ _ w4 (HR3.out.next hb4) hr4 HN1.out
      have HPT := Lib.hid hpt; clear hpt hr4 hf4 hq4
      have HB4 := Lib.hid (HB3.out.trans (hb4.mono HB3.out.size)); clear hb4
      go_wp2_with fail
      refine HPT.out.mono ?_
      rintro e w5 ⟨rfl, hb5⟩
      have HB5 := Lib.hid (HB4.out.trans (hb5.mono HB4.out.size)); clear hb5
      go_wp2_with fail
      go_ret
      exact ⟨rfl, HB5.out⟩
    · rw [if_neg h30] at hv2
      have HV := Lib.hid hv2; clear hv2
      go_enter Try.func6, Try.ntmps6
      go_wp2_with fail
      refine (HP.out _ _ HV.out).mono ?_
      rintro e w1 ⟨A1, G1, R1, c1, rfl, hr1, hb1, hq1, hf1, hn1⟩
      have HR1 := Lib.hid hr1; clear hr1
      have HF1 := Lib.hid hf1; clear hf1
      have HQ1 := Lib.hid hq1; clear hq1
      have HN1 := Lib.hid hn1; clear hn1
      have HV1 := Lib.hid (HV.out.next hb1)
      have HB1 := Lib.hid (hB.trans (hb1.mono hB.size)); clear hb1
      go_wp2_with fail
      refine (HA.out _ _ HV1.out).mono ?_
      rintro e w2 ⟨rfl, hb2⟩
      have HR2 := Lib.hid (HR1.out.next hb2)
      have HV2 := Lib.hid (HV1.out.next hb2)
      have HB2 := Lib.hid (HB1.out.trans (hb2.mono HB1.out.size)); clear hb2
      go_wp2_with fail
      refine (awake_any _).mono ?_
      rintro e w3 ⟨rfl, hb3⟩
      have HR3 := Lib.hid (HR2.out.next hb3)
      have HV3 := Lib.hid (HV2.out.next hb3)
      have HB3 := Lib.hid (HB2.out.trans (hb3.mono HB2.out.size)); clear hb3
      go_wp2_with fail
      refine (HR.out _ _ HV3.out).mono ?_
      rintro e w4 ⟨A4, G4, R4, c4, rfl, hr4, hb4, hq4, hf4⟩
      have hpt := chgs_true R1 R4 (by rw [HQ1.out, hq4, HF1.out.eq hf4]) _ _ w4 (HR3.out.next hb4) hr4 HN1.out
      have HPT := Lib.hid hpt; clear hpt hr4 hf4 hq4
      have HB4 := Lib.hid (HB3.out.trans (hb4.mono HB3.out.size)); clear hb4
      go_wp2_with fail
      refine HPT.out.mono ?_
      rintro e w5 ⟨rfl, hb5⟩
      have HB5 := Lib.hid (HB4.out.trans (hb5.mono HB4.out.size)); clear hb5
      go_wp2_with fail
      go_ret
      exact ⟨rfl, HB5.out⟩
  · have HP := Lib.hid fun v W h => pleast_bad L hhs v W h (by omega) h0
    have HA := Lib.hid fun v W h => rall_any L hhs v W h (by omega)
    generalize allAns L = q at HP HA h0
    clear hhs
    by_cases h30 : 30 < n
    · rw [if_pos h30] at hv2
      have HV := Lib.hid hv2; clear hv2
      have H0 := Lib.hid h0
      go_enter Try.func6, Try.ntmps6
      go_wp2_with fail
      refine (HP.out _ _ HV.out).mono ?_
      rintro e w1 ⟨rfl, hb1⟩
      have HV1 := Lib.hid (HV.out.next hb1)
      have HB1 := Lib.hid (hB.trans (hb1.mono hB.size)); clear hb1
      go_wp2_with fail
      refine (HA.out _ _ HV1.out).mono ?_
      rintro e w2 ⟨rfl, hb2⟩
      have HB2 := Lib.hid (HB1.out.trans (hb2.mono HB1.out.size)); clear hb2
      go_wp2_with fail
      refine (awake_any _).mono ?_
      rintro e w3 ⟨rfl, hb3⟩
      have HB3 := Lib.hid (HB2.out.trans (hb3.mono HB2.out.size)); clear hb3
      go_wp2_with fail
      go_ret
      exact ⟨rfl, HB3.out⟩
    · rw [if_neg h30] at hv2
      have HV := Lib.hid hv2; clear hv2
      have H0 := Lib.hid h0
      go_enter Try.func6, Try.ntmps6
      go_wp2_with fail
      refine (HP.out _ _ HV.out).mono ?_
      rintro e w1 ⟨rfl, hb1⟩
      have HV1 := Lib.hid (HV.out.next hb1)
      have HB1 := Lib.hid (hB.trans (hb1.mono hB.size)); clear hb1
      go_wp2_with fail
      refine (HA.out _ _ HV1.out).mono ?_
      rintro e w2 ⟨rfl, hb2⟩
      have HB2 := Lib.hid (HB1.out.trans (hb2.mono HB1.out.size)); clear hb2
      go_wp2_with fail
      refine (awake_any _).mono ?_
      rintro e w3 ⟨rfl, hb3⟩
      have HB3 := Lib.hid (HB2.out.trans (hb3.mono HB2.out.size)); clear hb3
      go_wp2_with fail
      go_ret
      exact ⟨rfl, HB3.out⟩
end Go.Proofs.Ytdkdolcocblhkaa
namespace Go.Proofs.Ytdkdolcocblhkaa
open Go.ChangeShapes Go.WideShapes Go.ChangeAt Go.RowKit Go.Joins

set_option maxRecDepth 100000 in
theorem changeLeast_lifted (os : Os) (started : os.Started) (H : Type) (enc : TypeId × Value → H) :
    ReturnsInHanded {} Try.checked os 6 .any (Rows.changeLeastSpec.pre6 enc Try.prog Try.f6 Rows.changeLeastRow.domain false) (Rows.changeLeastSpec.post enc Try.prog Try.f6 false true false false) := by
  refine law_lifted os started H enc (by kernel_rfl) Try.func6
    (ChangeSpec.witness6 (enc := enc) (C := Try.checked) false ⟨#[], #[.slice none 0 0], []⟩ 8 (by kernel_rfl) (by kernel_rfl) (by kernel_rfl) (by kernel_rfl)) (by kernel_rfl) rfl rfl
    (fun ds h => by match ds, h with | [a], _ => rfl) ?_
  intro W base args ds p hval0 hA0 hlt hsz0
  have hval : ∀ (j : Nat) t v, Try.f6.params[j]? = some t → args[j]? = some v → Value.okWide Try.prog W .any base t v := hval0
  have hA := hA0
  have hsz := hsz0
  rw [Try.params6] at hA hval hsz
  obtain ⟨v0, d0, rfl, rfl, h0⟩ := trodAll_one hA
  obtain ⟨l0, hr0, hz0⟩ := open_chgs (hval 0 24 v0 rfl rfl) h0
  have hn0 := hz0.reachC hsz (j := 0) rfl rfl
  have hs0 := hz0.textsC hsz (j := 0) rfl rfl
  exact changeLeast_walk l0 (small_of hs0) _ W hr0 (by omega)

set_option maxRecDepth 100000 in
theorem changeLeast_holds : Rows.ChangeLeastSaid :=
  OpenClaim.holds_of_wide 6 Try.f6 rfl rfl rfl rfl rfl rfl rfl ⟨rfl, rfl, rfl, rfl, rfl⟩ rfl rfl rfl rfl rfl (by kernel_rfl) Try.func6 (by kernel_rfl)
    (of_decide_eq_true (by kernel_rfl)) (by unfold Func.isWrapper; rw [if_neg (by decide +kernel)]; exact ⟨rfl, rfl⟩)
    (fun os started H enc _ => changeLeast_lifted os started H enc)

#print axioms changeLeast_holds
end Go.Proofs.Ytdkdolcocblhkaa

/- ChangeSpans: the walk. -/
import Derived.Test.YtdkdolcocblhkaaNamed
import Derived.Test.YtdkdolcocblhkaaAwk
import Derived.Test.YtdkdolcocblhkaaRSpans
import Derived.Test.YtdkdolcocblhkaaShut
namespace Go.Proofs.Ytdkdolcocblhkaa
open Go.RowKit
attribute [local go_sem] less_eq same_eq le_eq ge_eq gt_eq

theorem ownS_slice {w : World} {base : Nat} {v : Value} {l : List (K × K)} (h : OwnS w base v l) : ∃ A c, v = .slice A l.length c := by
  rcases h.form with ⟨h, h0⟩ | ⟨x, y, h, _⟩
  · exact ⟨none, 0, by rw [h, h0]; rfl⟩
  · exact ⟨_, _, h⟩
/-- the program's spans, told by whether all are changes -/
theorem pspans_good (l : List Chg) (hs : ∀ c ∈ l, smallC c) (v : Value) (w : World) (hv : RdC w w.heap.size v l) (hl : l.length ≤ 40) (h0 : allAns l = 0) :
    Calls Try.prog 19 #[v] w fun e w' => ∃ A R c, e = .returned (.tuple #[.slice A R.length c, .int .i64 0]) ∧ RdS w' w'.heap.size (.slice A R.length c) R ∧ Below w.heap.size w w' ∧ Fits R (fun k => mem (l.map cspan) k) :=
  (pspans_any l hs v w hv (by omega)).mono fun e w' h => by
    obtain ⟨v', q, rfl, hb, h⟩ := h
    rcases h with ⟨h1, h2, rfl⟩ | ⟨_, rfl, R, ho, hf, _⟩
    · exact absurd (h1.trans h0) h2
    · have hr := ho.rd
      obtain ⟨A, c, rfl⟩ := ownS_slice ho
      exact ⟨A, R, c, rfl, hr, hb, hf⟩
theorem pspans_bad (l : List Chg) (hs : ∀ c ∈ l, smallC c) (v : Value) (w : World) (hv : RdC w w.heap.size v l) (hl : l.length ≤ 40) (h0 : allAns l ≠ 0) :
    Calls Try.prog 19 #[v] w fun e w' => e = .returned (.tuple #[.slice none 0 0, .int .i64 (allAns l)]) ∧ Below w.heap.size w w' :=
  (pspans_any l hs v w hv (by omega)).mono fun e w' h => by
    obtain ⟨v', q, rfl, hb, h⟩ := h
    rcases h with ⟨rfl, h2, rfl⟩ | ⟨h1, rfl, R, ho, hf, _⟩
    · exact ⟨rfl, hb⟩
    · exact absurd h1 h0
theorem rspans_good (l : List Chg) (hs : ∀ c ∈ l, smallC c) (v : Value) (w : World) (hv : RdC w w.heap.size v l) (hl : l.length ≤ 40) :
    Calls Try.prog 22 #[v] w fun e w' => ∃ A R c, e = .returned (.slice A R.length c) ∧ RdS w' w'.heap.size (.slice A R.length c) R ∧ Below w.heap.size w w' ∧ Fits R (fun k => mem (l.map cspan) k) ∧ R.length ≤ 200 :=
  (rspans_any l hs v w hv (by omega)).mono fun e w' h => by
    obtain ⟨v', R, rfl, ho, hb, hf, hn⟩ := h
    have hr := ho.rd
    obtain ⟨A, c, rfl⟩ := ownS_slice ho
    exact ⟨A, R, c, rfl, hr, hb, hf, hn⟩
theorem rds_next {w w' : World} {v : Value} {l : List (K × K)} (h : RdS w w.heap.size v l) (hb : Below w.heap.size w w') : RdS w' w'.heap.size v l := by
  obtain ⟨A, c, hv, hc, hi⟩ := h.below hb (Nat.le_refl _)
  refine ⟨A, c, hv, hc, fun i s hs => ?_⟩
  obtain ⟨b, o, h1, h2, h3⟩ := hi i s hs
  exact ⟨b, o, h1, Nat.lt_of_lt_of_le h2 hb.size, h3⟩
theorem spans_true (a b : List (K × K)) (hab : a = b) (va vb : Value) (w : World) (hva : RdS w w.heap.size va a) (hvb : RdS w w.heap.size vb b) (hlb : b.length ≤ 200) :
    Calls Try.prog 21 #[va, vb] w fun e w' => e = .returned (.bool true) ∧ Below w.heap.size w w' := by
  have h := same_any a b va vb w hva hvb (by rw [hab]; omega) (by omega)
  rwa [show decide (a = b) = true from decide_eq_true hab] at h

set_option maxHeartbeats 8000000 in
set_option maxRecDepth 100000 in
theorem changeSpans_walk (l : List Chg) (hs : ∀ c ∈ l, smallC c) (v : Value) (w : World) (hv : RdC w w.heap.size v l) (hlen : l.length < 4611686018427387904) :
    Calls Try.prog 5 #[v] w fun e w' => e = .returned (.bool true) ∧ Below w.heap.size w w' := by
  obtain ⟨A, c, rfl, hcc, -⟩ := hv.at
  have hhs : ∀ c ∈ l.take 40, smallC c := fun c h => hs c (List.mem_of_mem_take h)
  have hll : (l.take 40).length ≤ 40 := by simp; omega
  have hv2 : RdC w w.heap.size (.slice A (if 40 < l.length then 40 else l.length) c) (l.take 40) := by
    by_cases h : 40 < l.length
    · rw [if_pos h]; exact hv.take 40 (by omega)
    · rw [if_neg h]; have e : l.take 40 = l := List.take_of_length_le (by omega); rw [e]; exact hv
  obtain ⟨L, hL⟩ : ∃ L, L = l.take 40 := ⟨_, rfl⟩
  rw [← hL] at hhs hll hv2
  obtain ⟨n, hn⟩ : ∃ n, n = l.length := ⟨_, rfl⟩
  rw [← hn] at hv2 hlen hcc ⊢
  clear hL hn hv hs l
  have hB := Below.refl w.heap.size w
  by_cases h0 : allAns L = 0
  · have HP := Lib.hid fun v W h => pspans_good L hhs v W h hll h0
    have HA := Lib.hid fun v W h => rall_any L hhs v W h (by omega)
    rw [h0] at HA
    have HR := Lib.hid fun v W h => rspans_good L hhs v W h hll
    clear h0 hhs
    by_cases h40 : 40 < n
    · rw [if_pos h40] at hv2
      have HV := Lib.hid hv2; clear hv2
      go_enter Try.func5, Try.ntmps5
      go_wp2_with fail
      refine (HP.out _ _ HV.out).mono ?_
      rintro e w1 ⟨A1, R1, c1, rfl, hr1, hb1, hf1⟩
      have HR1 := Lib.hid hr1; clear hr1
      have HF1 := Lib.hid hf1; clear hf1
      have HV1 := Lib.hid (HV.out.next hb1)
      have HB1 := Lib.hid (hB.trans (hb1.mono hB.size)); clear hb1
      go_wp2_with fail
      refine (HA.out _ _ HV1.out).mono ?_
      rintro e w2 ⟨rfl, hb2⟩
      have HR2 := Lib.hid (rds_next HR1.out hb2)
      have HV2 := Lib.hid (HV1.out.next hb2)
      have HB2 := Lib.hid (HB1.out.trans (hb2.mono HB1.out.size)); clear hb2
      go_wp2_with fail
      refine (awake_any _).mono ?_
      rintro e w3 ⟨rfl, hb3⟩
      have HR3 := Lib.hid (rds_next HR2.out hb3)
      have HV3 := Lib.hid (HV2.out.next hb3)
      have HB3 := Lib.hid (HB2.out.trans (hb3.mono HB2.out.size)); clear hb3
      go_wp2_with fail
      refine (HR.out _ _ HV3.out).mono ?_
      rintro e w4 ⟨A4, R4, c4, rfl, hr4, hb4, hf4, hn4⟩
      have hpt := spans_true R1 R4 (HF1.out.eq hf4) _ _ w4 (rds_next HR3.out hb4) hr4 hn4
      have HPT := Lib.hid hpt; clear hpt hr4 hf4 hn4
      have HB4 := Lib.hid (HB3.out.trans (hb4.mono HB3.out.size)); clear hb4
      go_wp2_with fail
      refine HPT.out.mono ?_
      rintro e w5 ⟨rfl, hb5⟩
      have HB5 := Lib.hid (HB4.out.trans (hb5.mono HB4.out.size)); clear hb5
      go_wp2_with fail
      go_ret
      exact ⟨rfl, HB5.out⟩
    · rw [if_neg h40] at hv2
      have HV := Lib.hid hv2; clear hv2
      go_enter Try.func5, Try.ntmps5
      go_wp2_with fail
      refine (HP.out _ _ HV.out).mono ?_
      rintro e w1 ⟨A1, R1, c1, rfl, hr1, hb1, hf1⟩
      have HR1 := Lib.hid hr1; clear hr1
      have HF1 := Lib.hid hf1; clear hf1
      have HV1 := Lib.hid (HV.out.next hb1)
      have HB1 := Lib.hid (hB.trans (hb1.mono hB.size)); clear hb1
      go_wp2_with fail
      refine (HA.out _ _ HV1.out).mono ?_
      rintro e w2 ⟨rfl, hb2⟩
      have HR2 := Lib.hid (rds_next HR1.out hb2)
      have HV2 := Lib.hid (HV1.out.next hb2)
      have HB2 := Lib.hid (HB1.out.trans (hb2.mono HB1.out.size)); clear hb2
      go_wp2_with fail
      refine (awake_any _).mono ?_
      rintro e w3 ⟨rfl, hb3⟩
      have HR3 := Lib.hid (rds_next HR2.out hb3)
      have HV3 := Lib.hid (HV2.out.next hb3)
      have HB3 := Lib.hid (HB2.out.trans (hb3.mono HB2.out.size)); clear hb3
      go_wp2_with fail
      refine (HR.out _ _ HV3.out).mono ?_
      rintro e w4 ⟨A4, R4, c4, rfl, hr4, hb4, hf4, hn4⟩
      have hpt := spans_true R1 R4 (HF1.out.eq hf4) _ _ w4 (rds_next HR3.out hb4) hr4 hn4
      have HPT := Lib.hid hpt; clear hpt hr4 hf4 hn4
      have HB4 := Lib.hid (HB3.out.trans (hb4.mono HB3.out.size)); clear hb4
      go_wp2_with fail
      refine HPT.out.mono ?_
      rintro e w5 ⟨rfl, hb5⟩
      have HB5 := Lib.hid (HB4.out.trans (hb5.mono HB4.out.size)); clear hb5
      go_wp2_with fail
      go_ret
      exact ⟨rfl, HB5.out⟩
  · have HP := Lib.hid fun v W h => pspans_bad L hhs v W h hll h0
    have HA := Lib.hid fun v W h => rall_any L hhs v W h (by omega)
    generalize allAns L = q at HP HA h0
    clear hhs
    by_cases h40 : 40 < n
    · rw [if_pos h40] at hv2
      have HV := Lib.hid hv2; clear hv2
      have H0 := Lib.hid h0
      go_enter Try.func5, Try.ntmps5
      go_wp2_with fail
      refine (HP.out _ _ HV.out).mono ?_
      rintro e w1 ⟨rfl, hb1⟩
      have HV1 := Lib.hid (HV.out.next hb1)
      have HB1 := Lib.hid (hB.trans (hb1.mono hB.size)); clear hb1
      go_wp2_with fail
      refine (HA.out _ _ HV1.out).mono ?_
      rintro e w2 ⟨rfl, hb2⟩
      have HB2 := Lib.hid (HB1.out.trans (hb2.mono HB1.out.size)); clear hb2
      go_wp2_with fail
      refine (awake_any _).mono ?_
      rintro e w3 ⟨rfl, hb3⟩
      have HB3 := Lib.hid (HB2.out.trans (hb3.mono HB2.out.size)); clear hb3
      go_wp2_with fail
      go_ret
      exact ⟨rfl, HB3.out⟩
    · rw [if_neg h40] at hv2
      have HV := Lib.hid hv2; clear hv2
      have H0 := Lib.hid h0
      go_enter Try.func5, Try.ntmps5
      go_wp2_with fail
      refine (HP.out _ _ HV.out).mono ?_
      rintro e w1 ⟨rfl, hb1⟩
      have HV1 := Lib.hid (HV.out.next hb1)
      have HB1 := Lib.hid (hB.trans (hb1.mono hB.size)); clear hb1
      go_wp2_with fail
      refine (HA.out _ _ HV1.out).mono ?_
      rintro e w2 ⟨rfl, hb2⟩
      have HB2 := Lib.hid (HB1.out.trans (hb2.mono HB1.out.size)); clear hb2
      go_wp2_with fail
      refine (awake_any _).mono ?_
      rintro e w3 ⟨rfl, hb3⟩
      have HB3 := Lib.hid (HB2.out.trans (hb3.mono HB2.out.size)); clear hb3
      go_wp2_with fail
      go_ret
      exact ⟨rfl, HB3.out⟩
end Go.Proofs.Ytdkdolcocblhkaa

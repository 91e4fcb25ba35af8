/- ChestFull's walk. -/
import Derived.Test.YtmigninibdecmaaGreatFat
namespace Go.Proofs.YtmigninibdecmaaGreat
open Go.RowKit
attribute [local go_sem] less_eq same_eq le_eq ge_eq gt_eq

/-- so many plain batches from 0 on -/
def plainB (i : Nat) : List Bat := (List.range i).map fun j : Nat => ⟨(j : Int), (j : Int) + 1, 0, []⟩
theorem plainB_len (i : Nat) : (plainB i).length = i := by simp [plainB]
theorem plainB_add (i : Nat) : plainB (i + 1) = plainB i ++ [⟨(i : Int), (i : Int) + 1, 0, []⟩] := by simp [plainB, List.range_succ]
theorem plainB_top (i : Nat) : topB 0 (plainB i) = (i : Int) := by
  cases i with
  | zero => rfl
  | succ i => rw [plainB_add, topB_add]; simp
def fuG (i : Nat) : Lg := ⟨1, 0, 0, 0, [], plainB i⟩
theorem fuG_top (i : Nat) : (fuG i).top = (i : Int) := plainB_top i
theorem fuG_add (i : Nat) : (fuG i).add ⟨(i : Int), (i : Int) + 1, 0, []⟩ = fuG (i + 1) := by
  unfold Lg.add fuG
  rw [plainB_add]
  simp
/-- what is left behind a Pop up to k -/
def fuP (k : Nat) : Lg := ⟨1, 0, Ch.lastGone 0 (k : Int) (plainB 24), 0, [], (plainB 24).dropWhile (fun b => b.version ≤ (k : Int))⟩
theorem fuP_all : ∀ k, k < 25 → (fuP k).top = 24 ∧ (fuP k).held.length = 24 - k := by decide +kernel

set_option maxHeartbeats 8000000 in
set_option maxRecDepth 100000 in
theorem chestFull_walk (n pop : Nat) (hn : n < 256) (hp : pop < 256) (w : World) :
    Calls Tryz.prog 6 #[.int .u8 (n : Int), .int .u8 (pop : Int)] w fun e w' => e = .returned (.bool true) ∧ Below w.heap.size w w' := by
  have HN := Lib.hid (new_any 524288 (by decide) (by decide) w)
  go_enter Tryz.func6, Tryz.ntmps6
  go_wp2_with fail
  refine HN.out.mono ?_
  rintro e w1 ⟨p, rfl, ht, hb⟩
  have HO := Lib.hid (hopen_any 524288 (by decide) (by decide) w w1 p ht hb)
  clear HN ht hb
  go_wp2_with fail
  refine HO.out.mono ?_
  rintro e w2 ⟨q, G, rfl, hc2, hb2⟩
  have HC2 := Lib.hid hc2
  have HB2 := Lib.hid hb2
  clear hc2 hb2 HO
  go_wp2_with fail
  refine (awake_any w2).mono ?_
  rintro e w3 ⟨rfl, hb3⟩
  have hc3 := HC2.out.mv (Mv.of_new hb3 (fun _ => False)) (fun _ _ h => h)
  have hl := hlay_any w.heap.size q G (Ch.new 524288) 1 0 [] (.slice none 0 0) w3 (by decide) (by decide) (by simp) trivial (by simp) (by decide) (Ch.end_new _ _) hc3 (RdBts.none' w3)
  rw [List.map_nil, show (Ch.new 524288).lay 1 0 [] = (0, ⟨[fuG 0], 0, 1, 524288⟩) from Ch.lay_first 524288 1 0 [] (by decide)] at hl
  simp only at hl
  have HL := Lib.hid hl
  have HC3 := Lib.hid hc3
  have HB3 := Lib.hid (HB2.out.trans (hb3.mono HB2.out.size))
  clear hl hc3 hb3 HC2 HB2
  go_wp2_with fail
  refine HL.out.mono ?_
  rintro e w4 ⟨G4, rfl, hc4, hG4, hm4⟩
  have HB4 := Lib.hid (HB3.out.trans (hm4.below HC3.out.low.1 (fun i hi => (HC3.out.low.2 i hi).1)))
  have HC4 := Lib.hid hc4
  clear hc4 hG4 hm4 HL HC3 HB3
  go_wp2_with fail
  go_loopw [9] (fun iv wr => ∃ (i : Nat) (G : Nat → Prop), i ≤ 24 ∧ iv = .int .i64 (i : Int) ∧ ChAt wr w.heap.size q G ⟨[fuG i], 0, 1 + 2 * i, 524288⟩ ∧ Below w.heap.size w wr) (fun iv _ => 24 - (intOf iv).toNat)
  case atStart => exact ⟨0, G4, by omega, rfl, HC4.out, HB4.out⟩
  case round =>
    obtain ⟨i, G5, hi, rfl, hc5, hb5⟩ := hrel
    clear HC4 HB4
    by_cases hlt : i < 24
    · have h1 : (i : Int) < 24 := by omega
      have ha := hpush_any w.heap.size q G5 _ 1 ⟨(i : Int), (i : Int) + 1, 0, []⟩ (.slice none 0 0) wr (by decide) (tiny_plain _ _ _ (by omega) (by omega) (by decide)) (Ch.spare_mk _ _ _ _ _ (by omega)) hc5 (Rd.nil _ _) ⟨_, rfl, rfl⟩
      rw [show (⟨[fuG i], 0, 1 + 2 * i, 524288⟩ : Ch).push 1 ⟨(i : Int), (i : Int) + 1, 0, []⟩ = ((i : Int) + 1, 0, ⟨[fuG (i + 1)], 0, 1 + 2 * (i + 1), 524288⟩) from by
        rw [← fuG_add]
        exact Ch.push_one (fuG i) _ _ _ _ (by show ¬ (1 : Int) < 0; decide) (by rw [fuG_top]; show (i : Int) < (i : Int) + 1; omega) (fuG_top i).symm (by show (plainB i).length < 24; rw [plainB_len]; exact hlt)] at ha
      unfold bval at ha
      simp only at ha
      have HA := Lib.hid ha
      have HC5 := Lib.hid hc5
      have HB5 := Lib.hid hb5
      clear ha hc5 hb5
      go_wp2_with fail
      refine HA.out.mono ?_
      rintro e w6 ⟨G6, rfl, hc6, hG6, hm6⟩
      have HC6 := Lib.hid hc6
      have HB6 := Lib.hid (HB5.out.trans (hm6.below HC5.out.low.1 (fun i hi => (HC5.out.low.2 i hi).1)))
      clear hc6 hG6 hm6 HA HC5 HB5
      go_wp2_with fail
      go_roundw
      case rel => exact ⟨i + 1, G6, by omega, by go_num, HC6.out, HB6.out⟩
      case measure => simp [intOf]; omega
    · have hi24 : i = 24 := by omega
      subst hi24
      have h1 : ¬ ((24 : Nat) : Int) < 24 := by decide
      have ha := hpush_any w.heap.size q G5 _ 1 ⟨24, 25, 0, []⟩ (.slice none 0 0) wr (by decide) (tiny_plain _ _ _ (by decide) (by decide) (by decide)) (Ch.spare_mk _ _ _ _ _ (by decide)) hc5 (Rd.nil _ _) ⟨_, rfl, rfl⟩
      rw [show (⟨[fuG 24], 0, 1 + 2 * 24, 524288⟩ : Ch).push 1 ⟨24, 25, 0, []⟩ = (0, 10, ⟨[fuG 24], 0, 51, 524288⟩) from
        Ch.push_one_full (fuG 24) _ _ _ _ (by show ¬ (1 : Int) < 0; decide) (by rw [fuG_top]; decide) (fuG_top 24).symm (by show 24 ≤ (plainB 24).length; rw [plainB_len]; decide)] at ha
      unfold bval at ha
      simp only at ha
      have HA := Lib.hid ha
      have HC5 := Lib.hid hc5
      have HB5 := Lib.hid hb5
      clear ha hc5 hb5
      go_wp2_with fail
      refine HA.out.mono ?_
      rintro e w6 ⟨G6, rfl, hc6, hG6, hm6⟩
      obtain ⟨k, hk⟩ : ∃ k, k = pop % 25 := ⟨_, rfl⟩
      have hk25 : k < 25 := by omega
      have hkr : Int.tmod (pop : Int) 25 = (k : Int) := by rw [hk]; simp [Int.tmod]
      have hkr2 : (pop : Int) % 25 = (k : Int) := by omega
      have hpo := hpop_any w.heap.size q G6 _ 1 (k : Int) w6 (by decide) (by omega) (Ch.spare_mk _ _ _ _ _ (by decide)) hc6 ⟨_, rfl, rfl⟩
      rw [show (⟨[fuG 24], 0, 51, 524288⟩ : Ch).pop 1 (k : Int) = (0, ⟨[fuP k], 0, 52, 524288⟩) from Ch.pop_one (fuG 24) _ _ _ _ (by rw [fuG_top]; omega)] at hpo
      simp only at hpo
      have HPO := Lib.hid hpo
      have HC6 := Lib.hid hc6
      have HB6 := Lib.hid (HB5.out.trans (hm6.below HC5.out.low.1 (fun i hi => (HC5.out.low.2 i hi).1)))
      clear hpo hc6 hG6 hm6 HA HC5 HB5 hk
      go_wp2_with fail
      refine HPO.out.mono ?_
      rintro e w7 ⟨G7, rfl, hc7, hG7, hm7⟩
      obtain ⟨ht, hln⟩ := fuP_all k hk25
      have hb := hpush_any w.heap.size q G7 _ 1 ⟨24, 25 + (n : Int), 0, []⟩ (.slice none 0 0) w7 (by decide) (tiny_plain _ _ _ (by decide) (by omega) (by decide)) (Ch.spare_mk _ _ _ _ _ (by decide)) hc7 (Rd.nil _ _) ⟨_, rfl, rfl⟩
      unfold bval at hb
      simp only at hb
      have HC7 := Lib.hid hc7
      have HB7 := Lib.hid (HB6.out.trans (hm7.below HC6.out.low.1 (fun i hi => (HC6.out.low.2 i hi).1)))
      clear hc7 hG7 hm7 HPO HC6 HB6 hkr hkr2
      by_cases hk0 : k = 0
      · subst hk0
        rw [show (⟨[fuP 0], 0, 52, 524288⟩ : Ch).push 1 ⟨24, 25 + (n : Int), 0, []⟩ = (0, 10, ⟨[fuP 0], 0, 54, 524288⟩) from
          Ch.push_one_full (fuP 0) _ _ _ _ (by show ¬ (1 : Int) < 0; decide) (by rw [ht]; show (24 : Int) < 25 + (n : Int); omega) ht.symm (by rw [hln]; decide)] at hb
        have HA := Lib.hid hb
        clear hb ht hln
        go_wp2_with fail
        refine HA.out.mono ?_
        rintro e w8 ⟨G8, rfl, hc8, hG8, hm8⟩
        have HB8 := Lib.hid (HB7.out.trans (hm8.below HC7.out.low.1 (fun i hi => (HC7.out.low.2 i hi).1)))
        clear hc8 hG8 hm8
        go_wp2_with fail
        go_ret
        exact ⟨rfl, HB8.out⟩
      · have hk1 : 0 < (k : Int) := by omega
        rw [show (⟨[fuP k], 0, 52, 524288⟩ : Ch).push 1 ⟨24, 25 + (n : Int), 0, []⟩ = (25 + (n : Int), 0, ⟨[(fuP k).add ⟨24, 25 + (n : Int), 0, []⟩], 0, 54, 524288⟩) from
          Ch.push_one (fuP k) _ _ _ _ (by show ¬ (1 : Int) < 0; decide) (by rw [ht]; show (24 : Int) < 25 + (n : Int); omega) ht.symm (by rw [hln]; omega)] at hb
        have HA := Lib.hid hb
        clear hb ht hln
        go_wp2_with fail
        refine HA.out.mono ?_
        rintro e w8 ⟨G8, rfl, hc8, hG8, hm8⟩
        have HB8 := Lib.hid (HB7.out.trans (hm8.below HC7.out.low.1 (fun i hi => (HC7.out.low.2 i hi).1)))
        clear hc8 hG8 hm8
        go_wp2_with fail
        go_ret
        exact ⟨rfl, HB8.out⟩
end Go.Proofs.YtmigninibdecmaaGreat

/- ChestLocks' walk. -/
import Derived.Test.YtmigninibdecmaaGreatFat
namespace Go.Proofs.YtmigninibdecmaaGreat
open Go.RowKit
attribute [local go_sem] less_eq same_eq le_eq ge_eq gt_eq

def lkG (a n : Int) : Lg := ⟨a, n, n, 0, [], []⟩
set_option maxHeartbeats 8000000 in
set_option maxRecDepth 100000 in
theorem chestLocks_walk (x y n : Nat) (hx : x < 256) (hy : y < 256) (hn : n < 256) (w : World) :
    Calls Tryz.prog 3 #[.int .u8 (x : Int), .int .u8 (y : Int), .int .u8 (n : Int)] w fun e w' => e = .returned (.bool true) ∧ Below w.heap.size w w' := by
  have HN := Lib.hid (new_any 100000 (by decide) (by decide) w)
  go_enter Tryz.func3, Tryz.ntmps3
  go_wp2_with fail
  refine HN.out.mono ?_
  rintro e w1 ⟨p, rfl, ht, hb⟩
  have HO := Lib.hid (hopen_any 100000 (by decide) (by decide) w w1 p ht hb)
  clear HN ht hb
  go_wp2_with fail
  refine HO.out.mono ?_
  rintro e w2 ⟨q, G, rfl, hc2, hb2⟩
  have HC2 := Lib.hid hc2
  have HB2 := Lib.hid hb2
  clear hc2 hb2 HO
  go_wp2_with fail
  refine (awake_any w2).mono ?_
  rintro e w3 ⟨rfl, hb3⟩
  have hc3 := HC2.out.mv (Mv.of_new hb3 (fun _ => False)) (fun _ _ h => h)
  have hl := hlay_any w.heap.size q G (Ch.new 100000) ((x : Int) + 1) (n : Int) [] (.slice none 0 0) w3 (by omega) (by omega) (by simp) trivial (by simp) (by decide) (Ch.end_new _ _) hc3 (RdBts.none' w3)
  rw [List.map_nil, show (Ch.new 100000).lay ((x : Int) + 1) (n : Int) [] = (0, ⟨[lkG ((x : Int) + 1) n], 0, 1, 100000⟩) from Ch.lay_first _ _ _ _ (by omega)] at hl
  simp only at hl
  have HL := Lib.hid hl
  have HC3 := Lib.hid hc3
  have HB3 := Lib.hid (HB2.out.trans (hb3.mono HB2.out.size))
  clear hl hc3 hb3 HC2 HB2
  go_wp2_with fail
  refine HL.out.mono ?_
  rintro e w4 ⟨G4, rfl, hc4, hG4, hm4⟩
  have HB4 := Lib.hid (HB3.out.trans (hm4.below HC3.out.low.1 (fun i hi => (HC3.out.low.2 i hi).1)))
  have hk := hlock_any w.heap.size q G4 _ ((y : Int) + 1) ((x : Int) + 1) w4 (by omega) (by omega) (Ch.spare_mk _ _ _ _ _ (by decide)) hc4 ⟨_, rfl, rfl⟩
  rw [show (⟨[lkG ((x : Int) + 1) n], 0, 1, 100000⟩ : Ch).lockd ((y : Int) + 1) ((x : Int) + 1) = (((n : Int), 0, [], 0), ⟨[lkG ((x : Int) + 1) n], (y : Int) + 1, 2, 100000⟩) from Ch.lock_one (lkG ((x : Int) + 1) n) 0 1 100000 ((y : Int) + 1) (by omega)] at hk
  simp only at hk
  have HK := Lib.hid hk
  have HC4 := Lib.hid hc4
  clear hk hc4 hG4 hm4 HL HC3 HB3
  go_wp2_with fail
  refine HK.out.mono ?_
  rintro e w5 ⟨G5, v5, l5, rfl, hl5, hr5, hc5, hG5, hm5⟩
  have HB5 := Lib.hid (HB4.out.trans (hm5.below HC4.out.low.1 (fun i hi => (HC4.out.low.2 i hi).1)))
  have hp := hpush_any w.heap.size q G5 _ ((x : Int) + 1) ⟨n, (n : Int) + 1, 0, []⟩ (.slice none 0 0) w5 (by omega) (tiny_plain _ _ _ (by omega) (by omega) (by decide)) (Ch.spare_mk _ _ _ _ _ (by decide)) hc5 (Rd.nil _ _) ⟨_, rfl, rfl⟩
  unfold bval at hp
  simp only at hp
  have HC5 := Lib.hid hc5
  clear hc5 hG5 hm5 hr5 hl5 HK HC4 HB4
  by_cases hxy : x < y
  · rw [show (⟨[lkG ((x : Int) + 1) n], (y : Int) + 1, 2, 100000⟩ : Ch).push ((x : Int) + 1) ⟨n, (n : Int) + 1, 0, []⟩ = (0, 15, ⟨[lkG ((x : Int) + 1) n], (y : Int) + 1, 4, 100000⟩) from Ch.push_one_locked (lkG ((x : Int) + 1) n) _ _ _ _ (by show (x : Int) + 1 < _; omega)] at hp
    have HP := Lib.hid hp
    clear hp
    go_wp2_with fail
    refine HP.out.mono ?_
    rintro e w6 ⟨G6, rfl, hc6, hG6, hm6⟩
    have HB6 := Lib.hid (HB5.out.trans (hm6.below HC5.out.low.1 (fun i hi => (HC5.out.low.2 i hi).1)))
    have hv := hlive_any w.heap.size q G6 _ ((x : Int) + 1) w6 (by omega) hc6 ⟨_, rfl, rfl⟩
    rw [show (⟨[lkG ((x : Int) + 1) n], (y : Int) + 1, 4, 100000⟩ : Ch).live ((x : Int) + 1) = 15 from (Ch.live_one (lkG ((x : Int) + 1) n) _ _ _).trans (if_pos (by show (x : Int) + 1 < _; omega))] at hv
    have HV := Lib.hid hv
    have HC6 := Lib.hid hc6
    clear hv hc6 hG6 hm6 HP HC5 HB5
    go_wp2_with fail
    refine HV.out.mono ?_
    rintro e w7 ⟨rfl, hb7⟩
    have HB7 := Lib.hid (HB6.out.trans (hb7.mono HB6.out.size))
    have hc7 := HC6.out.mv (Mv.of_new hb7 (fun _ => False)) (fun _ _ h => h)
    have hj := hlay_any w.heap.size q G6 _ ((x : Int) + 1 + 300) 3 [] (.slice none 0 0) w7 (by omega) (by omega) (by simp) trivial (by simp) (Ch.spare_mk _ _ _ _ _ (by decide)) (Ch.end_one _ _ _ _ _ (by show (x : Int) + 1 ≤ _; omega)) hc7 (RdBts.none' w7)
    rw [List.map_nil, show (⟨[lkG ((x : Int) + 1) n], (y : Int) + 1, 4, 100000⟩ : Ch).lay ((x : Int) + 1 + 300) 3 [] = (0, ⟨[lkG ((x : Int) + 1) n, ⟨(x : Int) + 1 + 300, 3, 3, 0, [], []⟩], (y : Int) + 1, 5, 100000⟩) from Ch.lay_next (lkG ((x : Int) + 1) n) _ _ _ _ _ _ (by omega) (by show (x : Int) + 1 < _; omega)] at hj
    simp only at hj
    have HJ := Lib.hid hj
    have HC7 := Lib.hid hc7
    clear hj hc7 hb7 HV HC6 HB6
    go_wp2_with fail
    refine HJ.out.mono ?_
    rintro e w8 ⟨G8, rfl, hc8, hG8, hm8⟩
    have HB8 := Lib.hid (HB7.out.trans (hm8.below HC7.out.low.1 (fun i hi => (HC7.out.low.2 i hi).1)))
    have hm := hlay_any w.heap.size q G8 _ ((x : Int) + 1) (n : Int) [] (.slice none 0 0) w8 (by omega) (by omega) (by simp) trivial (by simp) (Ch.spare_mk _ _ _ _ _ (by decide)) (.inl (by simp only; omega)) hc8 (RdBts.none' w8)
    rw [List.map_nil, Ch.lay_locked _ _ _ _ (by simp only; omega)] at hm
    simp only at hm
    have HM := Lib.hid hm
    have HC8 := Lib.hid hc8
    clear hm hc8 hG8 hm8 HJ HC7 HB7
    go_wp2_with fail
    refine HM.out.mono ?_
    rintro e w9 ⟨G9, rfl, hc9, hG9, hm9⟩
    have HB9 := Lib.hid (HB8.out.trans (hm9.below HC8.out.low.1 (fun i hi => (HC8.out.low.2 i hi).1)))
    clear hc9 hG9 hm9
    go_wp2_with fail
    go_ret
    exact ⟨rfl, HB9.out⟩
  · rw [show (⟨[lkG ((x : Int) + 1) n], (y : Int) + 1, 2, 100000⟩ : Ch).push ((x : Int) + 1) ⟨n, (n : Int) + 1, 0, []⟩ = ((n : Int) + 1, 0, ⟨[(lkG ((x : Int) + 1) n).add ⟨n, (n : Int) + 1, 0, []⟩], (y : Int) + 1, 4, 100000⟩) from Ch.push_one (lkG ((x : Int) + 1) n) _ _ _ _ (by show ¬ (x : Int) + 1 < _; omega) (by show (n : Int) < (n : Int) + 1; omega) rfl (by show (0 : Nat) < 24; decide)] at hp
    have HP := Lib.hid hp
    clear hp
    go_wp2_with fail
    refine HP.out.mono ?_
    rintro e w6 ⟨G6, rfl, hc6, hG6, hm6⟩
    have HB6 := Lib.hid (HB5.out.trans (hm6.below HC5.out.low.1 (fun i hi => (HC5.out.low.2 i hi).1)))
    have hv := hlive_any w.heap.size q G6 _ ((x : Int) + 1) w6 (by omega) hc6 ⟨_, rfl, rfl⟩
    rw [show (⟨[(lkG ((x : Int) + 1) n).add ⟨n, (n : Int) + 1, 0, []⟩], (y : Int) + 1, 4, 100000⟩ : Ch).live ((x : Int) + 1) = 0 from (Ch.live_one ((lkG ((x : Int) + 1) n).add ⟨n, (n : Int) + 1, 0, []⟩) _ _ _).trans (if_neg (by show ¬ (x : Int) + 1 < _; omega))] at hv
    have HV := Lib.hid hv
    have HC6 := Lib.hid hc6
    clear hv hc6 hG6 hm6 HP HC5 HB5
    go_wp2_with fail
    refine HV.out.mono ?_
    rintro e w7 ⟨rfl, hb7⟩
    have HB7 := Lib.hid (HB6.out.trans (hb7.mono HB6.out.size))
    have hc7 := HC6.out.mv (Mv.of_new hb7 (fun _ => False)) (fun _ _ h => h)
    have hj := hlay_any w.heap.size q G6 _ ((x : Int) + 1 + 300) 3 [] (.slice none 0 0) w7 (by omega) (by omega) (by simp) trivial (by simp) (Ch.spare_mk _ _ _ _ _ (by decide)) (Ch.end_one _ _ _ _ _ (by show (x : Int) + 1 ≤ _; omega)) hc7 (RdBts.none' w7)
    rw [List.map_nil, show (⟨[(lkG ((x : Int) + 1) n).add ⟨n, (n : Int) + 1, 0, []⟩], (y : Int) + 1, 4, 100000⟩ : Ch).lay ((x : Int) + 1 + 300) 3 [] = (0, ⟨[(lkG ((x : Int) + 1) n).add ⟨n, (n : Int) + 1, 0, []⟩, ⟨(x : Int) + 1 + 300, 3, 3, 0, [], []⟩], (y : Int) + 1, 5, 100000⟩) from Ch.lay_next ((lkG ((x : Int) + 1) n).add ⟨n, (n : Int) + 1, 0, []⟩) _ _ _ _ _ _ (by omega) (by show (x : Int) + 1 < _; omega)] at hj
    simp only at hj
    have HJ := Lib.hid hj
    have HC7 := Lib.hid hc7
    clear hj hc7 hb7 HV HC6 HB6
    go_wp2_with fail
    refine HJ.out.mono ?_
    rintro e w8 ⟨G8, rfl, hc8, hG8, hm8⟩
    have HB8 := Lib.hid (HB7.out.trans (hm8.below HC7.out.low.1 (fun i hi => (HC7.out.low.2 i hi).1)))
    clear hc8 hG8 hm8 HJ HC7 HB7
    go_wp2_with fail
    go_ret
    exact ⟨rfl, HB8.out⟩
end Go.Proofs.YtmigninibdecmaaGreat

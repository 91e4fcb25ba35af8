/- PastBack's walk. -/
import Derived.Test.YtpfhkijnaiopoaaPTwo
namespace Go.Proofs.Ytpfhkijnaiopoaa
open Go.RowKit

/-- the states through which the first one goes -/
def b1 (a : List Chg) : Pa := ⟨0, 5, [(5, applyP [] a)]⟩
def b2 (a b : List Chg) : Pa := ⟨0, 9, [(5, applyP [] a), (9, applyP (applyP [] a) b)]⟩
def b3 (a b c : List Chg) : Pa := ⟨0, 12, [(5, applyP [] a), (9, applyP (applyP [] a) b), (12, applyP (applyP (applyP [] a) b) c)]⟩
def b4 (a c : List Chg) : Pa := ⟨0, 8, [(5, applyP [] a), (8, applyP (applyP [] a) c)]⟩
theorem b1_add {a : List Chg} (h : allAns a = 0) : Pa.new.add 5 a = (0, b1 a) := by rw [add_good (by decide) h]; rfl
theorem b2_add {a b : List Chg} (h : allAns b = 0) : (b1 a).add 9 b = (0, b2 a b) := by rw [add_good (by simp [b1]) h]; rfl
theorem b3_add {a b c : List Chg} (h : allAns c = 0) : (b2 a b).add 12 c = (0, b3 a b c) := by rw [add_good (by simp [b2]) h]; rfl
theorem b1_back {a b c : List Chg} : (b3 a b c).back 5 = (0, b1 a) := by rw [back_good (by simp [b3]) (by simp [b3])]; rfl
theorem b4_add {a c : List Chg} (h : allAns c = 0) : (b1 a).add 8 c = (0, b4 a c) := by rw [add_good (by simp [b1]) h]; rfl
theorem bad1 {a : List Chg} (h : allAns a ≠ 0) : Pa.new.add 5 a = (allAns a, Pa.new) := add_bad (by decide) h
theorem bad2 {a b : List Chg} (h : allAns b ≠ 0) : (b1 a).add 9 b = (allAns b, b1 a) := add_bad (by simp [b1]) h
theorem bad3 {a b c : List Chg} (h : allAns c ≠ 0) : (b2 a b).add 12 c = (allAns c, b2 a b) := add_bad (by simp [b2]) h

set_option maxHeartbeats 8000000 in
set_option maxRecDepth 100000 in
theorem pastBack_walk (a b c : List Chg) (s : K × K) (va vb vc : Value) (w : World) (ha : RdC w w.heap.size va a) (hb : RdC w w.heap.size vb b) (hc : RdC w w.heap.size vc c) (hsa : ∀ y ∈ a, smallC y) (hsb : ∀ y ∈ b, smallC y) (hsc : ∀ y ∈ c, smallC y) (hs1 : smallS s.1) (hs2 : smallS s.2) (hn : a.length + b.length + c.length + c.length ≤ many) :
    Calls Try.prog 6 #[va, vb, vc, spv s] w fun e w' => e = .returned (.bool true) ∧ Below w.heap.size w w' := by
  obtain ⟨s1, s2⟩ := s
  unfold spv
  simp only at hs1 hs2 ⊢
  obtain ⟨wa, hwa⟩ : ∃ wa, wa = w.alloc (.cells #[.string s1, .string s2] 33) := ⟨_, rfl⟩
  have hB0 : Below w.heap.size w wa := by rw [hwa]; exact (Below.refl _ w).alloc (Nat.le_refl _) _
  have hW0 : Whole wa w.heap.size 33 [.string s1, .string s2] := by rw [hwa]; exact Whole.fresh w _ [_, _]
  have HW := Lib.hid hwa
  have HBW := Lib.hid hB0
  have HWS := Lib.hid hW0
  have HNN := Lib.hid hn
  have Ha := Lib.hid ((ha.below hB0 (Nat.le_refl _)).mono hB0.size)
  have HSa := Lib.hid hsa
  have Hb := Lib.hid ((hb.below hB0 (Nat.le_refl _)).mono hB0.size)
  have HSb := Lib.hid hsb
  have Hc := Lib.hid ((hc.below hB0 (Nat.le_refl _)).mono hB0.size)
  have HSc := Lib.hid hsc
  have HN := Lib.hid (pnew_any wa)
  clear hwa hB0 hW0 hn ha hb hc hsa hsb hsc
  go_enter Try.func6, Try.ntmps6
  go_wp2_with fail
  rw [← HW.out]
  refine HN.out.mono ?_
  rintro e wb ⟨q1, Ga, rfl, hka, hba⟩
  have HKA := Lib.hid hka
  have HBA := Lib.hid hba
  have HN := Lib.hid (pnew_any wb)
  clear hka hba
  go_wp2_with fail
  refine HN.out.mono ?_
  rintro e w0 ⟨q2, Gb, rfl, hkb, hbb⟩
  have HT0 := Lib.hid (show Two w0 wa.heap.size q1 q2 Ga Gb 0 0 Pa.new Pa.new from ⟨HKA.out.same hbb, hkb.lower HBA.out.size, fun i hi hd => by have := (HKA.out.low.2 i hi).2; have := (hkb.low.2 i hd).1; omega⟩)
  have HB0 := Lib.hid (HBA.out.trans (hbb.mono HBA.out.size))
  clear hkb hbb HN HKA HBA
  have HC := Lib.hid (awake_any w0)
  go_wp2_with fail
  refine HC.out.mono ?_
  rintro e w1 ⟨rfl, hb⟩
  have HT1 := Lib.hid (HT0.out.same hb)
  have HB1 := Lib.hid (HB0.out.trans (hb.mono HB0.out.size))
  clear hb HC
  by_cases ha : allAns a = 0
  rotate_left
  · obtain ⟨z, hz⟩ : ∃ z, z = allAns a := ⟨_, rfl⟩
    have heq := bad1 (show allAns a ≠ 0 from ha)
    rw [← hz] at heq ha
    have hc := padd_any wa.heap.size q1 _ _ _ 5 _ _ w1 HT1.out.a (by unfold I64; omega) (HT1.out.a.came (Nat.le_refl _) (Ha.out.below HB1.out (Nat.le_refl _))) HSa.out (by have := HNN.out; omega)
    rw [heq] at hc
    have HC := Lib.hid hc
    clear hc heq hz
    go_wp2_with fail
    refine HC.out.mono ?_
    rintro e w2 ⟨rfl, G2, hk, hG, hm⟩
    have HT2 := Lib.hid (HT1.out.one hk hG hm)
    have HB2 := Lib.hid (HB1.out.trans (pv_below HT1.out.a hm))
    clear hk hG hm HC
    have HC := Lib.hid (awake_any w2)
    go_wp2_with fail
    refine HC.out.mono ?_
    rintro e w3 ⟨rfl, hb⟩
    have HT3 := Lib.hid (HT2.out.same hb)
    have HB3 := Lib.hid (HB2.out.trans (hb.mono HB2.out.size))
    clear hb HC
    go_wp2_with fail
    go_ret
    exact ⟨rfl, HBW.out.trans (HB3.out.mono HBW.out.size)⟩
  have HQa := Lib.hid ha
  clear ha
  have hc := padd_any wa.heap.size q1 _ _ _ 5 _ _ w1 HT1.out.a (by unfold I64; omega) (HT1.out.a.came (Nat.le_refl _) (Ha.out.below HB1.out (Nat.le_refl _))) HSa.out (by have := HNN.out; omega)
  rw [b1_add HQa.out] at hc
  have HC := Lib.hid hc
  clear hc
  go_wp2_with fail
  refine HC.out.mono ?_
  rintro e w2 ⟨rfl, G2, hk, hG, hm⟩
  have HT2 := Lib.hid (HT1.out.one hk hG hm)
  have HB2 := Lib.hid (HB1.out.trans (pv_below HT1.out.a hm))
  clear hk hG hm HC
  have hc := padd_any wa.heap.size q2 _ _ _ 5 _ _ w2 HT2.out.b (by unfold I64; omega) (HT2.out.b.came (Nat.le_refl _) (Ha.out.below HB2.out (Nat.le_refl _))) HSa.out (by have := HNN.out; omega)
  rw [b1_add HQa.out] at hc
  have HC := Lib.hid hc
  clear hc
  go_wp2_with fail
  refine HC.out.mono ?_
  rintro e w3 ⟨rfl, G3, hk, hG, hm⟩
  have HT3 := Lib.hid (HT2.out.two hk hG hm)
  have HB3 := Lib.hid (HB2.out.trans (pv_below HT2.out.b hm))
  clear hk hG hm HC
  by_cases hb : allAns b = 0
  rotate_left
  · obtain ⟨z, hz⟩ : ∃ z, z = allAns b := ⟨_, rfl⟩
    have heq := bad2 (a := a) (show allAns b ≠ 0 from hb)
    rw [← hz] at heq hb
    have hc := padd_any wa.heap.size q1 _ _ _ 9 _ _ w3 HT3.out.a (by unfold I64; omega) (HT3.out.a.came (Nat.le_refl _) (Hb.out.below HB3.out (Nat.le_refl _))) HSb.out (by have := HNN.out; omega)
    rw [heq] at hc
    have HC := Lib.hid hc
    clear hc heq hz
    go_wp2_with fail
    refine HC.out.mono ?_
    rintro e w4 ⟨rfl, G4, hk, hG, hm⟩
    have HT4 := Lib.hid (HT3.out.one hk hG hm)
    have HB4 := Lib.hid (HB3.out.trans (pv_below HT3.out.a hm))
    clear hk hG hm HC
    have HC := Lib.hid (awake_any w4)
    go_wp2_with fail
    refine HC.out.mono ?_
    rintro e w5 ⟨rfl, hb⟩
    have HT5 := Lib.hid (HT4.out.same hb)
    have HB5 := Lib.hid (HB4.out.trans (hb.mono HB4.out.size))
    clear hb HC
    go_wp2_with fail
    go_ret
    exact ⟨rfl, HBW.out.trans (HB5.out.mono HBW.out.size)⟩
  have HQb := Lib.hid hb
  clear hb
  have hc := padd_any wa.heap.size q1 _ _ _ 9 _ _ w3 HT3.out.a (by unfold I64; omega) (HT3.out.a.came (Nat.le_refl _) (Hb.out.below HB3.out (Nat.le_refl _))) HSb.out (by have := HNN.out; omega)
  rw [b2_add HQb.out] at hc
  have HC := Lib.hid hc
  clear hc
  go_wp2_with fail
  refine HC.out.mono ?_
  rintro e w4 ⟨rfl, G4, hk, hG, hm⟩
  have HT4 := Lib.hid (HT3.out.one hk hG hm)
  have HB4 := Lib.hid (HB3.out.trans (pv_below HT3.out.a hm))
  clear hk hG hm HC
  by_cases hc : allAns c = 0
  rotate_left
  · obtain ⟨z, hz⟩ : ∃ z, z = allAns c := ⟨_, rfl⟩
    have heq := bad3 (a := a) (b := b) (show allAns c ≠ 0 from hc)
    rw [← hz] at heq hc
    have hc := padd_any wa.heap.size q1 _ _ _ 12 _ _ w4 HT4.out.a (by unfold I64; omega) (HT4.out.a.came (Nat.le_refl _) (Hc.out.below HB4.out (Nat.le_refl _))) HSc.out (by have := HNN.out; omega)
    rw [heq] at hc
    have HC := Lib.hid hc
    clear hc heq hz
    go_wp2_with fail
    refine HC.out.mono ?_
    rintro e w5 ⟨rfl, G5, hk, hG, hm⟩
    have HT5 := Lib.hid (HT4.out.one hk hG hm)
    have HB5 := Lib.hid (HB4.out.trans (pv_below HT4.out.a hm))
    clear hk hG hm HC
    have HC := Lib.hid (awake_any w5)
    go_wp2_with fail
    refine HC.out.mono ?_
    rintro e w6 ⟨rfl, hb⟩
    have HT6 := Lib.hid (HT5.out.same hb)
    have HB6 := Lib.hid (HB5.out.trans (hb.mono HB5.out.size))
    clear hb HC
    go_wp2_with fail
    go_ret
    exact ⟨rfl, HBW.out.trans (HB6.out.mono HBW.out.size)⟩
  have HQc := Lib.hid hc
  clear hc
  have hc := padd_any wa.heap.size q1 _ _ _ 12 _ _ w4 HT4.out.a (by unfold I64; omega) (HT4.out.a.came (Nat.le_refl _) (Hc.out.below HB4.out (Nat.le_refl _))) HSc.out (by have := HNN.out; omega)
  rw [b3_add HQc.out] at hc
  have HC := Lib.hid hc
  clear hc
  go_wp2_with fail
  refine HC.out.mono ?_
  rintro e w5 ⟨rfl, G5, hk, hG, hm⟩
  have HT5 := Lib.hid (HT4.out.one hk hG hm)
  have HB5 := Lib.hid (HB4.out.trans (pv_below HT4.out.a hm))
  clear hk hG hm HC
  have hc := pback_any wa.heap.size q1 _ _ _ 5 w5 HT5.out.a (by unfold I64; omega)
  rw [b1_back] at hc
  have HC := Lib.hid hc
  clear hc
  go_wp2_with fail
  refine HC.out.mono ?_
  rintro e w6 ⟨rfl, G6, hk, hG, hm⟩
  have HT6 := Lib.hid (HT5.out.one hk hG hm)
  have HB6 := Lib.hid (HB5.out.trans (pv_below HT5.out.a hm))
  clear hk hG hm HC
  have hc := padd_any wa.heap.size q1 _ _ _ 8 _ _ w6 HT6.out.a (by unfold I64; omega) (HT6.out.a.came (Nat.le_refl _) (Hc.out.below HB6.out (Nat.le_refl _))) HSc.out (by have := HNN.out; omega)
  rw [b4_add HQc.out] at hc
  have HC := Lib.hid hc
  clear hc
  go_wp2_with fail
  refine HC.out.mono ?_
  rintro e w7 ⟨rfl, G7, hk, hG, hm⟩
  have HT7 := Lib.hid (HT6.out.one hk hG hm)
  have HB7 := Lib.hid (HB6.out.trans (pv_below HT6.out.a hm))
  clear hk hG hm HC
  have hc := padd_any wa.heap.size q2 _ _ _ 8 _ _ w7 HT7.out.b (by unfold I64; omega) (HT7.out.b.came (Nat.le_refl _) (Hc.out.below HB7.out (Nat.le_refl _))) HSc.out (by have := HNN.out; omega)
  rw [b4_add HQc.out] at hc
  have HC := Lib.hid hc
  clear hc
  go_wp2_with fail
  refine HC.out.mono ?_
  rintro e w8 ⟨rfl, G8, hk, hG, hm⟩
  have HT8 := Lib.hid (HT7.out.two hk hG hm)
  have HB8 := Lib.hid (HB7.out.trans (pv_below HT7.out.b hm))
  clear hk hG hm HC
  have HWX8 := Lib.hid (HWS.out.below HB8.out HWS.out.size)
  go_wp2_with fail
  go_loopw [11] (fun iv wr => ∃ z : Nat, z ≤ 9 ∧ iv = .int .i64 (z : Int) ∧ Two wr wa.heap.size q1 q2 G7 G8 (0 + a.length + b.length + c.length + c.length) (0 + a.length + c.length) (b4 a c) (b4 a c) ∧ Below wa.heap.size wa wr) (fun iv _ => 9 - (intOf iv).toNat)
  case atStart => exact ⟨0, by omega, rfl, HT8.out, HB8.out⟩
  case round =>
    obtain ⟨z, hz, rfl, ht, hb⟩ := hrel
    have HT9 := Lib.hid ht
    have HB9 := Lib.hid hb
    have HWX9 := Lib.hid (HWS.out.below hb HWS.out.size)
    have hz0 : (0 : Int) ≤ (z : Int) := by omega
    clear ht hb HT8 HB8 HWX8
    by_cases hz8 : z ≤ 8
    · have h1 : (z : Int) ≤ 8 := by omega
      have h2 : IntKind.i64.wrap ((z : Int) + 1) = ((z + 1 : Nat) : Int) := by rw [IntKind.wrap_i64]; omega
      have heq := list_good (p := b4 a c) (s := (s1, s2)) (v := (z : Int)) (most := 1000) (by simp [b4]) (by simp only [b4]; omega) (by decide)
      obtain ⟨X, hX⟩ : ∃ X, X = (((b4 a c).at_ (z : Int)).filter (fun x => hasB (s1, s2) x.1)).take (1000 : Int).toNat := ⟨_, rfl⟩
      rw [← hX] at heq
      have HXL := Lib.hid (show X.length ≤ 1000 by rw [hX, List.length_take, show (1000 : Int).toNat = 1000 from rfl]; omega)
      have HEQ := Lib.hid heq
      clear heq hX
      have d0 := HWX9.out.cell 0 _ rfl
      have d1 := HWX9.out.cell 1 _ rfl
      have hc := plist_any wa.heap.size q1 _ _ _ (s1, s2) (z : Int) 1000 wr HT9.out.a (by unfold I64; omega) (by unfold I64; omega) hs1 hs2
      rw [HEQ.out] at hc
      unfold spv at hc
      simp only at hc
      have HC := Lib.hid hc
      clear hc
      go_wp2_with fail
      refine HC.out.mono ?_
      rintro e w10 ⟨Ax, cx, rfl, hrx, hbx⟩
      have HT10 := Lib.hid (HT9.out.same hbx)
      have HB10 := Lib.hid (HB9.out.trans (hbx.mono HB9.out.size))
      have HWX10 := Lib.hid (HWX9.out.below hbx HWX9.out.size)
      have HRX := Lib.hid hrx.rd
      clear hrx hbx HC d0 d1
      have d0 := HWX10.out.cell 0 _ rfl
      have d1 := HWX10.out.cell 1 _ rfl
      have hc := plist_any wa.heap.size q2 _ _ _ (s1, s2) (z : Int) 1000 w10 HT10.out.b (by unfold I64; omega) (by unfold I64; omega) hs1 hs2
      rw [HEQ.out] at hc
      unfold spv at hc
      simp only at hc
      have HC := Lib.hid hc
      clear hc
      go_wp2_with fail
      refine HC.out.mono ?_
      rintro e w11 ⟨Ay, cy, rfl, hry, hby⟩
      have HT11 := Lib.hid (HT10.out.same hby)
      have HB11 := Lib.hid (HB10.out.trans (hby.mono HB10.out.size))
      have HWX11 := Lib.hid (HWX10.out.below hby HWX10.out.size)
      have HRX2 := Lib.hid (HRX.out.next hby)
      have HRY := Lib.hid hry.rd
      clear hry hby HC HRX d0 d1
      have hc := pairs_any X X _ _ w11 HRX2.out HRY.out (by have := HXL.out; omega) (by have := HXL.out; omega)
      rw [show decide (X = X) = true from decide_eq_true rfl] at hc
      have HC := Lib.hid hc
      clear hc
      go_wp2_with fail
      refine HC.out.mono ?_
      rintro e w12 ⟨rfl, hbp⟩
      have HT12 := Lib.hid (HT11.out.same hbp)
      have HB12 := Lib.hid (HB11.out.trans (hbp.mono HB11.out.size))
      have HWX12 := Lib.hid (HWX11.out.below hbp HWX11.out.size)
      clear hbp HC HRX2 HRY
      go_wp2_with fail
      go_roundw
      case rel => exact ⟨z + 1, by omega, by go_num, HT12.out, HB12.out⟩
      case measure => simp [intOf]; omega
    · obtain rfl : z = 9 := by omega
      have h1 : ¬ ((9 : Nat) : Int) ≤ 8 := by omega
      have d0 := HWX9.out.cell 0 _ rfl
      have d1 := HWX9.out.cell 1 _ rfl
      have hc := plist_any wa.heap.size q1 _ _ _ (s1, s2) 9 5 wr HT9.out.a (by unfold I64; omega) (by unfold I64; omega) hs1 hs2
      rw [list_new (p := b4 a c) (by simp [b4]) (by simp [b4])] at hc
      unfold spv at hc
      simp only at hc
      have HC := Lib.hid hc
      clear hc
      go_wp2_with fail
      refine HC.out.mono ?_
      rintro e wy ⟨Ax, cx, rfl, -, hbx⟩
      have HTY := Lib.hid (HT9.out.same hbx)
      have HBY := Lib.hid (HB9.out.trans (hbx.mono HB9.out.size))
      have hc := pback_any wa.heap.size q1 _ _ _ 9 wy HTY.out.a (by unfold I64; omega)
      rw [back_new (p := b4 a c) (by simp [b4]) (by simp [b4])] at hc
      have HC2 := Lib.hid hc
      clear hc hbx HC d0 d1
      go_wp2_with fail
      refine HC2.out.mono ?_
      rintro e wz ⟨rfl, Gz, hkz, hGz, hmz⟩
      have HBZ := Lib.hid (HBY.out.trans (pv_below HTY.out.a hmz))
      clear hkz hGz hmz HC2
      go_wp2_with fail
      go_ret
      exact ⟨rfl, HBW.out.trans (HBZ.out.mono HBW.out.size)⟩
end Go.Proofs.Ytpfhkijnaiopoaa

/- The walk of the law FrameStates. -/
import Derived.Test.YtiijcikdlemndaaRSta
import Derived.Test.YtiijcikdlemndaaAwk
namespace Go.Proofs.Ytiijcikdlemndaa
open Go.RowKit
attribute [local go_sem] less_eq same_eq le_eq ge_eq gt_eq

theorem getSta_fit (l : List UInt8) : (getSta l).1.chests.length < 4611686018427387904 := by
  unfold getSta
  split
  · have := rdList_len rdN 16 (rdN (rdN (rdN (some l)).2).2).2
    unfold rdSta; simp only; omega
  · simp [zeroS]

theorem both_s (x : Sta) (hf : x.gen < 9223372036854775808 ∧ x.epoch < 9223372036854775808 ∧ x.recd < 9223372036854775808) (hl : x.chests.length ≤ 140737488351232) : ∃ (er : Int) (lz : List UInt8), (er = 0 ∨ er = 2) ∧ (∀ (W : World) (v0 : Value) (h0 : RdI W W.heap.size v0 x.chests), Calls Try.prog 25 #[sval x v0] W fun e w' => ∃ v', e = .returned (.tuple #[v', .int .i64 er]) ∧ RdB w' w'.heap.size v' lz ∧ Below W.heap.size W w') ∧
    (∀ (W : World) (v0 : Value) (h0 : RdI W W.heap.size v0 x.chests), Calls Try.prog 26 #[sval x v0] W fun e w' => ∃ v', e = .returned (.tuple #[v', .int .i64 er]) ∧ RdB w' w'.heap.size v' lz ∧ Below W.heap.size W w') := by
  by_cases hs : soundS x
  · refine ⟨0, staB x, .inl rfl, fun W v0 h0 => ?_, fun W v0 h0 => ?_⟩
    · exact pputS_ok x hs hf (by omega) v0 W h0
    · exact rputS_ok x hs hf (by omega) v0 W h0
  · refine ⟨2, [], .inr rfl, fun W v0 h0 => ?_, fun W v0 h0 => ?_⟩
    · refine (pputS_bad x hs hf (by omega) v0 W h0).mono ?_
      rintro e w' ⟨he, hb⟩
      exact ⟨_, he, Rd.nil _ _, hb⟩
    · refine (rputS_bad x hs hf (by omega) v0 W h0).mono ?_
      rintro e w' ⟨he, hb⟩
      exact ⟨_, he, Rd.nil _ _, hb⟩

set_option maxHeartbeats 8000000 in
set_option maxRecDepth 100000 in
theorem frameStates_walk (x : Sta) (hf : x.gen < 9223372036854775808 ∧ x.epoch < 9223372036854775808 ∧ x.recd < 9223372036854775808) (u0 : Value) (l1 : List UInt8) (vb : Value) (w : World) (hr0 : RdI w w.heap.size u0 x.chests) (hl : x.chests.length ≤ 140737488351232) (hrb : RdB w w.heap.size vb l1) (hl1 : l1.length ≤ 140737488351232) :
    Calls Try.prog 6 #[sval x u0, vb] w fun e w' => e = .returned (.bool true) ∧ Below w.heap.size w w' := by
  obtain ⟨er, lz, her, hP, hQ⟩ := both_s x hf hl
  obtain ⟨X0, cX0, eX0, _, _⟩ := hr0.at
  subst eX0
  obtain ⟨Xb, cXb, eXb, _, _⟩ := hrb.at
  subst eXb
  obtain ⟨w0, hw0⟩ : ∃ w0, w0 = w.alloc (.cells #[.int .i64 x.gen, .int .i64 x.epoch, .int .i64 x.recd, .slice X0 x.chests.length cX0] 51) := ⟨_, rfl⟩
  have hb0 : Below w.heap.size w w0 := by rw [hw0]; exact (Below.refl _ _).alloc (Nat.le_refl _) _
  have HX := Lib.hid (show Whole w0 w.heap.size 51 [.int .i64 x.gen, .int .i64 x.epoch, .int .i64 x.recd, .slice X0 x.chests.length cX0] by rw [hw0]; exact Whole.fresh _ _ _)
  have HR0 := Lib.hid (hr0.next hb0); clear hr0
  have HL1 := Lib.hid (hrb.next hb0); clear hrb
  have HW0 := Lib.hid hw0; clear hw0
  have HB := Lib.hid hb0; clear hb0
  have HP := Lib.hid hP; clear hP
  have HQ := Lib.hid hQ; clear hQ
  obtain ⟨R, hR⟩ : ∃ R, R = getSta l1 := ⟨_, rfl⟩
  have hfx := getSta_fit l1
  rw [← hR] at hfx
  have HRR := Lib.hid hR; clear hR
  obtain ⟨x', i'⟩ := R
  (try simp only at hfx)
  simp only [sval]
  go_enter Try.func6, Try.ntmps6
  have hc := HP.out _ _ HR0.out
  simp only [sval] at hc
  have HC := Lib.hid hc; clear hc HP
  go_wp2_with fail
  (try rw [← HW0.out])
  refine HC.out.mono ?_
  rintro e z1 ⟨va, rfl, hra, hb⟩
  have HX2 := Lib.hid (HX.out.below hb HX.out.size); clear HX; have HX := HX2; clear HX2
  have HR02 := Lib.hid (HR0.out.next hb); clear HR0; have HR0 := HR02; clear HR02
  have HL12 := Lib.hid (HL1.out.next hb); clear HL1; have HL1 := HL12; clear HL12
  have HB2 := Lib.hid (HB.out.trans (hb.mono HB.out.size)); clear HB; have HB := HB2; clear HB2
  have HA := Lib.hid hra
  obtain ⟨Aa, ca, ea, _, _⟩ := hra.at
  subst ea
  clear hra hb HC
  have hc := HQ.out _ _ HR0.out
  simp only [sval] at hc
  have HC := Lib.hid hc; clear hc HQ
  have k0 := HX.out.cell 0 _ rfl
  have k1 := HX.out.cell 1 _ rfl
  have k2 := HX.out.cell 2 _ rfl
  have k3 := HX.out.cell 3 _ rfl
  go_wp2_with fail
  clear k0 k1 k2 k3
  refine HC.out.mono ?_
  rintro e z2 ⟨vc, rfl, hrc, hb⟩
  have HX2 := Lib.hid (HX.out.below hb HX.out.size); clear HX; have HX := HX2; clear HX2
  have HR02 := Lib.hid (HR0.out.next hb); clear HR0; have HR0 := HR02; clear HR02
  have HL12 := Lib.hid (HL1.out.next hb); clear HL1; have HL1 := HL12; clear HL12
  have HA2 := Lib.hid (HA.out.next hb); clear HA; have HA := HA2; clear HA2
  have HB2 := Lib.hid (HB.out.trans (hb.mono HB.out.size)); clear HB; have HB := HB2; clear HB2
  have HCC := Lib.hid hrc
  obtain ⟨Ac, cc, ec, _, _⟩ := hrc.at
  subst ec
  clear hrc hb HC
  have hc := pgetS l1 _ _ HL1.out (by omega)
  rw [← HRR.out] at hc
  simp only [sval] at hc
  have HC := Lib.hid hc; clear hc
  go_wp2_with fail
  refine HC.out.mono ?_
  rintro e yP ⟨g0, rfl, hy0, hb⟩
  have HX2 := Lib.hid (HX.out.below hb HX.out.size); clear HX; have HX := HX2; clear HX2
  have HR02 := Lib.hid (HR0.out.next hb); clear HR0; have HR0 := HR02; clear HR02
  have HL12 := Lib.hid (HL1.out.next hb); clear HL1; have HL1 := HL12; clear HL12
  have HA2 := Lib.hid (HA.out.next hb); clear HA; have HA := HA2; clear HA2
  have HCC2 := Lib.hid (HCC.out.next hb); clear HCC; have HCC := HCC2; clear HCC2
  have HB2 := Lib.hid (HB.out.trans (hb.mono HB.out.size)); clear HB; have HB := HB2; clear HB2
  obtain ⟨YP0, cYP0, eY, _, _⟩ := hy0.at
  subst eY
  obtain ⟨qP, hq⟩ : ∃ W, W = yP.alloc (.cells #[.int .i64 x'.gen, .int .i64 x'.epoch, .int .i64 x'.recd, .slice YP0 x'.chests.length cYP0] 51) := ⟨_, rfl⟩
  have hba : Below yP.heap.size yP qP := by rw [hq]; exact (Below.refl _ _).alloc (Nat.le_refl _) _
  have HVP := Lib.hid (show Whole qP yP.heap.size 51 [.int .i64 x'.gen, .int .i64 x'.epoch, .int .i64 x'.recd, .slice YP0 x'.chests.length cYP0] by rw [hq]; exact Whole.fresh _ _ _)
  have HX2 := Lib.hid (HX.out.below hba HX.out.size); clear HX; have HX := HX2; clear HX2
  have HR02 := Lib.hid (HR0.out.next hba); clear HR0; have HR0 := HR02; clear HR02
  have HL12 := Lib.hid (HL1.out.next hba); clear HL1; have HL1 := HL12; clear HL12
  have HA2 := Lib.hid (HA.out.next hba); clear HA; have HA := HA2; clear HA2
  have HCC2 := Lib.hid (HCC.out.next hba); clear HCC; have HCC := HCC2; clear HCC2
  have HB2 := Lib.hid (HB.out.trans (hba.mono HB.out.size)); clear HB; have HB := HB2; clear HB2
  have HYP0 := Lib.hid (hy0.next hba)
  have HQQ := Lib.hid hq
  clear hq hba hb HC hy0
  go_wp2_with fail
  rw [← HQQ.out]
  clear HQQ
  obtain ⟨GP, hG⟩ : ∃ G, G = yP.heap.size := ⟨_, rfl⟩
  rw [← hG] at HVP ⊢
  clear hG
  have hc := rgetS l1 _ _ HL1.out (by omega)
  rw [← HRR.out] at hc
  simp only [sval] at hc
  have HC := Lib.hid hc; clear hc
  go_wp2_with fail
  refine HC.out.mono ?_
  rintro e yQ ⟨g0, rfl, hy0, hb⟩
  have HX2 := Lib.hid (HX.out.below hb HX.out.size); clear HX; have HX := HX2; clear HX2
  have HVP2 := Lib.hid (HVP.out.below hb HVP.out.size); clear HVP; have HVP := HVP2; clear HVP2
  have HR02 := Lib.hid (HR0.out.next hb); clear HR0; have HR0 := HR02; clear HR02
  have HL12 := Lib.hid (HL1.out.next hb); clear HL1; have HL1 := HL12; clear HL12
  have HA2 := Lib.hid (HA.out.next hb); clear HA; have HA := HA2; clear HA2
  have HCC2 := Lib.hid (HCC.out.next hb); clear HCC; have HCC := HCC2; clear HCC2
  have HYP02 := Lib.hid (HYP0.out.next hb); clear HYP0; have HYP0 := HYP02; clear HYP02
  have HB2 := Lib.hid (HB.out.trans (hb.mono HB.out.size)); clear HB; have HB := HB2; clear HB2
  obtain ⟨YQ0, cYQ0, eY, _, _⟩ := hy0.at
  subst eY
  obtain ⟨qQ, hq⟩ : ∃ W, W = yQ.alloc (.cells #[.int .i64 x'.gen, .int .i64 x'.epoch, .int .i64 x'.recd, .slice YQ0 x'.chests.length cYQ0] 51) := ⟨_, rfl⟩
  have hba : Below yQ.heap.size yQ qQ := by rw [hq]; exact (Below.refl _ _).alloc (Nat.le_refl _) _
  have HVQ := Lib.hid (show Whole qQ yQ.heap.size 51 [.int .i64 x'.gen, .int .i64 x'.epoch, .int .i64 x'.recd, .slice YQ0 x'.chests.length cYQ0] by rw [hq]; exact Whole.fresh _ _ _)
  have HX2 := Lib.hid (HX.out.below hba HX.out.size); clear HX; have HX := HX2; clear HX2
  have HVP2 := Lib.hid (HVP.out.below hba HVP.out.size); clear HVP; have HVP := HVP2; clear HVP2
  have HR02 := Lib.hid (HR0.out.next hba); clear HR0; have HR0 := HR02; clear HR02
  have HL12 := Lib.hid (HL1.out.next hba); clear HL1; have HL1 := HL12; clear HL12
  have HA2 := Lib.hid (HA.out.next hba); clear HA; have HA := HA2; clear HA2
  have HCC2 := Lib.hid (HCC.out.next hba); clear HCC; have HCC := HCC2; clear HCC2
  have HYP02 := Lib.hid (HYP0.out.next hba); clear HYP0; have HYP0 := HYP02; clear HYP02
  have HB2 := Lib.hid (HB.out.trans (hba.mono HB.out.size)); clear HB; have HB := HB2; clear HB2
  have HYQ0 := Lib.hid (hy0.next hba)
  have HQQ := Lib.hid hq
  clear hq hba hb HC hy0
  go_wp2_with fail
  rw [← HQQ.out]
  clear HQQ
  obtain ⟨GQ, hG⟩ : ∃ G, G = yQ.heap.size := ⟨_, rfl⟩
  rw [← hG] at HVQ ⊢
  clear hG
  refine (awake_any _).mono ?_
  rintro e wa ⟨rfl, hb⟩
  have HX2 := Lib.hid (HX.out.below hb HX.out.size); clear HX; have HX := HX2; clear HX2
  have HVP2 := Lib.hid (HVP.out.below hb HVP.out.size); clear HVP; have HVP := HVP2; clear HVP2
  have HVQ2 := Lib.hid (HVQ.out.below hb HVQ.out.size); clear HVQ; have HVQ := HVQ2; clear HVQ2
  have HR02 := Lib.hid (HR0.out.next hb); clear HR0; have HR0 := HR02; clear HR02
  have HL12 := Lib.hid (HL1.out.next hb); clear HL1; have HL1 := HL12; clear HL12
  have HA2 := Lib.hid (HA.out.next hb); clear HA; have HA := HA2; clear HA2
  have HCC2 := Lib.hid (HCC.out.next hb); clear HCC; have HCC := HCC2; clear HCC2
  have HYP02 := Lib.hid (HYP0.out.next hb); clear HYP0; have HYP0 := HYP02; clear HYP02
  have HYQ02 := Lib.hid (HYQ0.out.next hb); clear HYQ0; have HYQ0 := HYQ02; clear HYQ02
  have HB2 := Lib.hid (HB.out.trans (hb.mono HB.out.size)); clear HB; have HB := HB2; clear HB2
  clear hb
  have hca := run_convB HA.out
  have hcb := run_convB HCC.out
  generalize lz.length = ln at hca hcb ⊢
  have hc := sameS_eq x' hfx _ _ _ HYP0.out HYQ0.out
  simp only [sval] at hc
  have HC := Lib.hid hc; clear hc
  have k0 := HVP.out.cell 0 _ rfl
  have j0 := HVQ.out.cell 0 _ rfl
  have k1 := HVP.out.cell 1 _ rfl
  have j1 := HVQ.out.cell 1 _ rfl
  have k2 := HVP.out.cell 2 _ rfl
  have j2 := HVQ.out.cell 2 _ rfl
  have k3 := HVP.out.cell 3 _ rfl
  have j3 := HVQ.out.cell 3 _ rfl
  generalize strB lz = sz at hca hcb
  go_wp2_with fail
  refine HC.out.mono ?_
  rintro e wz ⟨rfl, hb⟩
  have HB2 := Lib.hid (HB.out.trans (hb.mono HB.out.size))
  clear k0 j0 k1 j1 k2 j2 k3 j3 hca hcb hb
  go_wp2_with fail
  go_ret
  exact ⟨rfl, HB2.out⟩
end Go.Proofs.Ytiijcikdlemndaa

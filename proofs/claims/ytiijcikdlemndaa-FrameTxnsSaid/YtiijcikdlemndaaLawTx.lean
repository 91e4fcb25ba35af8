/- The walk of the law FrameTxns. -/
import Derived.Test.YtiijcikdlemndaaRTxn
import Derived.Test.YtiijcikdlemndaaAwk
namespace Go.Proofs.Ytiijcikdlemndaa
open Go.RowKit
attribute [local go_sem] less_eq same_eq le_eq ge_eq gt_eq

theorem getTxn_fit (l : List UInt8) : fitT (getTxn l).1 := by
  unfold getTxn
  split
  · have h1 := rdList_len rdSpan 24 (rdN (some l)).2
    have h2 := rdList_len rdChg 24 (rdList rdSpan 24 (rdN (some l)).2).2
    have h3 := rdSpans_len 24 (rdN (some l)).2
    have h4 := rdChgs_len 24 (rdList rdSpan 24 (rdN (some l)).2).2
    unfold rdTxn fitT
    simp only
    exact ⟨by omega, fun s hs => by have := h3 s hs; omega, by omega, fun c hc => ⟨by have := (h4 c hc).1; omega, by have := (h4 c hc).2; omega⟩⟩
  · unfold fitT zeroT; simp

theorem both_t (x : Txn) (hf : x.read < 9223372036854775808) (hl : fitT x) : ∃ (er : Int) (lz : List UInt8), (er = 0 ∨ er = 2) ∧ (∀ (W : World) (v0 v1 : Value) (h0 : RdP W W.heap.size v0 x.reads) (h1 : RdC W W.heap.size v1 x.chgs), Calls Try.prog 15 #[tval x v0 v1] W fun e w' => ∃ v', e = .returned (.tuple #[v', .int .i64 er]) ∧ RdB w' w'.heap.size v' lz ∧ Below W.heap.size W w') ∧
    (∀ (W : World) (v0 v1 : Value) (h0 : RdP W W.heap.size v0 x.reads) (h1 : RdC W W.heap.size v1 x.chgs), Calls Try.prog 16 #[tval x v0 v1] W fun e w' => ∃ v', e = .returned (.tuple #[v', .int .i64 er]) ∧ RdB w' w'.heap.size v' lz ∧ Below W.heap.size W w') := by
  by_cases hs : soundT x
  · refine ⟨0, txnB x, .inl rfl, fun W v0 v1 h0 h1 => ?_, fun W v0 v1 h0 h1 => ?_⟩
    · exact pputT_ok x hs hf hl v0 v1 W h0 h1
    · exact rputT_ok x hs hf hl v0 v1 W h0 h1
  · refine ⟨2, [], .inr rfl, fun W v0 v1 h0 h1 => ?_, fun W v0 v1 h0 h1 => ?_⟩
    · refine (pputT_bad x hs hf hl v0 v1 W h0 h1).mono ?_
      rintro e w' ⟨he, hb⟩
      exact ⟨_, he, Rd.nil _ _, hb⟩
    · refine (rputT_bad x hs hf hl v0 v1 W h0 h1).mono ?_
      rintro e w' ⟨he, hb⟩
      exact ⟨_, he, Rd.nil _ _, hb⟩

set_option maxHeartbeats 8000000 in
set_option maxRecDepth 100000 in
theorem frameTxns_walk (x : Txn) (hf : x.read < 9223372036854775808) (u0 u1 : Value) (l1 : List UInt8) (vb : Value) (w : World) (hr0 : RdP w w.heap.size u0 x.reads) (hr1 : RdC w w.heap.size u1 x.chgs) (hl : fitT x) (hrb : RdB w w.heap.size vb l1) (hl1 : l1.length ≤ 140737488351232) :
    Calls Try.prog 4 #[tval x u0 u1, vb] w fun e w' => e = .returned (.bool true) ∧ Below w.heap.size w w' := by
  obtain ⟨er, lz, her, hP, hQ⟩ := both_t x hf hl
  obtain ⟨X0, cX0, eX0, _, _⟩ := hr0.at
  subst eX0
  obtain ⟨X1, cX1, eX1, _, _⟩ := hr1.at
  subst eX1
  obtain ⟨Xb, cXb, eXb, _, _⟩ := hrb.at
  subst eXb
  obtain ⟨w0, hw0⟩ : ∃ w0, w0 = w.alloc (.cells #[.int .i64 x.read, .slice X0 x.reads.length cX0, .slice X1 x.chgs.length cX1] 36) := ⟨_, rfl⟩
  have hb0 : Below w.heap.size w w0 := by rw [hw0]; exact (Below.refl _ _).alloc (Nat.le_refl _) _
  have HX := Lib.hid (show Whole w0 w.heap.size 36 [.int .i64 x.read, .slice X0 x.reads.length cX0, .slice X1 x.chgs.length cX1] by rw [hw0]; exact Whole.fresh _ _ _)
  have HR0 := Lib.hid (hr0.next hb0); clear hr0
  have HR1 := Lib.hid (hr1.next hb0); clear hr1
  have HL1 := Lib.hid (hrb.next hb0); clear hrb
  have HW0 := Lib.hid hw0; clear hw0
  have HB := Lib.hid hb0; clear hb0
  have HP := Lib.hid hP; clear hP
  have HQ := Lib.hid hQ; clear hQ
  obtain ⟨R, hR⟩ : ∃ R, R = getTxn l1 := ⟨_, rfl⟩
  have hfx := getTxn_fit l1
  rw [← hR] at hfx
  have HRR := Lib.hid hR; clear hR
  obtain ⟨x', i'⟩ := R
  (try simp only at hfx)
  simp only [tval]
  go_enter Try.func4, Try.ntmps4
  have hc := HP.out _ _ _ HR0.out HR1.out
  simp only [tval] at hc
  have HC := Lib.hid hc; clear hc HP
  go_wp2_with fail
  (try rw [← HW0.out])
  refine HC.out.mono ?_
  rintro e z1 ⟨va, rfl, hra, hb⟩
  have HX2 := Lib.hid (HX.out.below hb HX.out.size); clear HX; have HX := HX2; clear HX2
  have HR02 := Lib.hid (HR0.out.next hb); clear HR0; have HR0 := HR02; clear HR02
  have HR12 := Lib.hid (HR1.out.next hb); clear HR1; have HR1 := HR12; clear HR12
  have HL12 := Lib.hid (HL1.out.next hb); clear HL1; have HL1 := HL12; clear HL12
  have HB2 := Lib.hid (HB.out.trans (hb.mono HB.out.size)); clear HB; have HB := HB2; clear HB2
  have HA := Lib.hid hra
  obtain ⟨Aa, ca, ea, _, _⟩ := hra.at
  subst ea
  clear hra hb HC
  have hc := HQ.out _ _ _ HR0.out HR1.out
  simp only [tval] at hc
  have HC := Lib.hid hc; clear hc HQ
  have k0 := HX.out.cell 0 _ rfl
  have k1 := HX.out.cell 1 _ rfl
  have k2 := HX.out.cell 2 _ rfl
  go_wp2_with fail
  clear k0 k1 k2
  refine HC.out.mono ?_
  rintro e z2 ⟨vc, rfl, hrc, hb⟩
  have HX2 := Lib.hid (HX.out.below hb HX.out.size); clear HX; have HX := HX2; clear HX2
  have HR02 := Lib.hid (HR0.out.next hb); clear HR0; have HR0 := HR02; clear HR02
  have HR12 := Lib.hid (HR1.out.next hb); clear HR1; have HR1 := HR12; clear HR12
  have HL12 := Lib.hid (HL1.out.next hb); clear HL1; have HL1 := HL12; clear HL12
  have HA2 := Lib.hid (HA.out.next hb); clear HA; have HA := HA2; clear HA2
  have HB2 := Lib.hid (HB.out.trans (hb.mono HB.out.size)); clear HB; have HB := HB2; clear HB2
  have HCC := Lib.hid hrc
  obtain ⟨Ac, cc, ec, _, _⟩ := hrc.at
  subst ec
  clear hrc hb HC
  have hc := pgetT l1 _ _ HL1.out (by omega)
  rw [← HRR.out] at hc
  simp only [tval] at hc
  have HC := Lib.hid hc; clear hc
  go_wp2_with fail
  refine HC.out.mono ?_
  rintro e yP ⟨g0, g1, rfl, hy0, hy1, hb⟩
  have HX2 := Lib.hid (HX.out.below hb HX.out.size); clear HX; have HX := HX2; clear HX2
  have HR02 := Lib.hid (HR0.out.next hb); clear HR0; have HR0 := HR02; clear HR02
  have HR12 := Lib.hid (HR1.out.next hb); clear HR1; have HR1 := HR12; clear HR12
  have HL12 := Lib.hid (HL1.out.next hb); clear HL1; have HL1 := HL12; clear HL12
  have HA2 := Lib.hid (HA.out.next hb); clear HA; have HA := HA2; clear HA2
  have HCC2 := Lib.hid (HCC.out.next hb); clear HCC; have HCC := HCC2; clear HCC2
  have HB2 := Lib.hid (HB.out.trans (hb.mono HB.out.size)); clear HB; have HB := HB2; clear HB2
  obtain ⟨YP0, cYP0, eY, _, _⟩ := hy0.at
  subst eY
  obtain ⟨YP1, cYP1, eY, _, _⟩ := hy1.at
  subst eY
  obtain ⟨qP, hq⟩ : ∃ W, W = yP.alloc (.cells #[.int .i64 x'.read, .slice YP0 x'.reads.length cYP0, .slice YP1 x'.chgs.length cYP1] 36) := ⟨_, rfl⟩
  have hba : Below yP.heap.size yP qP := by rw [hq]; exact (Below.refl _ _).alloc (Nat.le_refl _) _
  have HVP := Lib.hid (show Whole qP yP.heap.size 36 [.int .i64 x'.read, .slice YP0 x'.reads.length cYP0, .slice YP1 x'.chgs.length cYP1] by rw [hq]; exact Whole.fresh _ _ _)
  have HX2 := Lib.hid (HX.out.below hba HX.out.size); clear HX; have HX := HX2; clear HX2
  have HR02 := Lib.hid (HR0.out.next hba); clear HR0; have HR0 := HR02; clear HR02
  have HR12 := Lib.hid (HR1.out.next hba); clear HR1; have HR1 := HR12; clear HR12
  have HL12 := Lib.hid (HL1.out.next hba); clear HL1; have HL1 := HL12; clear HL12
  have HA2 := Lib.hid (HA.out.next hba); clear HA; have HA := HA2; clear HA2
  have HCC2 := Lib.hid (HCC.out.next hba); clear HCC; have HCC := HCC2; clear HCC2
  have HB2 := Lib.hid (HB.out.trans (hba.mono HB.out.size)); clear HB; have HB := HB2; clear HB2
  have HYP0 := Lib.hid (hy0.next hba)
  have HYP1 := Lib.hid (hy1.next hba)
  have HQQ := Lib.hid hq
  clear hq hba hb HC hy0 hy1
  go_wp2_with fail
  rw [← HQQ.out]
  clear HQQ
  obtain ⟨GP, hG⟩ : ∃ G, G = yP.heap.size := ⟨_, rfl⟩
  rw [← hG] at HVP ⊢
  clear hG
  have hc := rgetT l1 _ _ HL1.out (by omega)
  rw [← HRR.out] at hc
  simp only [tval] at hc
  have HC := Lib.hid hc; clear hc
  go_wp2_with fail
  refine HC.out.mono ?_
  rintro e yQ ⟨g0, g1, rfl, hy0, hy1, hb⟩
  have HX2 := Lib.hid (HX.out.below hb HX.out.size); clear HX; have HX := HX2; clear HX2
  have HVP2 := Lib.hid (HVP.out.below hb HVP.out.size); clear HVP; have HVP := HVP2; clear HVP2
  have HR02 := Lib.hid (HR0.out.next hb); clear HR0; have HR0 := HR02; clear HR02
  have HR12 := Lib.hid (HR1.out.next hb); clear HR1; have HR1 := HR12; clear HR12
  have HL12 := Lib.hid (HL1.out.next hb); clear HL1; have HL1 := HL12; clear HL12
  have HA2 := Lib.hid (HA.out.next hb); clear HA; have HA := HA2; clear HA2
  have HCC2 := Lib.hid (HCC.out.next hb); clear HCC; have HCC := HCC2; clear HCC2
  have HYP02 := Lib.hid (HYP0.out.next hb); clear HYP0; have HYP0 := HYP02; clear HYP02
  have HYP12 := Lib.hid (HYP1.out.next hb); clear HYP1; have HYP1 := HYP12; clear HYP12
  have HB2 := Lib.hid (HB.out.trans (hb.mono HB.out.size)); clear HB; have HB := HB2; clear HB2
  obtain ⟨YQ0, cYQ0, eY, _, _⟩ := hy0.at
  subst eY
  obtain ⟨YQ1, cYQ1, eY, _, _⟩ := hy1.at
  subst eY
  obtain ⟨qQ, hq⟩ : ∃ W, W = yQ.alloc (.cells #[.int .i64 x'.read, .slice YQ0 x'.reads.length cYQ0, .slice YQ1 x'.chgs.length cYQ1] 36) := ⟨_, rfl⟩
  have hba : Below yQ.heap.size yQ qQ := by rw [hq]; exact (Below.refl _ _).alloc (Nat.le_refl _) _
  have HVQ := Lib.hid (show Whole qQ yQ.heap.size 36 [.int .i64 x'.read, .slice YQ0 x'.reads.length cYQ0, .slice YQ1 x'.chgs.length cYQ1] by rw [hq]; exact Whole.fresh _ _ _)
  have HX2 := Lib.hid (HX.out.below hba HX.out.size); clear HX; have HX := HX2; clear HX2
  have HVP2 := Lib.hid (HVP.out.below hba HVP.out.size); clear HVP; have HVP := HVP2; clear HVP2
  have HR02 := Lib.hid (HR0.out.next hba); clear HR0; have HR0 := HR02; clear HR02
  have HR12 := Lib.hid (HR1.out.next hba); clear HR1; have HR1 := HR12; clear HR12
  have HL12 := Lib.hid (HL1.out.next hba); clear HL1; have HL1 := HL12; clear HL12
  have HA2 := Lib.hid (HA.out.next hba); clear HA; have HA := HA2; clear HA2
  have HCC2 := Lib.hid (HCC.out.next hba); clear HCC; have HCC := HCC2; clear HCC2
  have HYP02 := Lib.hid (HYP0.out.next hba); clear HYP0; have HYP0 := HYP02; clear HYP02
  have HYP12 := Lib.hid (HYP1.out.next hba); clear HYP1; have HYP1 := HYP12; clear HYP12
  have HB2 := Lib.hid (HB.out.trans (hba.mono HB.out.size)); clear HB; have HB := HB2; clear HB2
  have HYQ0 := Lib.hid (hy0.next hba)
  have HYQ1 := Lib.hid (hy1.next hba)
  have HQQ := Lib.hid hq
  clear hq hba hb HC hy0 hy1
  go_wp2_with fail
  rw [← HQQ.out]
  clear HQQ
  obtain ⟨GQ, hG⟩ : ∃ G, G = yQ.heap.size := ⟨_, rfl⟩
  rw [← hG] at HVQ ⊢
  clear hG
  refine (awake_any _).mono ?_
  rintro e wa ⟨rfl, hb⟩
  have HX2 := Lib.hid (HX.out.below hb HX.out.size); clear HX; have HX := HX2; clear HX2
  have HVP2 := Lib.hid (HVP.out.below hb HVP.out.size); clear HVP; have HVP := HVP2; clear HVP2
  have HVQ2 := Lib.hid (HVQ.out.below hb HVQ.out.size); clear HVQ; have HVQ := HVQ2; clear HVQ2
  have HR02 := Lib.hid (HR0.out.next hb); clear HR0; have HR0 := HR02; clear HR02
  have HR12 := Lib.hid (HR1.out.next hb); clear HR1; have HR1 := HR12; clear HR12
  have HL12 := Lib.hid (HL1.out.next hb); clear HL1; have HL1 := HL12; clear HL12
  have HA2 := Lib.hid (HA.out.next hb); clear HA; have HA := HA2; clear HA2
  have HCC2 := Lib.hid (HCC.out.next hb); clear HCC; have HCC := HCC2; clear HCC2
  have HYP02 := Lib.hid (HYP0.out.next hb); clear HYP0; have HYP0 := HYP02; clear HYP02
  have HYP12 := Lib.hid (HYP1.out.next hb); clear HYP1; have HYP1 := HYP12; clear HYP12
  have HYQ02 := Lib.hid (HYQ0.out.next hb); clear HYQ0; have HYQ0 := HYQ02; clear HYQ02
  have HYQ12 := Lib.hid (HYQ1.out.next hb); clear HYQ1; have HYQ1 := HYQ12; clear HYQ12
  have HB2 := Lib.hid (HB.out.trans (hb.mono HB.out.size)); clear HB; have HB := HB2; clear HB2
  clear hb
  have hca := run_convB HA.out
  have hcb := run_convB HCC.out
  generalize lz.length = ln at hca hcb ⊢
  have hc := sameT_eq x' hfx _ _ _ _ _ HYP0.out HYP1.out HYQ0.out HYQ1.out
  simp only [tval] at hc
  have HC := Lib.hid hc; clear hc
  have k0 := HVP.out.cell 0 _ rfl
  have j0 := HVQ.out.cell 0 _ rfl
  have k1 := HVP.out.cell 1 _ rfl
  have j1 := HVQ.out.cell 1 _ rfl
  have k2 := HVP.out.cell 2 _ rfl
  have j2 := HVQ.out.cell 2 _ rfl
  generalize strB lz = sz at hca hcb
  go_wp2_with fail
  refine HC.out.mono ?_
  rintro e wz ⟨rfl, hb⟩
  have HB2 := Lib.hid (HB.out.trans (hb.mono HB.out.size))
  clear k0 j0 k1 j1 k2 j2 hca hcb hb
  go_wp2_with fail
  go_ret
  exact ⟨rfl, HB2.out⟩
end Go.Proofs.Ytiijcikdlemndaa

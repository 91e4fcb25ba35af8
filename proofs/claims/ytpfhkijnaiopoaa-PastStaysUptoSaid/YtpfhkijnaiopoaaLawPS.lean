/- PastStays's walk. -/
import Derived.Test.YtpfhkijnaiopoaaPCl
import Derived.Deep.CutBlock
import Derived.Deep.DeepCutAuto
import Derived.Deep.Cut
import Derived.Deep.CutRange
namespace Go.Proofs.Ytpfhkijnaiopoaa
open Go.RowKit
attribute [local go_sem] less_eq same_eq le_eq ge_eq gt_eq

set_option maxHeartbeats 8000000 in
set_option maxRecDepth 100000 in
theorem pastStays_walk (ls : List PCl) (s : K × K) (at_ : Nat) (vl : Value) (w : World) (hl : Rd encPCl 1 w w.heap.size vl ls) (hall : ∀ x ∈ ls, RdC w w.heap.size x.v x.l ∧ ∀ y ∈ x.l, smallC y) (hs1 : smallS s.1) (hs2 : smallS s.2) (hcut : at_ < 256) (hn : bulkC ls ≤ many) :
    Calls Try.prog 4 #[vl, spv s, .int .u8 (at_ : Int)] w fun e w' => e = .returned (.bool true) ∧ Below w.heap.size w w' := by
  obtain ⟨s1, s2⟩ := s
  unfold spv
  simp only at hs1 hs2 ⊢
  obtain ⟨wa, hwa⟩ : ∃ wa, wa = w.alloc (.cells #[.string s1, .string s2] 33) := ⟨_, rfl⟩
  have hB0 : Below w.heap.size w wa := by rw [hwa]; exact (Below.refl _ w).alloc (Nat.le_refl _) _
  have hW0 : Whole wa w.heap.size 33 [.string s1, .string s2] := by rw [hwa]; exact Whole.fresh w _ [_, _]
  obtain ⟨A, cl, rfl, -, -⟩ := RdCl.at hl
  have HW := Lib.hid hwa
  have HBW := Lib.hid hB0
  have HWS := Lib.hid hW0
  have HNN := Lib.hid hn
  have HCT := Lib.hid hcut
  have HL := Lib.hid ((hl.below hB0 (Nat.le_refl _)).mono hB0.size)
  have HALL := Lib.hid (show ∀ x ∈ ls, RdC wa wa.heap.size x.v x.l ∧ ∀ y ∈ x.l, smallC y from fun x hx => ⟨((hall x hx).1.below hB0 (Nat.le_refl _)).mono hB0.size, (hall x hx).2⟩)
  have HN := Lib.hid (pnew_any wa)
  clear hwa hB0 hW0 hn hl hall hcut
  go_enter Try.func4, Try.ntmps4
  go_wp2_with fail
  rw [← HW.out]
  refine HN.out.mono ?_
  rintro e w0 ⟨q1, Ga, rfl, hka, hba⟩
  have HT0 := Lib.hid hka
  have HB0 := Lib.hid hba
  clear hka hba HN
  have HC := Lib.hid (awake_any w0)
  go_wp2_with fail
  refine HC.out.mono ?_
  rintro e w1 ⟨rfl, hb⟩
  have HT1 := Lib.hid (HT0.out.same hb)
  have HB1 := Lib.hid (HB0.out.trans (hb.mono HB0.out.size))
  clear hb HC HT0 HB0
  obtain ⟨k, hk⟩ : ∃ k, k = at_ % 30 := ⟨_, rfl⟩
  have hk30 : k < 30 := by have := Nat.mod_lt at_ (show 0 < 30 by omega); omega
  have e3 : (at_ : Int) % 30 = (k : Int) := by rw [hk]; simp
  have e5 : IntKind.i64.wrap (k : Int) = (k : Int) := by rw [IntKind.wrap_i64]; omega
  have HK30 := Lib.hid hk30
  clear hk hk30
  go_wp2_with fail
  go_loopw [9, 10] (fun sv iv wr => ∃ (i : Nat) (G1 : Nat → Prop) (n : Nat) (p : Pa) (X : Prs) (As : Option Addr) (cs : Nat), i ≤ ls.length ∧ i ≤ 30 ∧ sv = .slice As X.length cs ∧ iv = .int .i64 (i : Int) ∧ p.last = 10 * (i : Int) ∧ p.first = 0 ∧ n + bulkC (ls.drop i) ≤ many ∧ PaAt wr wa.heap.size q1 G1 n p ∧ (k < i → RdPG wr wr.heap.size G1 (.slice As X.length cs) X ∧ X.length ≤ 1000 ∧ X = ((p.at_ (10 * (k : Int) + 15)).filter (fun x => hasB (s1, s2) x.1)).take (1000 : Int).toNat) ∧ Below wa.heap.size wa wr) (fun _ iv _ => 30 - (intOf iv).toNat)
  case atStart => exact ⟨0, Ga, 0, Pa.new, [], none, 0, Nat.zero_le _, Nat.zero_le _, rfl, rfl, rfl, rfl, by have := HNN.out; simpa using this, HT1.out, fun h => absurd h (Nat.not_lt_zero _), HB1.out⟩
  case round =>
    obtain ⟨i, G1, n, p, X, As, cs, hi1, hi2, rfl, rfl, hlast, hfirst, hbud, ht, hseen, hb⟩ := hrel
    have HT := Lib.hid ht
    have HB := Lib.hid hb
    have HLA := Lib.hid hlast
    have HFI := Lib.hid hfirst
    have HSE := Lib.hid hseen
    clear ht hb hlast hfirst hseen HT1 HB1 e3 e5
    have h0 : (0 : Int) ≤ (i : Int) := by omega
    by_cases hgo : i < ls.length ∧ i < 30
    · obtain ⟨hil, hi4⟩ := hgo
      have h1 : (i : Int) < (ls.length : Int) := by omega
      have h2 : (i : Int) < 30 := by omega
      have h3 : IntKind.i64.wrap (10 * (i : Int)) = 10 * (i : Int) := by rw [IntKind.wrap_i64]; omega
      have h4 : IntKind.i64.wrap (10 * (i : Int) + 10) = 10 * (i : Int) + 10 := by rw [IntKind.wrap_i64]; omega
      have h5 : IntKind.i64.wrap ((i : Int) + 1) = ((i + 1 : Nat) : Int) := by rw [IntKind.wrap_i64]; omega
      have h6 : IntKind.i64.wrap (10 * (k : Int)) = 10 * (k : Int) := by have := HK30.out; rw [IntKind.wrap_i64]; omega
      have h7 : IntKind.i64.wrap (10 * (k : Int) + 15) = 10 * (k : Int) + 15 := by have := HK30.out; rw [IntKind.wrap_i64]; omega
      obtain ⟨A', c', e, -, hcell⟩ := RdCl.at HL.out
      injection e with e1 e2 e3
      subst e1 e3
      obtain ⟨ba, o, rfl, hbl, -⟩ := hcell i hil
      clear hcell
      have HCE := Lib.hid (show ∀ W, Below wa.heap.size wa W → W.cell? ⟨ba, o + i, none⟩ = some ls[i].v from fun W hW => by
        obtain ⟨A', c', e, -, hcell⟩ := RdCl.at (HL.out.below hW (Nat.le_refl _))
        injection e with e1 e2 e3
        obtain ⟨b2, o2, e4, -, q0⟩ := hcell i hil
        rw [← e1] at e4
        injection e4 with e4
        injection e4 with e4 e5
        subst e4 e5
        exact q0)
      rw [bulkC_drop ls i hil] at hbud
      obtain ⟨hrd, hsm⟩ := HALL.out ls[i] (List.getElem_mem hil)
      generalize ls[i] = a at HCE hrd hsm hbud
      obtain ⟨av, al⟩ := a
      simp only at HCE hrd hsm hbud
      obtain ⟨A1, c1, rfl, -, -⟩ := RdC.at hrd
      have HRD := Lib.hid hrd
      have HSM := Lib.hid hsm
      have HBUD := Lib.hid hbud
      clear hrd hsm hbud e2
      have hc := padd_any wa.heap.size q1 _ _ _ (10 * (i : Int) + 10) al _ wr HT.out (by unfold I64; omega) (HT.out.came (Nat.le_refl _) (HRD.out.below HB.out (Nat.le_refl _))) HSM.out (by have := HBUD.out; omega)
      have q0 := HCE.out wr HB.out
      by_cases hgd : allAns al = 0
      · obtain ⟨p', heq, hl2, hf2, hat1, hat2⟩ := add_on (v := 10 * (i : Int) + 10) (by rw [HLA.out]; omega) hgd
        rw [heq] at hc
        have HC := Lib.hid hc
        have HL2 := Lib.hid hl2
        have HF2 := Lib.hid (show p'.first = 0 by rw [hf2]; exact HFI.out)
        have HAT1 := Lib.hid hat1
        have HAT2 := Lib.hid hat2
        have HGD := Lib.hid hgd
        clear hc heq hl2 hf2 hat1 hat2 hgd
        go_wp2_with fail
        refine HC.out.mono ?_
        rintro e w2 ⟨rfl, G3, hk, hG, hm⟩
        have HT2 := Lib.hid hk
        have HB2 := Lib.hid (HB.out.trans (pv_below HT.out hm))
        have HSE2 := Lib.hid (show k < i → RdPG w2 w2.heap.size G3 (.slice As X.length cs) X ∧ X.length ≤ 1000 ∧ X = ((p'.at_ (10 * (k : Int) + 15)).filter (fun x => hasB (s1, s2) x.1)).take (1000 : Int).toNat from fun hki => by
          obtain ⟨h1, h2, h3⟩ := HSE.out hki
          refine ⟨((h1.mv hm (Nat.le_refl _) fun _ _ h => h).mono hm.size fun b hb hg => ?_), h2, ?_⟩
          · rcases hG b hg with h | h
            · exact h
            · omega
          · rw [HAT2.out _ (by omega)]; exact h3)
        have hr := rall_any al HSM.out _ w2 ((HRD.out.below HB2.out (Nat.le_refl _)).mono HB2.out.size) (by have := HBUD.out; have : many = 3000000 := rfl; omega)
        rw [HGD.out] at hr
        clear hk hG hm HC q0 HSE HGD
        have HR := Lib.hid hr
        have q0 := HCE.out w2 HB2.out
        clear hr
        go_wp2_with fail
        refine HR.out.mono ?_
        rintro e w3 ⟨rfl, hb3⟩
        have HT3 := Lib.hid (HT2.out.same hb3)
        have HB3 := Lib.hid (HB2.out.trans (hb3.mono HB2.out.size))
        have HSE3 := Lib.hid (show k < i → RdPG w3 w3.heap.size G3 (.slice As X.length cs) X ∧ X.length ≤ 1000 ∧ X = ((p'.at_ (10 * (k : Int) + 15)).filter (fun x => hasB (s1, s2) x.1)).take (1000 : Int).toNat from fun hki => by
          obtain ⟨h1, h2, h3⟩ := HSE2.out hki
          exact ⟨(h1.mv (Mv.of_new hb3 G3) (Nat.le_refl _) fun _ _ h => h).mono hb3.size fun _ _ h => h, h2, h3⟩)
        have HWX3 := Lib.hid (HWS.out.below HB3.out HWS.out.size)
        clear hb3 HR q0 HSE2
        rcases Nat.lt_trichotomy i k with hik | hik | hik
        · have g1 : ¬ (i : Int) = (k : Int) := by omega
          have g2 : (i : Int) < (k : Int) := by omega
          go_wp2_with fail
          go_roundw
          case rel => exact ⟨i + 1, G3, _, p', X, As, cs, by omega, by omega, rfl, rfl, by rw [HL2.out]; omega, HF2.out, by have := HBUD.out; omega, HT3.out, fun h => absurd h (by omega), HB3.out⟩
          case measure => simp [intOf]; omega
        · subst hik
          obtain ⟨Y, hY⟩ : ∃ Y, Y = ((p'.at_ (10 * (i : Int) + 10)).filter (fun x => hasB (s1, s2) x.1)).take (1000 : Int).toNat := ⟨_, rfl⟩
          have heq := list_good (p := p') (s := (s1, s2)) (v := 10 * (i : Int) + 10) (most := 1000) (by rw [HF2.out]; omega) (by rw [HL2.out]; omega) (by decide)
          rw [← hY] at heq
          have HYL := Lib.hid (show Y.length ≤ 1000 by rw [hY, List.length_take, show (1000 : Int).toNat = 1000 from rfl]; omega)
          have HY := Lib.hid (show Y = ((p'.at_ (10 * (i : Int) + 15)).filter (fun x => hasB (s1, s2) x.1)).take (1000 : Int).toNat by rw [hY, HAT1.out _ (by omega), HAT1.out _ (by omega)])
          have HEQ := Lib.hid heq
          have HNE := Lib.hid (list_new (p := p') (s := (s1, s2)) (v := 10 * (i : Int) + 15) (most := 1000) (by rw [HF2.out]; omega) (by rw [HL2.out]; omega))
          clear hY heq
          have d0 := HWX3.out.cell 0 _ rfl
          have d1 := HWX3.out.cell 1 _ rfl
          have hc := plist_any wa.heap.size q1 _ _ _ (s1, s2) (10 * (i : Int) + 10) 1000 w3 HT3.out (by unfold I64; omega) (by unfold I64; omega) hs1 hs2
          rw [HEQ.out] at hc
          unfold spv at hc
          simp only at hc
          have HC := Lib.hid hc
          clear hc
          go_wp2_with fail
          refine HC.out.mono ?_
          rintro e w4 ⟨A4, c4, rfl, hrx, hbx⟩
          have HT4 := Lib.hid (HT3.out.same hbx)
          have HB4 := Lib.hid (HB3.out.trans (hbx.mono HB3.out.size))
          have HWX4 := Lib.hid (HWX3.out.below hbx HWX3.out.size)
          have HR4 := Lib.hid (hrx.mono (G' := G3) (Nat.le_refl _) fun _ _ hg => .inl hg)
          clear hrx hbx HC d0 d1
          have d0 := HWX4.out.cell 0 _ rfl
          have d1 := HWX4.out.cell 1 _ rfl
          have hc := plist_any wa.heap.size q1 _ _ _ (s1, s2) (10 * (i : Int) + 15) 1000 w4 HT4.out (by unfold I64; omega) (by unfold I64; omega) hs1 hs2
          rw [HNE.out] at hc
          unfold spv at hc
          simp only at hc
          have HC := Lib.hid hc
          clear hc
          go_wp2_with fail
          refine HC.out.mono ?_
          rintro e w5 ⟨A5, c5, rfl, hrx, hbx⟩
          have HT5 := Lib.hid (HT4.out.same hbx)
          have HB5 := Lib.hid (HB4.out.trans (hbx.mono HB4.out.size))
          have HWX5 := Lib.hid (HWX4.out.below hbx HWX4.out.size)
          have HR5 := Lib.hid (hrx.mono (G' := G3) (Nat.le_refl _) fun _ _ hg => .inl hg)
          have HR6 := Lib.hid ((HR4.out.mv (Mv.of_new hbx G3) (Nat.le_refl _) fun _ _ h => h).mono (G' := G3) hbx.size fun _ _ h => h)
          clear hrx hbx HC d0 d1 HR4 HR5
          go_wp2_with fail
          go_roundw
          case rel => exact ⟨i + 1, G3, _, p', Y, A4, c4, by omega, by omega, rfl, rfl, by rw [HL2.out]; omega, HF2.out, by have := HBUD.out; omega, HT5.out, fun _ => ⟨HR6.out, HYL.out, HY.out⟩, HB5.out⟩
          case measure => simp [intOf]; omega
        · have g1 : ¬ (i : Int) = (k : Int) := by omega
          have g2 : ¬ (i : Int) < (k : Int) := by omega
          obtain ⟨hse1, hse2, hse3⟩ := HSE3.out hik
          have heq := list_good (p := p') (s := (s1, s2)) (v := 10 * (k : Int) + 15) (most := 1000) (by rw [HF2.out]; omega) (by rw [HL2.out]; omega) (by decide)
          rw [← hse3] at heq
          have HEQ := Lib.hid heq
          have HS3 := Lib.hid hse1
          have HXL := Lib.hid hse2
          have HX3 := Lib.hid hse3
          clear hse1 hse2 hse3 heq HSE3
          have d0 := HWX3.out.cell 0 _ rfl
          have d1 := HWX3.out.cell 1 _ rfl
          have hc := plist_any wa.heap.size q1 _ _ _ (s1, s2) (10 * (k : Int) + 15) 1000 w3 HT3.out (by unfold I64; omega) (by unfold I64; omega) hs1 hs2
          rw [HEQ.out] at hc
          unfold spv at hc
          simp only at hc
          have HC := Lib.hid hc
          clear hc
          go_wp2_with fail
          refine HC.out.mono ?_
          rintro e w4 ⟨A4, c4, rfl, hrx, hbx⟩
          have HT4 := Lib.hid (HT3.out.same hbx)
          have HB4 := Lib.hid (HB3.out.trans (hbx.mono HB3.out.size))
          have HWX4 := Lib.hid (HWX3.out.below hbx HWX3.out.size)
          have HR4 := Lib.hid (hrx.mono (G' := G3) (Nat.le_refl _) fun _ _ hg => .inl hg)
          have HS4 := Lib.hid ((HS3.out.mv (Mv.of_new hbx G3) (Nat.le_refl _) fun _ _ h => h).mono (G' := G3) hbx.size fun _ _ h => h)
          clear hrx hbx HC d0 d1 HS3
          have hc := pairs_any X X _ _ w4 HR4.out.rd HS4.out.rd (by have := HXL.out; omega) (by have := HXL.out; omega)
          rw [show decide (X = X) = true from decide_eq_true rfl] at hc
          have HC := Lib.hid hc
          clear hc
          go_wp2_with fail
          refine HC.out.mono ?_
          rintro e w5 ⟨rfl, hbp⟩
          have HT5 := Lib.hid (HT4.out.same hbp)
          have HB5 := Lib.hid (HB4.out.trans (hbp.mono HB4.out.size))
          have HS5 := Lib.hid ((HS4.out.mv (Mv.of_new hbp G3) (Nat.le_refl _) fun _ _ h => h).mono (G' := G3) hbp.size fun _ _ h => h)
          clear hbp HC HS4 HR4
          go_wp2_with fail
          go_roundw
          case rel => exact ⟨i + 1, G3, _, p', X, As, cs, by omega, by omega, rfl, rfl, by rw [HL2.out]; omega, HF2.out, by have := HBUD.out; omega, HT5.out, fun _ => ⟨HS5.out, HXL.out, HX3.out⟩, HB5.out⟩
          case measure => simp [intOf]; omega
      · obtain ⟨z, hz⟩ : ∃ z, z = allAns al := ⟨_, rfl⟩
        rw [add_bad (by rw [HLA.out]; omega) hgd, ← hz] at hc
        have hgz : ¬ z = 0 := by rw [hz]; exact hgd
        have HZ := Lib.hid hz
        have HC := Lib.hid hc
        clear hc hgd hz
        go_wp2_with fail
        refine HC.out.mono ?_
        rintro e w2 ⟨rfl, G3, hk, hG, hm⟩
        have HB2 := Lib.hid (HB.out.trans (pv_below HT.out hm))
        have hr := rall_any al HSM.out _ w2 ((HRD.out.below HB2.out (Nat.le_refl _)).mono HB2.out.size) (by have := HBUD.out; have : many = 3000000 := rfl; omega)
        rw [← HZ.out] at hr
        clear hk hG hm HC q0
        have HR := Lib.hid hr
        have q0 := HCE.out w2 HB2.out
        clear hr
        go_wp2_with fail
        refine HR.out.mono ?_
        rintro e w3 ⟨rfl, hb3⟩
        have HB3 := Lib.hid (HB2.out.trans (hb3.mono HB2.out.size))
        clear hb3 HR q0
        go_wp2_with fail
        go_ret
        exact ⟨rfl, HBW.out.trans (HB3.out.mono HBW.out.size)⟩
    · have hex : ¬ ((i : Int) < (ls.length : Int)) ∨ ((i : Int) < (ls.length : Int) ∧ ¬ ((i : Int) < 30)) := by omega
      clear hgo
      rcases hex with h1 | ⟨h1, h2⟩
      all_goals
        go_wp2_with fail
        go_ret
        exact ⟨rfl, HBW.out.trans (HB.out.mono HBW.out.size)⟩
end Go.Proofs.Ytpfhkijnaiopoaa

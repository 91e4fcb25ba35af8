/- PastForgets's walk. -/
import Derived.Test.YtpfhkijnaiopoaaPCl
import Derived.Deep.CutBlock
import Derived.Deep.DeepCutAuto
import Derived.Deep.Cut
import Derived.Deep.CutRange
namespace Go.Proofs.Ytpfhkijnaiopoaa
open Go.RowKit
attribute [local go_sem] less_eq same_eq le_eq ge_eq gt_eq

set_option maxHeartbeats 8000000 in
set_option maxRecDepth 100000 in
theorem pastForgets_walk (ls : List PCl) (s : K × K) (cut : Nat) (vl : Value) (w : World) (hl : Rd encPCl 1 w w.heap.size vl ls) (hall : ∀ x ∈ ls, RdC w w.heap.size x.v x.l ∧ ∀ y ∈ x.l, smallC y) (hs1 : smallS s.1) (hs2 : smallS s.2) (hcut : cut < 256) (hn : bulkC ls ≤ many) :
    Calls Try.prog 7 #[vl, spv s, .int .u8 (cut : Int)] w fun e w' => e = .returned (.bool true) ∧ Below w.heap.size w w' := by
  obtain ⟨s1, s2⟩ := s
  unfold spv
  simp only at hs1 hs2 ⊢
  obtain ⟨wa, hwa⟩ : ∃ wa, wa = w.alloc (.cells #[.string s1, .string s2] 33) := ⟨_, rfl⟩
  have hB0 : Below w.heap.size w wa := by rw [hwa]; exact (Below.refl _ w).alloc (Nat.le_refl _) _
  have hW0 : Whole wa w.heap.size 33 [.string s1, .string s2] := by rw [hwa]; exact Whole.fresh w _ [_, _]
  obtain ⟨A, cl, rfl, -, -⟩ := RdCl.at hl
  have HW := Lib.hid hwa
  have HBW := Lib.hid hB0
  have HWS := Lib.hid hW0
  have HNN := Lib.hid hn
  have HCT := Lib.hid hcut
  have HL := Lib.hid ((hl.below hB0 (Nat.le_refl _)).mono hB0.size)
  have HALL := Lib.hid (show ∀ x ∈ ls, RdC wa wa.heap.size x.v x.l ∧ ∀ y ∈ x.l, smallC y from fun x hx => ⟨((hall x hx).1.below hB0 (Nat.le_refl _)).mono hB0.size, (hall x hx).2⟩)
  have HN := Lib.hid (pnew_any wa)
  clear hwa hB0 hW0 hn hl hall hcut
  go_enter Try.func7, Try.ntmps7
  go_wp2_with fail
  rw [← HW.out]
  refine HN.out.mono ?_
  rintro e wb ⟨q1, Ga, rfl, hka, hba⟩
  have HKA := Lib.hid hka
  have HBA := Lib.hid hba
  have HN := Lib.hid (pnew_any wb)
  clear hka hba
  go_wp2_with fail
  refine HN.out.mono ?_
  rintro e w0 ⟨q2, Gb, rfl, hkb, hbb⟩
  have HT0 := Lib.hid (show Two w0 wa.heap.size q1 q2 Ga Gb 0 0 Pa.new Pa.new from ⟨HKA.out.same hbb, hkb.lower HBA.out.size, fun i hi hd => by have := (HKA.out.low.2 i hi).2; have := (hkb.low.2 i hd).1; omega⟩)
  have HB0 := Lib.hid (HBA.out.trans (hbb.mono HBA.out.size))
  clear hkb hbb HN HKA HBA
  have HC := Lib.hid (awake_any w0)
  go_wp2_with fail
  refine HC.out.mono ?_
  rintro e w1 ⟨rfl, hb⟩
  have HT1 := Lib.hid (HT0.out.same hb)
  have HB1 := Lib.hid (HB0.out.trans (hb.mono HB0.out.size))
  clear hb HC HT0 HB0
  go_upto_block 0 with fail
  go_cut [9] (fun nv wx => ∃ (m : Nat) (G1 G2 : Nat → Prop) (n : Nat) (p : Pa), nv = .int .i64 (m : Int) ∧ m ≤ 20 ∧ p.last = (m : Int) ∧ p.first = 0 ∧ Two wx wa.heap.size q1 q2 G1 G2 n n p p ∧ Below wa.heap.size wa wx)
  case first =>
    go_wp2_with fail
    go_loopw [9, 10] (fun nv iv wr => ∃ (i : Nat) (G1 G2 : Nat → Prop) (n : Nat) (p : Pa), i ≤ ls.length ∧ i ≤ 20 ∧ nv = .int .i64 (i : Int) ∧ iv = .int .i64 (i : Int) ∧ p.last = (i : Int) ∧ p.first = 0 ∧ n + bulkC (ls.drop i) ≤ many ∧ Two wr wa.heap.size q1 q2 G1 G2 n n p p ∧ Below wa.heap.size wa wr) (fun _ iv _ => 20 - (intOf iv).toNat)
    case atStart => exact ⟨0, Ga, Gb, 0, Pa.new, Nat.zero_le _, Nat.zero_le _, rfl, rfl, rfl, rfl, by have := HNN.out; simpa using this, HT1.out, HB1.out⟩
    case round =>
      obtain ⟨i, G1, G2, n, p, hi1, hi2, rfl, rfl, hlast, hfirst, hbud, ht, hb⟩ := hrel
      have HT := Lib.hid ht
      have HB := Lib.hid hb
      have HLA := Lib.hid hlast
      have HFI := Lib.hid hfirst
      clear ht hb hlast hfirst HT1 HB1
      have h0 : (0 : Int) ≤ (i : Int) := by omega
      by_cases hgo : i < ls.length ∧ i < 20
      · obtain ⟨hil, hi4⟩ := hgo
        have h1 : (i : Int) < (ls.length : Int) := by omega
        have h2 : (i : Int) < 20 := by omega
        have h3 : IntKind.i64.wrap ((i : Int) + 1) = ((i + 1 : Nat) : Int) := by rw [IntKind.wrap_i64]; omega
        obtain ⟨A', c', e, -, hcell⟩ := RdCl.at HL.out
        injection e with e1 e2 e3
        subst e1 e3
        obtain ⟨ba, o, rfl, hbl, -⟩ := hcell i hil
        clear hcell
        have HCE := Lib.hid (show ∀ W, Below wa.heap.size wa W → W.cell? ⟨ba, o + i, none⟩ = some ls[i].v from fun W hW => by
          obtain ⟨A', c', e, -, hcell⟩ := RdCl.at (HL.out.below hW (Nat.le_refl _))
          injection e with e1 e2 e3
          obtain ⟨b2, o2, e4, -, q0⟩ := hcell i hil
          rw [← e1] at e4
          injection e4 with e4
          injection e4 with e4 e5
          subst e4 e5
          exact q0)
        rw [bulkC_drop ls i hil] at hbud
        obtain ⟨hrd, hsm⟩ := HALL.out ls[i] (List.getElem_mem hil)
        generalize ls[i] = a at HCE hrd hsm hbud
        obtain ⟨av, al⟩ := a
        simp only at HCE hrd hsm hbud
        obtain ⟨A1, c1, rfl, -, -⟩ := RdC.at hrd
        have HRD := Lib.hid hrd
        have HSM := Lib.hid hsm
        have HBUD := Lib.hid hbud
        clear hrd hsm hbud e2
        by_cases hgd : allAns al = 0
        · have hr := rall_any al HSM.out _ wr ((HRD.out.below HB.out (Nat.le_refl _)).mono HB.out.size) (by have := HBUD.out; have : many = 3000000 := rfl; omega)
          rw [hgd] at hr
          have HR := Lib.hid hr
          have q0 := HCE.out wr HB.out
          clear hr
          go_wp2_with fail
          refine HR.out.mono ?_
          rintro e w2 ⟨rfl, hb2⟩
          have HT2 := Lib.hid (HT.out.same hb2)
          have HB2 := Lib.hid (HB.out.trans (hb2.mono HB.out.size))
          obtain ⟨p', heq, hl2, hf2, -, -⟩ := add_on (v := ((i + 1 : Nat) : Int)) (by rw [HLA.out]; omega) hgd
          have hc := padd_any wa.heap.size q1 _ _ _ ((i + 1 : Nat) : Int) al _ w2 HT2.out.a (by unfold I64; omega) (HT2.out.a.came (Nat.le_refl _) (HRD.out.below HB2.out (Nat.le_refl _))) HSM.out (by have := HBUD.out; omega)
          rw [heq] at hc
          have HC := Lib.hid hc
          have HEQ := Lib.hid heq
          have HL2 := Lib.hid hl2
          have HF2 := Lib.hid hf2
          clear hc hb2 HR q0 heq hl2 hf2 hgd
          have q0 := HCE.out w2 HB2.out
          go_wp2_with fail
          refine HC.out.mono ?_
          rintro e w3 ⟨rfl, G3, hk, hG, hm⟩
          have HT3 := Lib.hid (HT2.out.one hk hG hm)
          have HB3 := Lib.hid (HB2.out.trans (pv_below HT2.out.a hm))
          have hc := padd_any wa.heap.size q2 _ _ _ ((i + 1 : Nat) : Int) al _ w3 HT3.out.b (by unfold I64; omega) (HT3.out.b.came (Nat.le_refl _) (HRD.out.below HB3.out (Nat.le_refl _))) HSM.out (by have := HBUD.out; omega)
          rw [HEQ.out] at hc
          clear hk hG hm HC q0
          have HC := Lib.hid hc
          have q0 := HCE.out w3 HB3.out
          clear hc
          go_wp2_with fail
          refine HC.out.mono ?_
          rintro e w4 ⟨rfl, G4, hk, hG, hm⟩
          have HT4 := Lib.hid (HT3.out.two hk hG hm)
          have HB4 := Lib.hid (HB3.out.trans (pv_below HT3.out.b hm))
          clear hk hG hm HC q0
          go_wp2_with fail
          go_roundw
          case rel => exact ⟨i + 1, G3, G4, _, p', by omega, by omega, rfl, rfl, HL2.out, by rw [HF2.out]; exact HFI.out, by have := HBUD.out; omega, HT4.out, HB4.out⟩
          case measure => simp [intOf]; omega
        · have hr := rall_any al HSM.out _ wr ((HRD.out.below HB.out (Nat.le_refl _)).mono HB.out.size) (by have := HBUD.out; have : many = 3000000 := rfl; omega)
          obtain ⟨z, hz⟩ : ∃ z, z = allAns al := ⟨_, rfl⟩
          rw [← hz] at hr hgd
          have HR := Lib.hid hr
          have q0 := HCE.out wr HB.out
          clear hr hz
          go_wp2_with fail
          refine HR.out.mono ?_
          rintro e w2 ⟨rfl, hb2⟩
          have HT2 := Lib.hid (HT.out.same hb2)
          have HB2 := Lib.hid (HB.out.trans (hb2.mono HB.out.size))
          clear hb2 HR q0
          go_wp2_with fail
          go_meet
          case rel => exact ⟨i, G1, G2, n, p, rfl, hi2, HLA.out, HFI.out, HT2.out, HB2.out⟩
      · have hex : ¬ ((i : Int) < (ls.length : Int)) ∨ ((i : Int) < (ls.length : Int) ∧ ¬ ((i : Int) < 20)) := by omega
        clear hgo
        rcases hex with h1 | ⟨h1, h2⟩
        all_goals
          go_wp2_with fail
          go_meet
          case rel => exact ⟨i, G1, G2, n, p, rfl, hi2, HLA.out, HFI.out, HT.out, HB.out⟩
  case rest =>
    obtain ⟨m, G1, G2, n, p, rfl, hm20, hlast, hfirst, ht, hb⟩ := hcut
    have HT4 := Lib.hid ht
    have HB4 := Lib.hid hb
    have HWX4 := Lib.hid (HWS.out.below hb HWS.out.size)
    clear ht hb HT1 HB1
    obtain ⟨k, hk⟩ : ∃ k, k = cut % (m + 1) := ⟨_, rfl⟩
    have hkm : k ≤ m := by have := Nat.mod_lt cut (show 0 < m + 1 by omega); omega
    have e1 : IntKind.i64.wrap (cut : Int) = (cut : Int) := by have := HCT.out; rw [IntKind.wrap_i64]; omega
    have e2 : IntKind.i64.wrap ((m : Int) + 1) = ((m + 1 : Nat) : Int) := by rw [IntKind.wrap_i64]; omega
    have e3 : (cut : Int) % ((m : Int) + 1) = (k : Int) := by rw [hk]; simp
    have e4 : ¬ ((m + 1 : Nat) : Int) = 0 := by omega
    have e5 : IntKind.i64.wrap (k : Int) = (k : Int) := by rw [IntKind.wrap_i64]; omega
    obtain ⟨p', hf, hl', hf', hat⟩ := forget_good (p := p) (k := (k : Int)) (by omega) (by omega)
    have hfn := forget_new (p := p') (k := ((m + 1 : Nat) : Int)) (by omega)
    have hc := pforget_any wa.heap.size q1 _ _ _ (k : Int) wc HT4.out.a (by unfold I64; omega)
    rw [hf] at hc
    have HC := Lib.hid hc
    have HFN := Lib.hid hfn
    have HQ1 := Lib.hid (show p'.last = (m : Int) by omega)
    have HQ2 := Lib.hid hf'
    have HQ3 := Lib.hid hat
    have HP1 := Lib.hid hlast
    have HP2 := Lib.hid hfirst
    clear hk hc hf hfn hl' hf' hat hlast hfirst
    go_wp2_with fail
    refine HC.out.mono ?_
    rintro e w5 ⟨rfl, G5, hk, hG, hm⟩
    have HT5 := Lib.hid (HT4.out.one hk hG hm)
    have HB5 := Lib.hid (HB4.out.trans (pv_below HT4.out.a hm))
    have hc := pforget_any wa.heap.size q1 _ _ _ ((m + 1 : Nat) : Int) w5 HT5.out.a (by unfold I64; omega)
    rw [HFN.out] at hc
    clear hk hG hm HC HT4 HB4
    have HC := Lib.hid hc
    clear hc
    go_wp2_with fail
    refine HC.out.mono ?_
    rintro e w6 ⟨rfl, G6, hk, hG, hm⟩
    have HT6 := Lib.hid (HT5.out.one hk hG hm)
    have HB6 := Lib.hid (HB5.out.trans (pv_below HT5.out.a hm))
    clear hk hG hm HC HT5 HB5 e1 e2 e3 e4 e5
    go_wp2_with fail
    go_loopw [12] (fun iv wr => ∃ z : Nat, z ≤ m + 1 ∧ iv = .int .i64 (z : Int) ∧ Two wr wa.heap.size q1 q2 G6 G2 n n p' p ∧ Below wa.heap.size wa wr) (fun iv _ => m + 1 - (intOf iv).toNat)
    case atStart => exact ⟨0, by omega, rfl, HT6.out, HB6.out⟩
    case round =>
      obtain ⟨z, hz, rfl, ht, hb⟩ := hrel
      have HT7 := Lib.hid ht
      have HB7 := Lib.hid hb
      have HWX7 := Lib.hid (HWS.out.below hb HWS.out.size)
      have hz0 : (0 : Int) ≤ (z : Int) := by omega
      clear ht hb HT6 HB6 HWX4
      by_cases hzm : z ≤ m
      · have h1 : (z : Int) ≤ (m : Int) := by omega
        have h2 : IntKind.i64.wrap ((z : Int) + 1) = ((z + 1 : Nat) : Int) := by rw [IntKind.wrap_i64]; omega
        have heq := list_good (p := p) (s := (s1, s2)) (v := (z : Int)) (most := 1000) (by rw [HP2.out]; omega) (by rw [HP1.out]; omega) (by decide)
        obtain ⟨X, hX⟩ : ∃ X, X = ((p.at_ (z : Int)).filter (fun x => hasB (s1, s2) x.1)).take (1000 : Int).toNat := ⟨_, rfl⟩
        rw [← hX] at heq
        have HXL := Lib.hid (show X.length ≤ 1000 by rw [hX, List.length_take, show (1000 : Int).toNat = 1000 from rfl]; omega)
        have HEQ := Lib.hid heq
        by_cases hzk : z < k
        · have h3 : ¬ (z : Int) ≥ (k : Int) := by omega
          have hep := list_old (p := p') (s := (s1, s2)) (v := (z : Int)) (most := 1000) (by rw [HQ2.out]; omega)
          have HEP := Lib.hid hep
          clear hep heq hX
          have d0 := HWX7.out.cell 0 _ rfl
          have d1 := HWX7.out.cell 1 _ rfl
          have hc := plist_any wa.heap.size q1 _ _ _ (s1, s2) (z : Int) 1000 wr HT7.out.a (by unfold I64; omega) (by unfold I64; omega) hs1 hs2
          rw [HEP.out] at hc
          unfold spv at hc
          simp only at hc
          have HC := Lib.hid hc
          clear hc
          go_wp2_with fail
          refine HC.out.mono ?_
          rintro e w8 ⟨Ax, cx, rfl, hrx, hbx⟩
          have HT8 := Lib.hid (HT7.out.same hbx)
          have HB8 := Lib.hid (HB7.out.trans (hbx.mono HB7.out.size))
          have HWX8 := Lib.hid (HWX7.out.below hbx HWX7.out.size)
          have HRX := Lib.hid hrx.rd
          clear hrx hbx HC d0 d1
          have d0 := HWX8.out.cell 0 _ rfl
          have d1 := HWX8.out.cell 1 _ rfl
          have hc := plist_any wa.heap.size q2 _ _ _ (s1, s2) (z : Int) 1000 w8 HT8.out.b (by unfold I64; omega) (by unfold I64; omega) hs1 hs2
          rw [HEQ.out] at hc
          unfold spv at hc
          simp only at hc
          have HC := Lib.hid hc
          clear hc
          go_wp2_with fail
          refine HC.out.mono ?_
          rintro e w9 ⟨Ay, cy, rfl, hry, hby⟩
          have HT9 := Lib.hid (HT8.out.same hby)
          have HB9 := Lib.hid (HB8.out.trans (hby.mono HB8.out.size))
          have HWX9 := Lib.hid (HWX8.out.below hby HWX8.out.size)
          have HRX2 := Lib.hid (HRX.out.next hby)
          have HRY := Lib.hid hry.rd
          clear hry hby HC HRX d0 d1
          go_wp2_with fail
          go_roundw
          case rel => exact ⟨z + 1, by omega, by go_num, HT9.out, HB9.out⟩
          case measure => simp [intOf]; omega
        · have h3 : (z : Int) ≥ (k : Int) := by omega
          have hep := list_good (p := p') (s := (s1, s2)) (v := (z : Int)) (most := 1000) (by rw [HQ2.out]; omega) (by rw [HQ1.out]; omega) (by decide)
          rw [HQ3.out (z : Int), ← hX] at hep
          have HEP := Lib.hid hep
          clear hep heq hX
          have d0 := HWX7.out.cell 0 _ rfl
          have d1 := HWX7.out.cell 1 _ rfl
          have hc := plist_any wa.heap.size q1 _ _ _ (s1, s2) (z : Int) 1000 wr HT7.out.a (by unfold I64; omega) (by unfold I64; omega) hs1 hs2
          rw [HEP.out] at hc
          unfold spv at hc
          simp only at hc
          have HC := Lib.hid hc
          clear hc
          go_wp2_with fail
          refine HC.out.mono ?_
          rintro e w8 ⟨Ax, cx, rfl, hrx, hbx⟩
          have HT8 := Lib.hid (HT7.out.same hbx)
          have HB8 := Lib.hid (HB7.out.trans (hbx.mono HB7.out.size))
          have HWX8 := Lib.hid (HWX7.out.below hbx HWX7.out.size)
          have HRX := Lib.hid hrx.rd
          clear hrx hbx HC d0 d1
          have d0 := HWX8.out.cell 0 _ rfl
          have d1 := HWX8.out.cell 1 _ rfl
          have hc := plist_any wa.heap.size q2 _ _ _ (s1, s2) (z : Int) 1000 w8 HT8.out.b (by unfold I64; omega) (by unfold I64; omega) hs1 hs2
          rw [HEQ.out] at hc
          unfold spv at hc
          simp only at hc
          have HC := Lib.hid hc
          clear hc
          go_wp2_with fail
          refine HC.out.mono ?_
          rintro e w9 ⟨Ay, cy, rfl, hry, hby⟩
          have HT9 := Lib.hid (HT8.out.same hby)
          have HB9 := Lib.hid (HB8.out.trans (hby.mono HB8.out.size))
          have HWX9 := Lib.hid (HWX8.out.below hby HWX8.out.size)
          have HRX2 := Lib.hid (HRX.out.next hby)
          have HRY := Lib.hid hry.rd
          clear hry hby HC HRX d0 d1
          have hc := pairs_any X X _ _ w9 HRX2.out HRY.out (by have := HXL.out; omega) (by have := HXL.out; omega)
          rw [show decide (X = X) = true from decide_eq_true rfl] at hc
          have HC := Lib.hid hc
          clear hc
          go_wp2_with fail
          refine HC.out.mono ?_
          rintro e w10 ⟨rfl, hbp⟩
          have HT10 := Lib.hid (HT9.out.same hbp)
          have HB10 := Lib.hid (HB9.out.trans (hbp.mono HB9.out.size))
          have HWX10 := Lib.hid (HWX9.out.below hbp HWX9.out.size)
          clear hbp HC HRX2 HRY
          go_wp2_with fail
          go_roundw
          case rel => exact ⟨z + 1, by omega, by go_num, HT10.out, HB10.out⟩
          case measure => simp [intOf]; omega
      · obtain rfl : z = m + 1 := by omega
        have h1 : ¬ ((m + 1 : Nat) : Int) ≤ (m : Int) := by omega
        go_wp2_with fail
        go_ret
        exact ⟨rfl, HBW.out.trans (HB7.out.mono HBW.out.size)⟩
end Go.Proofs.Ytpfhkijnaiopoaa

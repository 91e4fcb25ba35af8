/- ClockOnce's walk. -/
import Derived.Test.YtcigodaacdfagaaCAwk
import Derived.Test.YtcigodaacdfagaaPlanB
import Derived.Test.YtcigodaacdfagaaMake
import Derived.Test.YtcigodaacdfagaaCkA
import Derived.Deep.CutBlock
import Derived.Deep.DeepCutAuto
import Derived.Deep.Cut
import Derived.Deep.CutRange
namespace Go.Proofs.Ytcigodaacdfagaa
open Go.RowKit

def encT (b : Bool) : List Value := [.bool b]
theorem encT_len (b : Bool) : (encT b).length = 1 := rfl
theorem flat_encT (l : List Bool) : flatG encT l = l.map Value.bool := by
  unfold flatG encT
  induction l with
  | nil => rfl
  | cons x r ih => rw [List.flatMap_cons, ih]; rfl
set_option maxRecDepth 100000 in
theorem info_bool : (Try.prog.info? 4).map (fun i => (i.zero, i.size, i.bytes)) = some (some (.bool false), 1, 1) := by kernel_rfl
/-- what a pass of time leaves, in two parts -/
theorem once_pass {c : Ck} (_h : c.Ok) (k : Int) (hk : 0 ≤ k) (hk2 : c.now + k ≤ 1099511627776) : ∃ D R, c.l = D ++ R ∧ (c.pass k).1.1 = D.map (·.bell) ∧ (c.pass k).1.2 = 0 ∧ (c.pass k).2 = ⟨c.now + k, R⟩ ∧ (∀ y ∈ D, y.at_ ≤ c.now + k) ∧ ((∀ x ∈ c.l, x.at_ ≤ c.now + k) → R = []) := by
  refine ⟨Ck.due c.l (c.now + k), Ck.late c.l (c.now + k), (Ck.due_late _ _).symm, ?_, ?_, ?_, fun y hy => (Ck.mem_due hy).2, fun h => (Ck.due_all h).2⟩
  all_goals
    unfold Ck.pass
    rw [if_neg (by omega), if_neg (by omega)]

set_option maxHeartbeats 8000000 in
set_option maxRecDepth 100000 in
theorem clockOnce_walk (ats steps : List Nat) (va vs : Value) (w : World) (hva : Rd encU 1 w w.heap.size va ats) (hvs : Rd encU 1 w w.heap.size vs steps) (hat : ∀ n ∈ ats, n < 65536) (hst : ∀ n ∈ steps, n < 65536) (hl1 : ats.length ≤ 140737488351232) (hl2 : steps.length ≤ 140737488351232) :
    Calls Try.prog 4 #[va, vs] w fun e w' => e = .returned (.bool true) ∧ Below w.heap.size w w' := by
  obtain ⟨Aa, ca, rfl, hca, -⟩ := RdU.at hva
  obtain ⟨As, cs, rfl, hcs, -⟩ := RdU.at hvs
  have HVA := Lib.hid hva
  have HVS := Lib.hid hvs
  have HAT := Lib.hid hat
  have HST := Lib.hid hst
  have HN := Lib.hid (cnew_any w)
  clear hva hvs hat hst
  go_enter Try.func4, Try.ntmps4
  go_wp2_with fail
  refine HN.out.mono ?_
  rintro e x1 ⟨q, G, rfl, hk, hb1⟩
  have HA := Lib.hid (awake_any x1)
  have HK := Lib.hid hk
  have HB := Lib.hid hb1
  clear hk hb1 HN
  go_wp2_with fail
  refine HA.out.mono ?_
  rintro e x2 ⟨rfl, hb2⟩
  have HK2 := Lib.hid (HK.out.mv (Mv.of_new hb2 (fun _ => False)) (fun _ _ h => h))
  have HB2 := Lib.hid (HB.out.trans (hb2.mono HB.out.size))
  clear hb2 HA HK HB
  go_upto_block 0 with fail
  go_cut [6] (fun nv wx => ∃ (i : Nat) (G : Nat → Prop) (c : Ck), nv = .int .i64 (i : Int) ∧ i ≤ ats.length ∧ i ≤ 100 ∧ Laid ats i c ∧ CkAt wx w.heap.size q G c ∧ Below w.heap.size w wx)
  case first =>
    go_wp2_with fail
    go_loopw [6, 7] (fun nv iv wr => ∃ (i : Nat) (G : Nat → Prop) (c : Ck), i ≤ ats.length ∧ i ≤ 100 ∧ nv = .int .i64 (i : Int) ∧ iv = .int .i64 (i : Int) ∧ Laid ats i c ∧ CkAt wr w.heap.size q G c ∧ Below w.heap.size w wr) (fun _ iv _ => 100 - (intOf iv).toNat)
    case atStart => exact ⟨0, G, _, Nat.zero_le _, Nat.zero_le _, rfl, rfl, Laid.start ats, HK2.out, HB2.out⟩
    case round =>
      obtain ⟨i, G1, c, hi1, hi2, rfl, rfl, hlaid, hk, hb⟩ := hrel
      have HL := Lib.hid hlaid
      have HK := Lib.hid hk
      have HB := Lib.hid hb
      have hbs := hb.size
      clear hlaid hk hb HK2 HB2
      have h0 : (0 : Int) ≤ (i : Int) := by omega
      by_cases hgo : i < ats.length ∧ i < 100
      · obtain ⟨hil, hi4⟩ := hgo
        have h1 : (i : Int) < (ats.length : Int) := by omega
        have h2 : (i : Int) < 100 := by omega
        have h3 : IntKind.i64.wrap ((i : Int) + 1) = ((i + 1 : Nat) : Int) := by rw [IntKind.wrap_i64]; omega
        obtain ⟨A', c', e, -, hcell⟩ := RdU.at (HVA.out.below HB.out (Nat.le_refl _))
        injection e with e1 e2 e3
        subst e1 e3
        obtain ⟨ba, o, rfl, hbl, q0⟩ := hcell i hil
        clear hcell
        have ha := HAT.out ats[i] (List.getElem_mem hil)
        have hlay := HL.out.set hi4 (by simp only [List.getD, List.getElem?_eq_getElem hil, Option.getD_some]; omega)
        have hcs := cset_any w.heap.size q G1 c (i : Int) ((ats.getD i 0 : Nat) : Int) wr HK.out (by unfold I64; omega) (by unfold I64; simp only [List.getD, List.getElem?_eq_getElem hil, Option.getD_some]; omega)
        rw [hlay.1] at hcs
        have HL2 := Lib.hid hlay.2
        clear hlay
        have hgd : ats.getD i 0 = ats[i] := by simp [List.getD, hil]
        rw [hgd] at hcs HL2
        generalize ats[i] = a at q0 ha hcs HL2
        have h4 : IntKind.i64.wrap (a : Int) = (a : Int) := by rw [IntKind.wrap_i64]; omega
        have HC := Lib.hid hcs
        clear hcs hgd
        go_wp2_with fail
        refine HC.out.mono ?_
        rintro e x3 ⟨rfl, G3, hk3, hG3, hm3⟩
        have HK3 := Lib.hid hk3
        have HB3 := Lib.hid (HB.out.trans (mv_below HK.out hm3))
        clear hk3 hG3 hm3 HC HK HB HL q0
        go_wp2_with fail
        go_roundw
        case rel => exact ⟨i + 1, G3, _, by omega, by omega, rfl, rfl, HL2.out, HK3.out, HB3.out⟩
        case measure => simp [intOf]; omega
      · have hex : ¬ ((i : Int) < (ats.length : Int)) ∨ ((i : Int) < (ats.length : Int) ∧ ¬ ((i : Int) < 100)) := by omega
        clear hgo
        rcases hex with h1 | ⟨h1, h2⟩
        all_goals
          go_wp2_with fail
          go_meet
          case rel => exact ⟨i, G1, c, rfl, hi1, hi2, HL.out, HK.out, HB.out⟩
  case rest =>
    obtain ⟨i, G1, c, rfl, hi1, hi2, hlaid, hk, hb⟩ := hcut
    have HL := Lib.hid hlaid
    have HK := Lib.hid hk
    have HB := Lib.hid hb
    have hbs := hb.size
    clear hlaid hk hb HK2 HB2
    have HIL := Lib.hid hi1
    have HIC := Lib.hid hi2
    obtain ⟨wm, hmk, hom, hbm⟩ := run_makeK (P := Try.prog) (enc := encT) (k := 1) w.heap.size 43 4 1 [.bool false] (.bool false) false Try.underlying43 info_bool rfl rfl encT_len (by decide) i wc (by omega) (by unfold maxLen; omega) hbs
    have hru : Whole wm wc.heap.size 4 ((List.replicate i false).map Value.bool) := by
      rcases hom.row with ⟨e, _⟩ | ⟨g, cap, cur, e, hbg, hw, h5, h6, h7, h8⟩
      · cases e
      · injection e with e1 e2 e3
        injection e1 with e1
        injection e1 with e1 _ _
        subst e1 e3
        rw [List.length_replicate, flat_encT] at h8
        rw [← h8, List.take_of_length_le (by omega)]
        exact hw
    have HRU := Lib.hid hru
    have HRN := Lib.hid (Rung.start HL.out)
    have HK5 := Lib.hid (HK.out.mv (Mv.of_new hbm (fun _ => False)) (fun _ _ h => h))
    have HB5 := Lib.hid (HB.out.trans (hbm.mono hbs))
    have HNG := Lib.hid (show ¬ G1 wc.heap.size from fun hg => by have := (HK.out.low.2 _ hg).2; omega)
    have HNOW := Lib.hid HL.out.now
    have HMEM := Lib.hid HL.out.mem
    have HBS0 := Lib.hid hbs
    clear hom hbm hru HK HB hi1 hi2 hbs HL
    obtain ⟨g, hg⟩ : ∃ g, g = wc.heap.size := ⟨_, rfl⟩
    rw [← hg] at hmk HRU HNG
    have HG := Lib.hid hg
    clear hg
    go_wp2_with fail
    --@@ second half
    have HGB := Lib.hid (show w.heap.size ≤ g by rw [HG.out]; exact HBS0.out)
    go_loopw [9, 10] (fun lv sv wr => ∃ (s : Nat) (G5 : Nat → Prop) (c5 : Ck) (ru : List Bool) (last : Int), lv = .int .i64 last ∧ sv = .int .i64 (s : Int) ∧ CkAt wr w.heap.size q G5 c5 ∧ ¬ G5 g ∧ Whole wr g 4 (ru.map Value.bool) ∧ Rung ats i c5.l ru last ∧ Below w.heap.size w wr ∧ s ≤ 101 ∧ ((s ≤ steps.length ∧ s ≤ 100 ∧ c5.now ≤ 65535 * (s : Int)) ∨ (c5.l = [] ∧ ¬ (s ≤ steps.length ∧ s ≤ 100)))) (fun _ sv _ => 101 - (intOf sv).toNat)
    case atStart => exact ⟨0, G1, c, _, -1, rfl, rfl, HK5.out, HNG.out, HRU.out, HRN.out, HB5.out, by omega, .inl ⟨by omega, by omega, by rw [HNOW.out]; omega⟩⟩
    case round =>
      obtain ⟨s, G5, c5, ru, last, rfl, rfl, hkk, hng, hwg, hrung, hbb, hs101, hside⟩ := hrel
      have hs0 : (0 : Int) ≤ (s : Int) := by omega
      have HNG5 := Lib.hid hng
      have HW5 := Lib.hid hwg
      have HB6 := Lib.hid hbb
      have HK6 := Lib.hid hkk
      have hats : ∀ x ∈ c5.l, x.at_ ≤ 65535 := fun x hx => by
        obtain ⟨j, hj, rfl⟩ := hrung.all x hx
        have hja : j < ats.length := by have := HIL.out; omega
        have := HAT.out ats[j] (List.getElem_mem hja)
        simp only [nth, List.getD, List.getElem?_eq_getElem hja, Option.getD_some]
        omega
      have HATS := Lib.hid hats
      have HRG := Lib.hid hrung
      clear hng hwg hrung hbb hkk hats HRU HRN HK5 HB5 HNG
      rcases hside with ⟨hs1, hs2, hs3⟩ | ⟨hnil, hs1⟩
      · have h5 : (s : Int) ≤ (steps.length : Int) := by omega
        have h6 : (s : Int) ≤ 100 := by omega
        have h7 : IntKind.i64.wrap ((s : Int) + 1) = ((s + 1 : Nat) : Int) := by rw [IntKind.wrap_i64]; omega
        have HLOW := Lib.hid HK6.out.ok.low
        have HS3 := Lib.hid hs3
        have HS2 := Lib.hid (show s ≤ steps.length ∧ s ≤ 100 from ⟨hs1, hs2⟩)
        clear hs1 hs2 hs3 hs101
        go_upto_region 17 with fail
        go_cut [63] (fun bv wx => bv = .bool (decide (s < steps.length ∧ s < 100)) ∧ wx = wr)
        case first =>
          have hsub : (s < steps.length ∧ s < 100) ∨ (s = steps.length) ∨ (s < steps.length ∧ s = 100) := by have := HS2.out; omega
          rcases hsub with ⟨k1, k2⟩ | k1 | ⟨k1, k2⟩
          · have h8 : (s : Int) < (steps.length : Int) := by omega
            have h9 : (s : Int) < 100 := by omega
            have hd := Lib.hid (show decide (s < steps.length ∧ s < 100) = true from decide_eq_true ⟨k1, k2⟩)
            clear k1 k2
            go_wp2_with fail
            go_meet
            case rel => exact ⟨by rw [hd.out], rfl⟩
          · have h8 : ¬ (s : Int) < (steps.length : Int) := by omega
            have hd := Lib.hid (show decide (s < steps.length ∧ s < 100) = false from decide_eq_false (by omega))
            clear k1
            go_wp2_with fail
            go_meet
            case rel => exact ⟨by rw [hd.out], rfl⟩
          · have h8 : (s : Int) < (steps.length : Int) := by omega
            have h9 : ¬ (s : Int) < 100 := by omega
            have hd := Lib.hid (show decide (s < steps.length ∧ s < 100) = false from decide_eq_false (by omega))
            clear k1 k2
            go_wp2_with fail
            go_meet
            case rel => exact ⟨by rw [hd.out], rfl⟩
        case rest =>
        obtain ⟨rfl, hwc⟩ := hcut
        subst hwc
        go_upto_if 63 with fail
        go_cut [11] (fun kv wx => ∃ k : Int, kv = .int .i64 k ∧ 0 ≤ k ∧ k ≤ 70000 ∧ ((s + 1 ≤ steps.length ∧ s + 1 ≤ 100 ∧ k ≤ 65535) ∨ (k = 70000 ∧ ¬ (s + 1 ≤ steps.length ∧ s + 1 ≤ 100))) ∧ wx = wc)
        case first =>
          by_cases hd : s < steps.length ∧ s < 100
          · obtain ⟨k1, k2⟩ := id hd
            have hdd := decide_eq_true hd
            rw [hdd]
            obtain ⟨A', c', e, -, hcell⟩ := RdU.at (HVS.out.below HB6.out (Nat.le_refl _))
            injection e with e1 e2 e3
            subst e1 e3
            obtain ⟨ba, o, rfl, hbl, q0⟩ := hcell s k1
            clear hcell
            have ha := HST.out steps[s] (List.getElem_mem k1)
            generalize steps[s] = k at q0 ha
            have h8 : (s : Int) < (steps.length : Int) := by omega
            have h10 : IntKind.i64.wrap (k : Int) = (k : Int) := by rw [IntKind.wrap_i64]; omega
            have HKK := Lib.hid (show (0 : Int) ≤ (k : Int) ∧ (k : Int) ≤ 70000 ∧ ((s + 1 ≤ steps.length ∧ s + 1 ≤ 100 ∧ (k : Int) ≤ 65535) ∨ ((k : Int) = 70000 ∧ ¬ (s + 1 ≤ steps.length ∧ s + 1 ≤ 100))) by omega)
            clear hd hdd k1 k2 ha e2
            go_wp2_with fail
            go_meet
            case rel => exact ⟨(k : Int), rfl, HKK.out.1, HKK.out.2.1, HKK.out.2.2, rfl⟩
          · have hdd := decide_eq_false hd
            rw [hdd]
            have HKK := Lib.hid (show ¬ (s + 1 ≤ steps.length ∧ s + 1 ≤ 100) by omega)
            clear hd hdd
            go_wp2_with fail
            go_meet
            case rel => exact ⟨70000, rfl, by omega, by omega, .inr ⟨rfl, HKK.out⟩, rfl⟩
        case rest =>
        obtain ⟨k, rfl, hk0, hk1, hk2, hwc⟩ := hcut
        subst hwc
        have hlow := HLOW.out
        have hs3 := HS3.out
        have hs2 := HS2.out
        obtain ⟨D, R, hcl, hp1, hp2, hp3, hd, hall⟩ := once_pass HK6.out.ok k hk0 (by omega)
        obtain ⟨t, ht⟩ : ∃ t, t = c5.now + k := ⟨_, rfl⟩
        rw [← ht] at hp3 hd hall
        have HFIN := Lib.hid (show (s + 1 ≤ steps.length ∧ s + 1 ≤ 100 ∧ t ≤ 65535 * ((s + 1 : Nat) : Int)) ∨ (R = [] ∧ ¬ (s + 1 ≤ steps.length ∧ s + 1 ≤ 100)) from by
          rcases hk2 with ⟨h1, h2, h3⟩ | ⟨h1, h2⟩
          · exact .inl ⟨h1, h2, by omega⟩
          · exact .inr ⟨hall fun x hx => by have := HATS.out x hx; omega, h2⟩)
        have hcs := cpass_any w.heap.size q G5 c5 k wc HK6.out (by unfold I64; omega)
        rw [hp1, hp2, hp3] at hcs
        obtain ⟨DL, hDL⟩ : ∃ DL, DL = D.map (·.bell) := ⟨_, rfl⟩
        rw [← hDL] at hcs
        have HC := Lib.hid hcs
        have HD := Lib.hid hd
        have HDB := Lib.hid (show D.length ≤ 4096 by have := HK6.out.ok.len; rw [hcl, List.length_append] at this; omega)
        have hrg := HRG.out
        rw [hcl] at hrg
        have HRG2 := Lib.hid hrg
        have HDL := Lib.hid hDL
        have HDN := Lib.hid (show DL.length = D.length by rw [hDL, List.length_map])
        clear hcs hp1 hp2 hp3 hall ht hd hcl hrg hlow hDL HRG hk0 hk1 hk2 hs3 hs2
        go_wp2_with fail
        refine HC.out.mono ?_
        rintro e wp ⟨Ap, kp, rfl, Gp, hkp, hGp, hmp, hrp⟩
        have HKP := Lib.hid hkp
        have HWP := Lib.hid (hmp.whole HW5.out HNG5.out)
        have HNP := Lib.hid (show ¬ Gp g from fun hg => by
          rcases hGp g hg with k | k
          · exact HNG5.out k
          · have := HW5.out.size; omega)
        have HBP := Lib.hid (HB6.out.trans (mv_below HK6.out hmp))
        have HRP := Lib.hid (hrp.mono (G' := fun i => Gp i ∨ i = g) (Nat.le_refl _) fun b _ hb => by
          rcases hb with hb | rfl
          · exact .inl hb
          · exact .inr ⟨HNG5.out, HW5.out.size⟩)
        clear hkp hGp hmp hrp HC HW5 HNG5 HB6 HK6
        go_wp2_with fail
        go_loopw [9, 14] (fun lv jv wx => ∃ (j : Nat) (ru : List Bool) (last : Int), j ≤ D.length ∧ jv = .int .i64 (j : Int) ∧ lv = .int .i64 last ∧ Rung ats i (D.drop j ++ R) ru last ∧ Whole wx g 4 (ru.map Value.bool) ∧ CkAt wx w.heap.size q Gp ⟨t, R⟩ ∧ RdG encI 1 wx wx.heap.size (fun i => Gp i ∨ i = g) (.slice Ap DL.length kp) DL ∧ Below w.heap.size w wx) (fun _ jv _ => D.length - (intOf jv).toNat)
        case atStart => exact ⟨0, ru, last, Nat.zero_le _, rfl, rfl, HRG2.out, HWP.out, HKP.out, HRP.out, HBP.out⟩
        case round =>
          obtain ⟨j, ru2, last2, hj, rfl, rfl, hrung, hwx, hkx, hrx, hbx⟩ := hrel
          have HWX := Lib.hid hwx
          have HKX := Lib.hid hkx
          have HRX := Lib.hid hrx
          have HBX := Lib.hid hbx
          clear hwx hkx hrx hbx HRG2 HWP HKP HRP HBP
          have hj0 : (0 : Int) ≤ (j : Int) := by omega
          by_cases hjl : j < D.length
          · have hjl2 : j < DL.length := by have := HDN.out; omega
            have hj1 : (j : Int) < (DL.length : Int) := by omega
            rw [List.drop_eq_getElem_cons hjl, List.cons_append] at hrung
            obtain ⟨m, hm, hy, hgd, hlast, hrung2⟩ := hrung.step
            have hdue := HD.out D[j] (List.getElem_mem hjl)
            have hbell : DL[j] = (m : Int) := by
              have : DL[j] = D[j].bell := by simp only [HDL.out, List.getElem_map]
              rw [this, hy]; rfl
            have hmi : m < ats.length := by have := HIL.out; omega
            have hata : D[j].at_ = ((ats[m] : Nat) : Int) := by rw [hy]; simp [nth, List.getD, hmi]
            have hau := HAT.out ats[m] (List.getElem_mem hmi)
            rw [hata] at hdue hlast hrung2
            have HRG3 := Lib.hid hrung2
            have hml : m < ru2.length := by rw [hrung.len]; exact hm
            have hgd2 : ru2[m] = false := by simpa [List.getD, hml] using hgd
            have HRS := Lib.hid (show (ru2.map Value.bool).set m (.bool true) = (ru2.set m true).map Value.bool by rw [List.map_set])
            obtain ⟨A1, c1, e, hc1, hcx⟩ := HRX.out.atI
            injection e with e1 e2 e3
            subst e1 e3
            obtain ⟨bx, ox, rfl, hbx1, hbx2, y0⟩ := hcx j hjl2
            rw [hbell] at y0
            obtain ⟨A2, c2, e, hc2, hca2⟩ := RdU.at (HVA.out.below HBX.out (Nat.le_refl _))
            injection e with e1 e2 e3
            subst e1 e3
            obtain ⟨ba, oa, rfl, hba, y1⟩ := hca2 m hmi
            have y2 : wr.cell? ⟨g, m, none⟩ = some (.bool false) := HWX.out.cell m _ (by simp [hml, hgd2])
            clear hrung hrung2 hcx hca2 hy hgd hbell hgd2 hata e2
            generalize ats[m] = a at y1 hau hdue hlast HRG3
            have HBS := Lib.hid (show bx < wr.heap.size ∧ g < wr.heap.size ∧ ba < wr.heap.size from ⟨hbx1, HWX.out.size, Nat.lt_of_lt_of_le hba HBX.out.size⟩)
            have HY0 := Lib.hid y0
            have HY1 := Lib.hid y1
            have HCELL := Lib.hid (show ∀ W, Below wr.drew.heap.size wr.drew W → W.cell? ⟨bx, ox + j, none⟩ = some (.int .i64 (m : Int)) ∧ W.cell? ⟨g, m, none⟩ = some (.bool false) ∧ W.cell? ⟨ba, oa + m, none⟩ = some (.int .u16 (a : Int)) from fun W hW =>
              ⟨(hW.cell (p := ⟨bx, _, none⟩) HBS.out.1).trans y0, (hW.cell (p := ⟨g, _, none⟩) HBS.out.2.1).trans y2, (hW.cell (p := ⟨ba, _, none⟩) HBS.out.2.2).trans y1⟩)
            have m0 : (0 : Int) ≤ (m : Int) := by omega
            have m1 : ¬ (m : Int) < 0 := by omega
            have m2 : ¬ (i : Int) ≤ (m : Int) := by omega
            have m2n : ¬ i ≤ m := by omega
            have m3 : (m : Int) < (i : Int) := by omega
            have m4 : (m : Int) < (ats.length : Int) := by omega
            have m5 : IntKind.i64.wrap (a : Int) = (a : Int) := by rw [IntKind.wrap_i64]; omega
            have m6 : ¬ t < (a : Int) := by omega
            have m7 : ¬ (a : Int) < last2 := by omega
            have m8 : IntKind.i64.wrap ((j : Int) + 1) = ((j + 1 : Nat) : Int) := by
              have := HDB.out
              rw [IntKind.wrap_i64]; omega
            have HDC := Lib.hid (show decide ((m : Int) < 0) = false ∧ decide (t < (a : Int)) = false ∧ decide ((a : Int) < last2) = false from ⟨decide_eq_false m1, decide_eq_false m6, decide_eq_false m7⟩)
            have HNW := Lib.hid (cnow_any w.heap.size q Gp _ wr.drew (HKX.out.mv ((Mv.refl (fun _ => False) wr).drew) (fun _ _ h => h)))
            clear y0 y1 y2 hdue hlast hau
            go_wp2_with fail
            refine wp_region_planB [(true, 0), (true, 1), (true, 2), (true, 3), (true, 4), (true, 5), (true, 6), (true, 7), (true, 8), (true, 9), (true, 10), (true, 11), (true, 12), (true, 13), (true, 14), (true, 15), (true, 16), (true, 17), (true, 18), (true, 19), (true, 20), (true, 21), (true, 22), (true, 23), (true, 24), (true, 25), (true, 26), (true, 27), (true, 28), (true, 29), (true, 30), (true, 31), (false, 32), (true, 33), (true, 34), (true, 35), (true, 36), (true, 37), (true, 38), (true, 39), (true, 40), (true, 41), (true, 42), (true, 43), (true, 44), (true, 45), (true, 46)] (by kernel_rfl) (by kernel_rfl) (fun _ _ d _ _ h => by cases d <;> exact h) ?_
            repeat (refine PlanB.take (v := ?_) rfl rfl ?_ ?_; rotate_left; (focus (intro W hW; obtain ⟨k1, k2, k3⟩ := HCELL.out W hW; obtain ⟨d1, d2, d3⟩ := HDC.out; go_simp; (try with_reducible rfl); done)); (try simp only [Act.put, List.setIfInBounds_toArray, List.set_cons_zero, List.set_cons_succ]))
            refine PlanB.step rfl rfl (fun Kk hKk => ?_)
            go_simp
            go_at_call 16
            refine HNW.out.mono ?_
            rintro e w7 ⟨rfl, hbw⟩
            have HBW := Lib.hid hbw
            have hb7 : Below wr.heap.size wr w7 := ((Below.refl _ wr).drew).trans hbw
            have HK7 := Lib.hid (HKX.out.mv (Mv.of_new hb7 (fun _ => False)) (fun _ _ h => h))
            have HW7 := Lib.hid ((Mv.of_new hb7 (fun _ => False)).whole HWX.out (fun h => h))
            have HR7 := Lib.hid ((HRX.out.mv (Mv.of_new hb7 (fun _ => False)) (Nat.le_refl _) (fun _ _ h => h.elim)).mono hb7.size (fun _ _ h => h))
            have HB7 := Lib.hid (HBX.out.trans (hb7.mono HBX.out.size))
            have y0 : w7.cell? ⟨bx, ox + j, none⟩ = some (.int .i64 (m : Int)) := (hb7.cell (p := ⟨bx, _, none⟩) HBS.out.1).trans HY0.out
            have y1 : w7.cell? ⟨ba, oa + m, none⟩ = some (.int .u16 (a : Int)) := (hb7.cell (p := ⟨ba, _, none⟩) HBS.out.2.2).trans HY1.out
            have HBS7 := Lib.hid (show bx < w7.heap.size ∧ g < w7.heap.size ∧ ba < w7.heap.size by have := HBS.out; have := hb7.size; omega)
            have HCELL7 := Lib.hid (show ∀ W, Below w7.heap.size w7 W → W.cell? ⟨bx, ox + j, none⟩ = some (.int .i64 (m : Int)) ∧ W.cell? ⟨ba, oa + m, none⟩ = some (.int .u16 (a : Int)) from fun W hW =>
              ⟨(hW.cell (p := ⟨bx, _, none⟩) HBS7.out.1).trans y0, (hW.cell (p := ⟨ba, _, none⟩) HBS7.out.2.2).trans y1⟩)
            refine hKk.out _ _ HBW.out ?_
            clear hKk Kk HBW hbw hb7 HKX HWX HRX HBX HNW HCELL HBS HY0 HY1
            (try simp only [Act.put, List.setIfInBounds_toArray, List.set_cons_zero, List.set_cons_succ])
            repeat (refine PlanB.take (v := ?_) rfl rfl ?_ ?_; rotate_left; (focus (intro W hW; obtain ⟨k1, k2⟩ := HCELL7.out W hW; obtain ⟨d1, d2, d3⟩ := HDC.out; go_simp; (try with_reducible rfl); done)); (try simp only [Act.put, List.setIfInBounds_toArray, List.set_cons_zero, List.set_cons_succ]))
            simp only [PlanB]
            have y2 : w7.cell? ⟨g, m, none⟩ = some _ := HW7.out.cell m _ (by rw [List.getElem?_map, List.getElem?_eq_getElem hml]; rfl)
            have y2f := HW7.out.frozen m
            have hbg : ¬ bx = g := fun e => hbx2 (.inr e)
            have hag : ¬ ba = g := fun e => by have := HGB.out; omega
            clear HCELL7
            go_wp2_with fail
            go_roundw
            case rel =>
              have hmg : Mv (fun i => i = g) w7 (w7.setCell ⟨g, m, none⟩ (.bool true)) := (Mv.refl (fun i => i = g) w7).setCell (p := ⟨g, m, none⟩) (fun _ => rfl) _
              refine ⟨j + 1, ru2.set m true, (a : Int), by omega, rfl, rfl, HRG3.out, by rw [← HRS.out]; exact HW7.out.put m _, HK7.out.mv hmg (fun i hi e => HNP.out (e ▸ hi)), ?_, HB7.out.setCell (p := ⟨g, m, none⟩) HGB.out _⟩
              exact (HR7.out.mv hmg (Nat.le_refl _) fun b _ hb => .inr hb).mono hmg.size fun _ _ h => h
            case measure => simp [intOf]; omega
          · obtain rfl : j = D.length := by omega
            rw [List.drop_length, List.nil_append] at hrung
            have HRG4 := Lib.hid hrung
            have hj1 : ¬ ((D.length : Int) < (DL.length : Int)) := by have := HDN.out; omega
            clear hrung hjl hj hj0
            go_wp2_with fail
            go_roundw
            case rel => exact ⟨s + 1, Gp, ⟨t, R⟩, ru2, last2, rfl, by go_num, HKX.out, HNP.out, HWX.out, HRG4.out, HBX.out, by have := HS2.out; omega, HFIN.out⟩
            case measure => have := HS2.out; simp [intOf]; omega
      · have hex : ¬ ((s : Int) ≤ (steps.length : Int)) ∨ ((s : Int) ≤ (steps.length : Int) ∧ ¬ ((s : Int) ≤ 100)) := by omega
        have hrg := HRG.out
        rw [hnil] at hrg
        have HRT := Lib.hid (fun j hj => hrg.all_true j hj)
        have HRL := Lib.hid hrg.len
        clear hnil hs1 hrg HRG
        rcases hex with h1 | ⟨h1, h2⟩
        all_goals
          go_wp2_with fail
          go_loopw [15] (fun iv wx => ∃ z : Nat, z ≤ i ∧ iv = .int .i64 (z : Int) ∧ wx = wr) (fun iv _ => i - (intOf iv).toNat)
          case atStart => exact ⟨0, Nat.zero_le _, rfl, rfl⟩
          case round =>
            obtain ⟨z, hz, rfl, hwr⟩ := hrel
            subst hwr
            have z0 : (0 : Int) ≤ (z : Int) := by omega
            by_cases hzi : z < i
            · have z1 : (z : Int) < (i : Int) := by omega
              have z2 : IntKind.i64.wrap ((z : Int) + 1) = ((z + 1 : Nat) : Int) := by have := HIC.out; rw [IntKind.wrap_i64]; omega
              have hzl : z < ru.length := by rw [HRL.out]; exact hzi
              have hzt : ru[z] = true := by have := HRT.out z hzi; simpa [List.getD, hzl] using this
              have y0 : wr.cell? ⟨g, z, none⟩ = some (.bool true) := HW5.out.cell z _ (by rw [List.getElem?_map, List.getElem?_eq_getElem hzl, hzt]; rfl)
              clear hzt
              go_wp2_with fail
              go_roundw
              case rel => exact ⟨z + 1, by omega, rfl, by first | trivial | rfl⟩
              case measure => simp [intOf]; omega
            · have z1 : ¬ (z : Int) < (i : Int) := by omega
              go_wp2_with fail
              go_ret
              exact ⟨rfl, HB6.out⟩
end Go.Proofs.Ytcigodaacdfagaa

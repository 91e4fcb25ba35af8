/- RefereeAgain's walk. -/
import Derived.Test.YtgppgecglkellaaFao
import Derived.Deep.CutBlock
import Derived.Deep.DeepCutAuto
import Derived.Deep.Cut
import Derived.Deep.CutRange
namespace Go.Proofs.Ytgppgecglkellaa
open Go.RowKit
attribute [local go_sem] less_eq same_eq le_eq ge_eq gt_eq

theorem TxOk.offR {w w' : World} {v : Value} {ts : List TxV} {q n : Nat} {G : Nat → Prop} {r : Rf} (h : TxOk w v ts) (hb : Below w.heap.size w w') (hm : RfAt w' w.heap.size q G n r) : RdTx w' w'.heap.size G v ts :=
  (h.next hb).mono hb.size (fun b h1 h2 => by have := (hm.low.2 b h2).1; omega)
theorem jerr_cases (m : Mk) (v : Int) (ts : List Txn) : jerr m v ts = 0 ∨ jerr m v ts = 2 ∨ jerr m v ts = 9 := by
  unfold jerr
  split
  · exact .inr (.inr rfl)
  · split
    · exact .inr (.inl rfl)
    · exact .inl rfl
theorem rfjout_len {m : Mk} {v : Int} {ts : List Txn} (h : jerr m v ts = 0) : (jout m v ts).length = ts.length := by
  unfold jout
  rw [if_pos h, judgeL_len]

set_option maxHeartbeats 8000000 in
set_option maxRecDepth 100000 in
theorem refereeAgain_walk (l os : List TxV) (v1 v2 : Value) (n : Nat) (hn : n < 256) (w : World) (hl : TxOk w v1 l) (ho : TxOk w v2 os) :
    Calls Try.prog 3 #[v1, v2, .int .u8 (n : Int)] w fun e w' => e = .returned (.bool true) ∧ Below w.heap.size w w' := by
  obtain ⟨A, c0, rfl, hcap, -⟩ := hl.rd.at
  obtain ⟨B, d0, rfl, -, -⟩ := ho.rd.at
  have HN := Lib.hid (rfnew_any w)
  have HL := Lib.hid hl
  have HO := Lib.hid ho
  clear hl ho
  go_enter Try.func3, Try.ntmps3
  go_wp2_with fail
  refine HN.out.mono ?_
  rintro e w1 ⟨q, G, rfl, hr1, hb1⟩
  have HA := Lib.hid (rfawake_any w1)
  have HR1 := Lib.hid hr1
  have HB1 := Lib.hid hb1
  clear hr1 hb1 HN
  go_wp2_with fail
  refine HA.out.mono ?_
  rintro e w2 ⟨rfl, hb2⟩
  have HR2 := Lib.hid (HR1.out.new hb2)
  have HB2 := Lib.hid (HB1.out.trans (hb2.mono HB1.out.size))
  have hbg := rfbegin_any w.heap.size q 0 G Rf.new 1 10 (by unfold I64; omega) (by unfold I64; omega) w2 HR2.out
  rw [Rf.begin_new 1 10 (by decide) (by decide)] at hbg
  simp only at hbg
  have HBG := Lib.hid hbg
  clear hb2 hbg HA HR1 HB1
  go_wp2_with fail
  refine HBG.out.mono ?_
  rintro e w3 ⟨rfl, G3, hr3, hG3, hm3⟩
  have HB3 := Lib.hid (HB2.out.trans (HR2.out.below hm3))
  have HR3 := Lib.hid hr3
  clear hr3 hG3 hm3 HBG HR2 HB2
  go_upto_if 35 with fail
  go_cut [0] (fun lv wx => lv = .slice A (l.take 4).length c0 ∧ wx = w3)
  case first =>
    by_cases h4 : 4 < l.length
    · have h4' : (4 : Int) < (l.length : Int) := by omega
      have h5' : (4 : Int) ≤ (c0 : Int) := by omega
      have HLE := Lib.hid (show (l.take 4).length = 4 from by rw [List.length_take]; omega)
      clear h4
      go_wp2_with fail
      go_meet
      case rel => exact ⟨by rw [HLE.out], rfl⟩
    · have h4' : ¬ (4 : Int) < (l.length : Int) := by omega
      have HLE := Lib.hid (show (l.take 4).length = l.length from by rw [List.length_take]; omega)
      clear h4
      go_wp2_with fail
      go_meet
      case rel => exact ⟨by rw [HLE.out], rfl⟩
  case rest =>
  obtain ⟨rfl, hwc⟩ := hcut
  have hwc' := hwc.symm
  subst hwc'
  have hts4 : (l.take 4).length ≤ 4 := by rw [List.length_take]; omega
  have HT := Lib.hid (TxOk.take HL.out (l.take 4).length (by rw [List.length_take]; omega))
  rw [show l.take (l.take 4).length = l.take 4 from by rw [List.length_take]; by_cases h : 4 ≤ l.length; rw [Nat.min_eq_left h]; rw [Nat.min_eq_right (by omega), List.take_of_length_le (Nat.le_refl _), List.take_of_length_le (by omega)]] at HT
  generalize l.take 4 = ts at HT hts4
  clear HL
  have hj := rfjudge_any w.heap.size q _ G3 _ 1 10 20 (by unfold I64; omega) (by unfold I64; omega) (by unfold I64; omega) ts (.slice A ts.length c0) w3 HR3.out (HT.out.offR HB3.out HR3.out) HT.out.fit HT.out.read (by omega)
  by_cases he : jerr (mnew 10) 20 (ts.map (·.t)) = 0
  case neg =>
    rw [Rf.judge_bad (r := ⟨1, 10, mnew 10, false, []⟩) rfl (by simp) (by simp) rfl he] at hj
    simp only [List.length_nil] at hj
    have HE := Lib.hid (jerr_cases (mnew 10) 20 (ts.map (·.t)))
    generalize jerr (mnew 10) 20 (ts.map (·.t)) = E at hj HE he
    have HJ := Lib.hid hj
    have hE0 : (E == 0) = false := by simpa using he
    clear hj he
    go_wp2_with fail
    refine HJ.out.mono ?_
    rintro e w4 ⟨A4, c4, rfl, G4, hr4, hG4, hm4, -⟩
    have hj := rfjudge_any w.heap.size q _ G4 _ 1 10 20 (by unfold I64; omega) (by unfold I64; omega) (by unfold I64; omega) [] (.slice none 0 0) w4 hr4 ⟨RdG.none_ _ _ _ _ _, by simp⟩ (by simp) (by simp) (by omega)
    rw [List.map_nil, Rf.judge_new (r := ⟨1, 10, mnew 10, false, []⟩) rfl (by simp) (by simp) rfl (jerr_nil (by decide) (by decide))] at hj
    simp only at hj
    have HJ2 := Lib.hid hj
    have HB4 := Lib.hid (HB3.out.trans (HR3.out.below hm4))
    have HR4 := Lib.hid hr4
    clear hj hr4 hG4 hm4 HJ HR3
    go_wp2_with fail
    refine HJ2.out.mono ?_
    rintro e w5 ⟨A5, c5, rfl, G5, hr5, hG5, hm5, -⟩
    have HB5 := Lib.hid (HB4.out.trans (HR4.out.below hm5))
    clear hr5 hG5 hm5 HJ2
    go_wp2_with fail
    go_ret
    exact ⟨rfl, HB5.out⟩
  rw [Rf.judge_new (r := ⟨1, 10, mnew 10, false, []⟩) rfl (by simp) (by simp) rfl he] at hj
  simp only at hj
  have hLl : (jout (mnew 10) 20 (ts.map (·.t))).length ≤ 4 := by rw [rfjout_len he, List.length_map]; exact hts4
  generalize jout (mnew 10) 20 (ts.map (·.t)) = L at hj hLl
  generalize fnext (jnext (mnew 10) 20 (ts.map (·.t))) (20 - 100) = m at hj
  have HJ := Lib.hid hj
  have HLL := Lib.hid hLl
  obtain ⟨k5, hk5⟩ : ∃ k5, k5 = n % 5 := ⟨_, rfl⟩
  have hk5' : k5 < 5 := by omega
  have hq1 : Int.tmod (n : Int) 5 = (k5 : Int) := by rw [hk5]; simp [Int.tmod]
  have hq2 : (n : Int) % 5 = (k5 : Int) := by omega
  clear hj he hLl hk5 hts4
  go_wp2_with fail
  refine HJ.out.mono ?_
  rintro e w4 ⟨A4, c4, rfl, G4, hr4, hG4, hm4, hl4⟩
  have HB4 := Lib.hid (HB3.out.trans (HR3.out.below hm4))
  have HR4 := Lib.hid hr4
  have HL4 := Lib.hid (show RdG encI 1 w4 w4.heap.size G4 (.slice A4 L.length c4) L from hl4.mono (Nat.le_refl _) (fun _ _ h => .inl h))
  clear hr4 hG4 hm4 hl4 HJ HR3 HB3
  go_wp2_with fail
  go_loopw [12] (fun iv wr => ∃ (i k : Nat) (G : Nat → Prop), i ≤ k5 ∧ iv = .int .i64 (i : Int) ∧ k ≤ 4 + 4 * i ∧ RfAt wr w.heap.size q G k ⟨1, 20, m, true, L⟩ ∧ RdG encI 1 wr wr.heap.size G (.slice A4 L.length c4) L ∧ Below w.heap.size w wr) (fun iv _ => k5 - (intOf iv).toNat)
  case atStart => exact ⟨0, 4, G4, by omega, rfl, by omega, HR4.out, HL4.out, HB4.out⟩
  case round =>
    obtain ⟨i, k, G5, hi, rfl, hk, hr5, hl5, hb5⟩ := hrel
    clear HR4 HL4 HB4
    by_cases hgo : i < k5
    · have h1 : (i : Int) < (k5 : Int) := by omega
      have hj := rfjudge_any w.heap.size q k G5 _ 1 (n : Int) 20 (by unfold I64; omega) (by unfold I64; omega) (by unfold I64; omega) os (.slice B os.length d0) wr hr5 (HO.out.offR hb5 hr5) HO.out.fit HO.out.read (by omega)
      rw [Rf.judge_again (r := ⟨1, 20, m, true, L⟩) rfl (by simp) rfl rfl] at hj
      simp only at hj
      have HJ := Lib.hid hj
      have HR5 := Lib.hid hr5
      have HL5 := Lib.hid hl5
      have HB5 := Lib.hid hb5
      have HK := Lib.hid (And.intro hk hgo)
      clear hj hr5 hl5 hb5 hk hgo hi
      have hi5 : i < 5 := by have := HK.out.2; omega
      go_wp2_with fail
      refine HJ.out.mono ?_
      rintro e w6 ⟨A6, c6, rfl, G6, hr6, hG6, hm6, hl6⟩
      have hl4 := (HL5.out.mv hm6 (Nat.le_refl _) (fun _ _ h => h)).mono (G' := G6) hm6.size (fun b hb hg => by rcases hG6 b hg with h | h; exact h; omega)
      have HI := Lib.hid (ints_any L L (.slice A4 L.length c4) (.slice A6 L.length c6) w6 hl4.rd hl6.rd (by have := HLL.out; omega) (by have := HLL.out; omega))
      rw [decide_eq_true rfl] at HI
      have HR6 := Lib.hid hr6
      have HL6 := Lib.hid hl4
      have HB6 := Lib.hid (HB5.out.trans (HR5.out.below hm6))
      clear hr6 hG6 hm6 hl6 hl4 HJ HR5 HL5 HB5
      go_wp2_with fail
      refine HI.out.mono ?_
      rintro e w7 ⟨rfl, hb7⟩
      have HR7 := Lib.hid (HR6.out.new hb7)
      have HL7 := Lib.hid ((HL6.out.mv (Mv.of_new hb7 (fun _ => False)) (Nat.le_refl _) (fun _ _ h => h.elim)).mono (G' := G6) hb7.size (fun _ _ h => h))
      have HB7 := Lib.hid (HB6.out.trans (hb7.mono HB6.out.size))
      clear hb7 HI HR6 HL6 HB6
      go_wp2_with fail
      go_roundw
      case rel => exact ⟨i + 1, k + 4, G6, by have := HK.out.2; omega, by go_num, by have := HK.out.1; omega, HR7.out, HL7.out, HB7.out⟩
      case measure => have := HK.out.2; simp [intOf]; omega
    · have h1 : ¬ (i : Int) < (k5 : Int) := by omega
      have hj := rfjudge_any w.heap.size q k G5 _ 1 10 15 (by unfold I64; omega) (by unfold I64; omega) (by unfold I64; omega) ts (.slice A ts.length c0) wr hr5 (HT.out.offR hb5 hr5) HT.out.fit HT.out.read (by omega)
      rw [Rf.judge_old (r := ⟨1, 20, m, true, L⟩) rfl (by simp) (by simp)] at hj
      simp only [List.length_nil] at hj
      have HJ := Lib.hid hj
      have HR5 := Lib.hid hr5
      have HB5 := Lib.hid hb5
      have hk60 : k ≤ 24 := by omega
      clear hj hr5 hl5 hb5 hk hgo hi
      go_wp2_with fail
      refine HJ.out.mono ?_
      rintro e w6 ⟨A6, c6, rfl, G6, hr6, hG6, hm6, -⟩
      have HB6 := Lib.hid (HB5.out.trans (HR5.out.below hm6))
      have hj := rfjudge_any w.heap.size q _ G6 _ 1 10 30 (by unfold I64; omega) (by unfold I64; omega) (by unfold I64; omega) ts (.slice A ts.length c0) w6 hr6 (HT.out.offR HB6.out hr6) HT.out.fit HT.out.read (by omega)
      rw [Rf.judge_order (r := ⟨1, 20, m, true, L⟩) rfl (by simp) (by simp) (by simp)] at hj
      simp only [List.length_nil] at hj
      have HJ2 := Lib.hid hj
      have HR6 := Lib.hid hr6
      clear hj hr6 hG6 hm6 HJ HR5 HB5
      go_wp2_with fail
      refine HJ2.out.mono ?_
      rintro e w7 ⟨A7, c7, rfl, G7, hr7, hG7, hm7, -⟩
      have HB7 := Lib.hid (HB6.out.trans (HR6.out.below hm7))
      have hj := rfjudge_any w.heap.size q _ G7 _ 2 20 30 (by unfold I64; omega) (by unfold I64; omega) (by unfold I64; omega) ts (.slice A ts.length c0) w7 hr7 (HT.out.offR HB7.out hr7) HT.out.fit HT.out.read (by omega)
      rw [Rf.judge_none (r := ⟨1, 20, m, true, L⟩) (by simp)] at hj
      simp only [List.length_nil] at hj
      have HJ3 := Lib.hid hj
      have HR7 := Lib.hid hr7
      clear hj hr7 hG7 hm7 HJ2 HR6 HB6
      go_wp2_with fail
      refine HJ3.out.mono ?_
      rintro e w8 ⟨A8, c8, rfl, G8, hr8, hG8, hm8, -⟩
      have HB8 := Lib.hid (HB7.out.trans (HR7.out.below hm8))
      clear hr8 hG8 hm8
      go_wp2_with fail
      go_ret
      exact ⟨rfl, HB8.out⟩
end Go.Proofs.Ytgppgecglkellaa

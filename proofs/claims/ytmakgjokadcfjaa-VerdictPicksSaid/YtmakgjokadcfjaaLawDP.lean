/- VerdictPicks' walk. -/
import Derived.Test.YtmakgjokadcfjaaFag
import Derived.Test.YtmakgjokadcfjaaFah
import Derived.Test.YtmakgjokadcfjaaFac
namespace Go.Proofs.Ytmakgjokadcfjaa
open Go.RowKit
attribute [local go_sem] less_eq same_eq le_eq ge_eq gt_eq

theorem fines_len (z : List (Txn × Int)) (h : okPick z) : (fines z).length ≤ 24 * z.length := by
  induction z with
  | nil => simp [fines]
  | cons x z ih =>
    have h1 := ih (fun y hy => h y (List.mem_cons_of_mem _ hy))
    have h2 : x.1.chgs.length ≤ 24 := (h x (List.mem_cons_self ..)).2.2.2.2.1
    unfold fines at h1 ⊢
    rw [List.flatMap_cons, List.length_append, List.length_cons]
    split
    · omega
    · rw [List.length_nil]; omega
theorem pick_len (l : List Txn) (vs : List Int) (h : l.length ≤ 40) : (pickAns l vs).1.length ≤ 1000 := by
  by_cases hl : l.length = vs.length
  · rw [pickAns_eq hl]
    by_cases g : ∀ x ∈ l.zip vs, okV x.2 ∧ soundT x.1
    · rw [if_pos g]
      have := fines_len (l.zip vs) g
      rw [List.length_zip] at this
      show (fines (l.zip vs)).length ≤ 1000
      omega
    · rw [if_neg g]; simp
  · rw [pick_arg hl]; simp

set_option maxHeartbeats 4000000 in
set_option maxRecDepth 100000 in
theorem verdictPicks_walk (ts : List TxV) (vs : List Int) (v u : Value) (w : World) (hv : TsOk w v ts) (hu : RdI w w.heap.size u vs) (_hi : ∀ n ∈ vs, I64 n) (hm : vs.length ≤ 17592186043904) :
    Calls Try.prog 5 #[v, u] w fun e w' => e = .returned (.bool true) ∧ Below w.heap.size w w' := by
  obtain ⟨A, c, rfl, hc, -⟩ := hv.rd.keep
  obtain ⟨B, d, rfl, -, -⟩ := hu.keep
  have hlt := hv.len
  by_cases h40 : (40 : Int) < (ts.length : Int)
  · have hcI : (40 : Int) ≤ (c : Int) := by omega
    obtain ⟨T, hTe⟩ : ∃ T, T = ts.take 40 := ⟨_, rfl⟩
    have hTl : T.length = 40 := by rw [hTe, List.length_take]; omega
    have hT : RdTs w w.heap.size (.slice A T.length c) T := by
      have := hv.rd.take 40 (by omega)
      rw [← hTe] at this
      rw [hTl]
      exact this
    have hf : ∀ x ∈ T, fitT x.t := fun x hx => hv.fit x (List.mem_of_mem_take (by rw [← hTe]; exact hx))
    have hrd : ∀ x ∈ T, x.t.read < 9223372036854775808 := fun x hx => (hv.read x (List.mem_of_mem_take (by rw [← hTe]; exact hx))).2
    have hT40 : T.length ≤ 40 := by omega
    have HTL := Lib.hid hTl
    clear hTe hv
    have hTI : ((40 : Nat) : Int) = (T.length : Int) := by rw [hTl]
    have hP := fun W (h : Below w.heap.size w W) => ppick_any T vs _ _ W (hT.next h) (hu.next h) hf hrd hT40 (by omega)
    have hR := fun W (h : Below w.heap.size w W) => rpick_any T vs _ _ W (hT.next h) (hu.next h) hf hT40 (by omega)
    have hF := fun W (h : Below w.heap.size w W) => pfill_any T _ W (hT.next h) (by omega)
    have hln := pick_len (T.map (·.t)) vs (by simpa using hT40)
    have hfl : fillV (T.map (·.t)) = min T.length 4 := by unfold fillV; simp
    rw [hfl] at hF
    rw [hTl] at hP hR hF
    rw [show min 40 4 = 4 from rfl] at hF
    generalize pickAns (T.map (·.t)) vs = R at hP hR hln
    obtain ⟨L, E⟩ := R
    simp only at hP hR hln
    have HP := Lib.hid hP
    have HR := Lib.hid hR
    have HF := Lib.hid hF
    have HI := Lib.hid (fun va vb W (h1 : RdC W W.heap.size va L) (h2 : RdC W W.heap.size vb L) => chgs_any L L va vb W h1 h2 (by omega) (by omega))
    rw [show decide (L = L) = true from decide_eq_true rfl] at HI
    clear hP hR hF hln hfl hT hf
    clear hTI
    go_enter Try.func5, Try.ntmps5
    go_wp2_with fail
    refine (HP.out w (Below.refl _ _)).mono ?_
    rintro e w1 ⟨v1, rfl, hr1, hb1⟩
    obtain ⟨A1, c1, rfl, -, -⟩ := hr1.at
    have HB1 := Lib.hid hb1
    have HR1 := Lib.hid hr1
    clear hb1 hr1
    go_wp2_with fail
    refine (HR.out w1 HB1.out).mono ?_
    rintro e w2 ⟨v2, rfl, hr2, hb2⟩
    obtain ⟨A2, c2, rfl, -, -⟩ := hr2.at
    have HB2 := Lib.hid (HB1.out.trans (hb2.mono HB1.out.size))
    have HR12 := Lib.hid (HR1.out.next hb2)
    have HR2 := Lib.hid hr2
    clear hb2 hr2
    go_wp2_with fail
    refine (awakeD_any w2).mono ?_
    rintro e w3 ⟨rfl, hb3⟩
    have HB3 := Lib.hid (HB2.out.trans (hb3.mono HB2.out.size))
    have HC := Lib.hid (HI.out _ _ w3 (HR12.out.next hb3) (HR2.out.next hb3))
    clear hb3
    go_wp2_with fail
    refine HC.out.mono ?_
    rintro e w4 ⟨rfl, hb4⟩
    have HB4 := Lib.hid (HB3.out.trans (hb4.mono HB3.out.size))
    clear hb4
    have hfi := HF.out w4 HB4.out
    have HFI := Lib.hid hfi
    clear hfi
    go_wp2_with fail
    refine HFI.out.mono ?_
    rintro e w5 ⟨rfl, hb5⟩
    have HB5 := Lib.hid (HB4.out.trans (hb5.mono HB4.out.size))
    clear hb5
    go_wp2_with fail
    go_ret
    exact ⟨rfl, HB5.out⟩
  · obtain ⟨T, rfl⟩ : ∃ T, T = ts := ⟨_, rfl⟩
    have hT := hv.rd
    have hf := hv.fit
    have hrd := fun x hx => (hv.read x hx).2
    have hT40 : T.length ≤ 40 := by omega
    clear hv
    have hP := fun W (h : Below w.heap.size w W) => ppick_any T vs _ _ W (hT.next h) (hu.next h) hf hrd hT40 (by omega)
    have hR := fun W (h : Below w.heap.size w W) => rpick_any T vs _ _ W (hT.next h) (hu.next h) hf hT40 (by omega)
    have hF := fun W (h : Below w.heap.size w W) => pfill_any T _ W (hT.next h) (by omega)
    have hln := pick_len (T.map (·.t)) vs (by simpa using hT40)
    have hfl : fillV (T.map (·.t)) = min T.length 4 := by unfold fillV; simp
    rw [hfl] at hF
    generalize pickAns (T.map (·.t)) vs = R at hP hR hln
    obtain ⟨L, E⟩ := R
    simp only at hP hR hln
    have HP := Lib.hid hP
    have HR := Lib.hid hR
    have HF := Lib.hid hF
    have HI := Lib.hid (fun va vb W (h1 : RdC W W.heap.size va L) (h2 : RdC W W.heap.size vb L) => chgs_any L L va vb W h1 h2 (by omega) (by omega))
    rw [show decide (L = L) = true from decide_eq_true rfl] at HI
    clear hP hR hF hln hfl hT hf
    go_enter Try.func5, Try.ntmps5
    go_wp2_with fail
    refine (HP.out w (Below.refl _ _)).mono ?_
    rintro e w1 ⟨v1, rfl, hr1, hb1⟩
    obtain ⟨A1, c1, rfl, -, -⟩ := hr1.at
    have HB1 := Lib.hid hb1
    have HR1 := Lib.hid hr1
    clear hb1 hr1
    go_wp2_with fail
    refine (HR.out w1 HB1.out).mono ?_
    rintro e w2 ⟨v2, rfl, hr2, hb2⟩
    obtain ⟨A2, c2, rfl, -, -⟩ := hr2.at
    have HB2 := Lib.hid (HB1.out.trans (hb2.mono HB1.out.size))
    have HR12 := Lib.hid (HR1.out.next hb2)
    have HR2 := Lib.hid hr2
    clear hb2 hr2
    by_cases h4 : (4 : Int) < (T.length : Int)
    · have hm : min T.length 4 = 4 := by omega
      have HM := Lib.hid hm
      clear hm
      go_wp2_with fail
      refine (awakeD_any w2).mono ?_
      rintro e w3 ⟨rfl, hb3⟩
      have HB3 := Lib.hid (HB2.out.trans (hb3.mono HB2.out.size))
      have HC := Lib.hid (HI.out _ _ w3 (HR12.out.next hb3) (HR2.out.next hb3))
      clear hb3
      go_wp2_with fail
      refine HC.out.mono ?_
      rintro e w4 ⟨rfl, hb4⟩
      have HB4 := Lib.hid (HB3.out.trans (hb4.mono HB3.out.size))
      clear hb4
      have hfi := HF.out w4 HB4.out
      rw [HM.out] at hfi
      have HFI := Lib.hid hfi
      clear hfi
      go_wp2_with fail
      refine HFI.out.mono ?_
      rintro e w5 ⟨rfl, hb5⟩
      have HB5 := Lib.hid (HB4.out.trans (hb5.mono HB4.out.size))
      clear hb5
      go_wp2_with fail
      go_ret
      exact ⟨rfl, HB5.out⟩
    · have hm : min T.length 4 = T.length := by omega
      have HM := Lib.hid hm
      clear hm
      go_wp2_with fail
      refine (awakeD_any w2).mono ?_
      rintro e w3 ⟨rfl, hb3⟩
      have HB3 := Lib.hid (HB2.out.trans (hb3.mono HB2.out.size))
      have HC := Lib.hid (HI.out _ _ w3 (HR12.out.next hb3) (HR2.out.next hb3))
      clear hb3
      go_wp2_with fail
      refine HC.out.mono ?_
      rintro e w4 ⟨rfl, hb4⟩
      have HB4 := Lib.hid (HB3.out.trans (hb4.mono HB3.out.size))
      clear hb4
      have hfi := HF.out w4 HB4.out
      rw [HM.out] at hfi
      have HFI := Lib.hid hfi
      clear hfi
      go_wp2_with fail
      refine HFI.out.mono ?_
      rintro e w5 ⟨rfl, hb5⟩
      have HB5 := Lib.hid (HB4.out.trans (hb5.mono HB4.out.size))
      clear hb5
      go_wp2_with fail
      go_ret
      exact ⟨rfl, HB5.out⟩
end Go.Proofs.Ytmakgjokadcfjaa

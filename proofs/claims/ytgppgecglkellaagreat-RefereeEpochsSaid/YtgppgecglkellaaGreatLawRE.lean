/- RefereeEpochs' walk. -/
import Derived.Test.YtgppgecglkellaaGreatFar
namespace Go.Proofs.YtgppgecglkellaaGreat
open Go.RowKit
attribute [local go_sem] less_eq same_eq le_eq ge_eq gt_eq

theorem repoch1 (x : Int) (t : Txn) (hx : 1 ≤ x) (h : soundT t) : ∃ l m, (⟨x, 100, mnew 100, false, []⟩ : Rf).judge x 100 200 [t] = (l, 0, ⟨x, 200, m, true, l⟩) := by
  have he : jerr (mnew 100) 200 [t] = 0 := jerr_one (by decide) (by decide) h
  refine ⟨_, _, Rf.judge_new (r := ⟨x, 100, mnew 100, false, []⟩) rfl ?_ (by simp) rfl he⟩
  show x ≠ 0
  omega
theorem repoch2 (y : Int) (u : Txn) (hy : 1 ≤ y) (h : soundT u) (hr : u.read = 150) : ∃ m, (⟨y, 120, mnew 120, false, []⟩ : Rf).judge y 120 160 [u] = ([1], 0, ⟨y, 160, m, true, [1]⟩) := by
  have he : jerr (mnew 120) 160 [u] = 0 := jerr_one (by decide) (by decide) h
  obtain ⟨h1, _⟩ := jone he
  have hv : verd (mnew 120) u = 1 := verd_fine (.inr (by rw [hr]; decide)) (fun k => .inl (by simp [mnew]))
  rw [hv] at h1
  rw [Rf.judge_new (r := ⟨y, 120, mnew 120, false, []⟩) rfl (by show y ≠ 0; omega) (by simp) rfl he]
  simp only
  rw [h1]
  exact ⟨_, rfl⟩

set_option maxHeartbeats 8000000 in
set_option maxRecDepth 100000 in
theorem refereeEpochs_walk (t u : Txn) (v1 v2 u1 u2 : Value) (a b : Nat) (ha : a < 256) (hb : b < 256) (w : World) (ht : TxIn w t v1 v2) (hu : TxIn w u u1 u2) :
    Calls Tryz.prog 4 #[tval t v1 v2, tval u u1 u2, .int .u8 (a : Int), .int .u8 (b : Int)] w fun e w' => e = .returned (.bool true) ∧ Below w.heap.size w w' := by
  obtain ⟨A1, c1, A2, c2, rfl, rfl⟩ := ht.slices
  obtain ⟨B1, d1, B2, d2, rfl, rfl⟩ := hu.slices
  have hu' := hu.again (r := 150) (by unfold I64; omega)
  obtain ⟨u', hu'e⟩ : ∃ u', u' = ({ u with read := 150 } : Txn) := ⟨_, rfl⟩
  rw [← hu'e] at hu'
  have hur : u'.read = 150 := by rw [hu'e]
  have hl1 : u.reads.length = u'.reads.length := by rw [hu'e]
  have hl2 : u.chgs.length = u'.chgs.length := by rw [hu'e]
  unfold tval
  rw [hl1, hl2] at hu' ⊢
  obtain ⟨w0, hw0⟩ : ∃ w0, w0 = (w.alloc (.cells #[.int .i64 t.read, .slice A1 t.reads.length c1, .slice A2 t.chgs.length c2] 47)).alloc (.cells #[.int .i64 u.read, .slice B1 u'.reads.length d1, .slice B2 u'.chgs.length d2] 47) := ⟨_, rfl⟩
  have hb0 : Below w.heap.size w w0 := by rw [hw0]; exact ((Below.refl _ w).alloc (Nat.le_refl _) _).alloc (by simp) _
  have hz0 : w0.heap.size = w.heap.size + 1 + 1 := by rw [hw0]; simp
  have hT0 : Whole w0 w.heap.size 47 [.int .i64 t.read, .slice A1 t.reads.length c1, .slice A2 t.chgs.length c2] := by rw [hw0]; exact (Whole.fresh w _ [_, _, _]).alloc _
  have hU0 : Whole w0 (w.heap.size + 1) 47 [.int .i64 u.read, .slice B1 u'.reads.length d1, .slice B2 u'.chgs.length d2] := by
    rw [hw0]
    have := Whole.fresh (w.alloc (.cells #[.int .i64 t.read, .slice A1 t.reads.length c1, .slice A2 t.chgs.length c2] 47)) 47 [.int .i64 u.read, .slice B1 u'.reads.length d1, .slice B2 u'.chgs.length d2]
    rw [World.size_alloc] at this
    exact this
  have HN := Lib.hid (rfnew_any w0)
  have HB0 := Lib.hid hb0
  have HT0 := Lib.hid hT0
  have HU0 := Lib.hid hU0
  have HZ0 := Lib.hid hz0
  have HTI := Lib.hid ht
  have HUI := Lib.hid hu'
  have HUR := Lib.hid hur
  clear hb0 hT0 hU0 hz0 ht hu hu' hu'e hur hl1 hl2
  go_enter Tryz.func4, Tryz.ntmps4
  go_wp2_with fail
  rw [← hw0]
  clear hw0
  refine HN.out.mono ?_
  rintro e w1 ⟨q, G, rfl, hr1, hb1⟩
  have hT1 := HT0.out.below hb1 HT0.out.size
  have hU1 := HU0.out.below hb1 HU0.out.size
  have p0 := hU1.cell 0 _ rfl
  have f0 := hU1.frozen 0
  obtain ⟨w2, hw2⟩ : ∃ w2, w2 = w1.setCell ⟨w.heap.size + 1, 0, none⟩ (.int .i64 150) := ⟨_, rfl⟩
  have hm2 : Mv (fun i => i = w.heap.size + 1) w1 w2 := by rw [hw2]; exact (Mv.refl (fun i => i = w.heap.size + 1) w1).setCell (p := ⟨w.heap.size + 1, 0, none⟩) (fun _ => rfl) _
  have hU2 : Whole w2 (w.heap.size + 1) 47 [.int .i64 150, .slice B1 u'.reads.length d1, .slice B2 u'.chgs.length d2] := by
    rw [hw2]
    have h := hU1.put 0 (.int .i64 150)
    simp only [List.set] at h
    exact h
  have hT2 := hm2.whole hT1 (by omega)
  have hr2 := hr1.mv hm2 (fun i hi e => by have := (hr1.low.2 i hi).1; have := HZ0.out; omega)
  have hb2 : Below w.heap.size w w2 := (HB0.out.trans (hb1.mono HB0.out.size)).trans (hm2.below (HB0.out.trans (hb1.mono HB0.out.size)).size (fun i e => by omega))
  have HA := Lib.hid (rfawake_any w2)
  have HR2 := Lib.hid hr2
  have HB2 := Lib.hid hb2
  have HT2 := Lib.hid hT2
  have HU2 := Lib.hid hU2
  clear hr2 hb2 hT2 hU2 hm2 hT1 hU1 hr1 hb1 HN HT0 HU0
  go_wp2_with fail
  rw [← hw2]
  clear hw2 p0 f0
  refine HA.out.mono ?_
  rintro e w3 ⟨rfl, hb3⟩
  have HR3 := Lib.hid (HR2.out.new hb3)
  have HB3 := Lib.hid (HB2.out.trans (hb3.mono HB2.out.size))
  have hT3 := HT2.out.below hb3 HT2.out.size
  have hU3 := HU2.out.below hb3 HU2.out.size
  have x0 := hT3.cell 0 _ rfl
  have x1 := hT3.cell 1 _ rfl
  have x2 := hT3.cell 2 _ rfl
  have hs1 := HTI.out.sound HB3.out
  unfold tval at hs1
  have HS1 := Lib.hid hs1
  have HT3 := Lib.hid hT3
  have HU3 := Lib.hid hU3
  clear hT3 hU3 hb3 hs1 HA HR2 HB2 HT2 HU2
  go_wp2_with fail
  refine HS1.out.mono ?_
  rintro e w4 ⟨rfl, hb4⟩
  have HR4 := Lib.hid (HR3.out.new hb4)
  have HB4 := Lib.hid (HB3.out.trans (hb4.mono HB3.out.size))
  have HT4 := Lib.hid (HT3.out.below hb4 HT3.out.size)
  have hU4 := HU3.out.below hb4 HU3.out.size
  have HU4 := Lib.hid hU4
  have y0 := hU4.cell 0 _ rfl
  have y1 := hU4.cell 1 _ rfl
  have y2 := hU4.cell 2 _ rfl
  clear x0 x1 x2 hU4 hb4 HS1 HR3 HB3 HT3 HU3
  by_cases hst : soundT t
  case neg =>
    rw [decide_eq_false hst]
    have HA := Lib.hid (rfawake_any w4)
    clear hst
    go_wp2_with fail
    refine HA.out.mono ?_
    rintro e w5 ⟨rfl, hb5⟩
    have HB5 := Lib.hid (HB4.out.trans (hb5.mono HB4.out.size))
    clear hb5
    go_wp2_with fail
    go_ret
    exact ⟨rfl, HB5.out⟩
  rw [decide_eq_true hst]
  have hs1 := HUI.out.sound HB4.out
  unfold tval at hs1
  rw [HUR.out] at hs1
  have HS1 := Lib.hid hs1
  have HST := Lib.hid hst
  clear hs1 hst
  go_wp2_with fail
  refine HS1.out.mono ?_
  rintro e w5 ⟨rfl, hb5⟩
  have HR5 := Lib.hid (HR4.out.new hb5)
  have HB5 := Lib.hid (HB4.out.trans (hb5.mono HB4.out.size))
  have HT5 := Lib.hid (HT4.out.below hb5 HT4.out.size)
  have HU5 := Lib.hid (HU4.out.below hb5 HU4.out.size)
  clear y0 y1 y2 hb5 HS1 HR4 HB4 HT4 HU4
  by_cases hsu : soundT u'
  case neg =>
    rw [decide_eq_false hsu]
    have HA := Lib.hid (rfawake_any w5)
    clear hsu
    go_wp2_with fail
    refine HA.out.mono ?_
    rintro e w6 ⟨rfl, hb6⟩
    have HB6 := Lib.hid (HB5.out.trans (hb6.mono HB5.out.size))
    clear hb6
    go_wp2_with fail
    go_ret
    exact ⟨rfl, HB6.out⟩
  rw [decide_eq_true hsu]
  have HSU := Lib.hid hsu
  clear hsu
  have hz : w.heap.size ≤ w0.heap.size := by have := HZ0.out; omega
  have hbg := rfbegin_any w0.heap.size q 0 G Rf.new ((a : Int) + 1) 100 (by unfold I64; omega) (by unfold I64; omega) w5 HR5.out
  rw [Rf.begin_new ((a : Int) + 1) 100 (by omega) (by decide)] at hbg
  simp only at hbg
  have HBG := Lib.hid hbg
  clear hbg
  go_wp2_with fail
  refine HBG.out.mono ?_
  rintro e w6 ⟨rfl, G6, hr6, hG6, hm6⟩
  have HGL := Lib.hid (show ∀ (wk : World) (n : Nat) (r : Rf) (G : Nat → Prop), RfAt wk w0.heap.size q G n r → ∀ i, G i → w.heap.size + 1 < i from fun wk n r G h i hi => by have := (h.low.2 i hi).1; have := HZ0.out; omega)
  have hT6 := hm6.whole HT5.out (fun h => by have := HGL.out _ _ _ _ HR5.out _ h; omega)
  have HU6 := Lib.hid (hm6.whole HU5.out (fun h => by have := HGL.out _ _ _ _ HR5.out _ h; omega))
  have HB6 := Lib.hid (HB5.out.trans ((HR5.out.below hm6).mono hz))
  have x0 := hT6.cell 0 _ rfl
  have x1 := hT6.cell 1 _ rfl
  have x2 := hT6.cell 2 _ rfl
  obtain ⟨w7, hw7⟩ : ∃ w7, w7 = w6.alloc (.cells #[.int .i64 t.read, .slice A1 t.reads.length c1, .slice A2 t.chgs.length c2] 47) := ⟨_, rfl⟩
  have hb7 : Below w6.heap.size w6 w7 := by rw [hw7]; exact (Below.refl _ w6).alloc (Nat.le_refl _) _
  have hW7 : Whole w7 w6.heap.size 47 [.int .i64 t.read, .slice A1 t.reads.length c1, .slice A2 t.chgs.length c2] := by rw [hw7]; exact Whole.fresh w6 _ [_, _, _]
  have hr7 := hr6.new hb7
  have HB7 := Lib.hid (HB6.out.trans (hb7.mono HB6.out.size))
  obtain ⟨L, m1, hj1⟩ := repoch1 ((a : Int) + 1) t (by omega) HST.out
  have hj := rfjudge_any w0.heap.size q _ G6 _ ((a : Int) + 1) 100 200 (by unfold I64; omega) (by unfold I64; omega) (by unfold I64; omega) [⟨t, .slice A1 t.reads.length c1, .slice A2 t.chgs.length c2⟩] (.slice (some ⟨w6.heap.size, 0, none⟩) 1 1) w7 hr7
    (RdTx.one hW7 (HTI.out.part HB7.out (fun i hi => by have := HGL.out _ _ _ _ hr6 i hi; omega)) (fun h => by have := (hr6.low.2 _ h).2; omega)) (fun x hx => by rw [List.mem_singleton.1 hx]; exact HTI.out.fit) (fun x hx => by rw [List.mem_singleton.1 hx]; exact HTI.out.read) (by omega)
  rw [show ([⟨t, .slice A1 t.reads.length c1, .slice A2 t.chgs.length c2⟩] : List TxV).map (·.t) = [t] from rfl, hj1] at hj
  simp only at hj
  have HJ := Lib.hid hj
  have HR7 := Lib.hid hr7
  have HU7 := Lib.hid (HU6.out.below hb7 HU6.out.size)
  clear hj hj1 hr6 hG6 hm6 hT6 hb7 hW7 hr7 HBG HR5 HB5 HT5 HU5 HU6 HB6
  go_wp2_with fail
  rw [← hw7]
  clear hw7 x0 x1 x2
  refine HJ.out.mono ?_
  rintro e w8 ⟨A8, c8, rfl, G8, hr8, hG8, hm8, -⟩
  have HU8 := Lib.hid (hm8.whole HU7.out (fun h => by have := HGL.out _ _ _ _ HR7.out _ h; omega))
  have HB8 := Lib.hid (HB7.out.trans ((HR7.out.below hm8).mono hz))
  have hbg := rfbegin_any w0.heap.size q _ G8 _ ((a : Int) + 2 + (b : Int)) 120 (by unfold I64; omega) (by unfold I64; omega) w8 hr8
  rw [Rf.begin_later (r := ⟨(a : Int) + 1, 200, m1, true, L⟩) (by omega) (by decide) (by simp only; omega)] at hbg
  simp only at hbg
  have HBG := Lib.hid hbg
  have HR8 := Lib.hid hr8
  clear hbg hr8 hG8 hm8 HJ HR7 HU7 HB7
  go_wp2_with fail
  refine HBG.out.mono ?_
  rintro e w9 ⟨rfl, G9, hr9, hG9, hm9⟩
  have HU9 := Lib.hid (hm9.whole HU8.out (fun h => by have := HGL.out _ _ _ _ HR8.out _ h; omega))
  have HB9 := Lib.hid (HB8.out.trans ((HR8.out.below hm9).mono hz))
  have hbg := rfbegin_any w0.heap.size q _ G9 _ ((a : Int) + 1) 100 (by unfold I64; omega) (by unfold I64; omega) w9 hr9
  rw [Rf.begin_elder (r := ⟨(a : Int) + 2 + (b : Int), 120, mnew 120, false, []⟩) (by omega) (by decide) (by simp only; omega)] at hbg
  simp only at hbg
  have HBG2 := Lib.hid hbg
  have HR9 := Lib.hid hr9
  clear hbg hr9 hG9 hm9 HBG HR8 HU8 HB8
  go_wp2_with fail
  refine HBG2.out.mono ?_
  rintro e wa ⟨rfl, Ga, hra, hGa, hma⟩
  have HUa := Lib.hid (hma.whole HU9.out (fun h => by have := HGL.out _ _ _ _ HR9.out _ h; omega))
  have HBa := Lib.hid (HB9.out.trans ((HR9.out.below hma).mono hz))
  have hbg := rfbegin_any w0.heap.size q _ Ga _ ((a : Int) + 2 + (b : Int)) 500 (by unfold I64; omega) (by unfold I64; omega) wa hra
  rw [Rf.begin_same (r := ⟨(a : Int) + 2 + (b : Int), 120, mnew 120, false, []⟩) (by omega) (by decide) (by rfl)] at hbg
  simp only at hbg
  have HBG3 := Lib.hid hbg
  have HRa := Lib.hid hra
  clear hbg hra hGa hma HBG2 HR9 HU9 HB9
  go_wp2_with fail
  refine HBG3.out.mono ?_
  rintro e wb ⟨rfl, Gb, hrb, hGb, hmb⟩
  have hUb := hmb.whole HUa.out (fun h => by have := HGL.out _ _ _ _ HRa.out _ h; omega)
  have HBb := Lib.hid (HBa.out.trans ((HRa.out.below hmb).mono hz))
  have x0 := hUb.cell 0 _ rfl
  have x1 := hUb.cell 1 _ rfl
  have x2 := hUb.cell 2 _ rfl
  obtain ⟨wc, hwc⟩ : ∃ wc, wc = wb.alloc (.cells #[.int .i64 150, .slice B1 u'.reads.length d1, .slice B2 u'.chgs.length d2] 47) := ⟨_, rfl⟩
  have hbc : Below wb.heap.size wb wc := by rw [hwc]; exact (Below.refl _ wb).alloc (Nat.le_refl _) _
  have hWc : Whole wc wb.heap.size 47 [.int .i64 u'.read, .slice B1 u'.reads.length d1, .slice B2 u'.chgs.length d2] := by rw [hwc, HUR.out]; exact Whole.fresh wb _ [_, _, _]
  have hrc := hrb.new hbc
  have HBc := Lib.hid (HBb.out.trans (hbc.mono HBb.out.size))
  obtain ⟨m2, hj2⟩ := repoch2 ((a : Int) + 2 + (b : Int)) u' (by omega) HSU.out HUR.out
  have hj := rfjudge_any w0.heap.size q _ Gb _ ((a : Int) + 2 + (b : Int)) 120 160 (by unfold I64; omega) (by unfold I64; omega) (by unfold I64; omega) [⟨u', .slice B1 u'.reads.length d1, .slice B2 u'.chgs.length d2⟩] (.slice (some ⟨wb.heap.size, 0, none⟩) 1 1) wc hrc
    (RdTx.one hWc (HUI.out.part HBc.out (fun i hi => by have := HGL.out _ _ _ _ hrb i hi; omega)) (fun h => by have := (hrb.low.2 _ h).2; omega)) (fun x hx => by rw [List.mem_singleton.1 hx]; exact HUI.out.fit) (fun x hx => by rw [List.mem_singleton.1 hx]; exact HUI.out.read) (by omega)
  rw [show ([⟨u', .slice B1 u'.reads.length d1, .slice B2 u'.chgs.length d2⟩] : List TxV).map (·.t) = [u'] from rfl, hj2] at hj
  simp only [List.length_cons, List.length_nil, Nat.zero_add] at hj
  have HJ2 := Lib.hid hj
  have HRc := Lib.hid hrc
  clear hj hj2 hrb hGb hmb hUb hbc hWc hrc HBG3 HRa HUa HBa
  go_wp2_with fail
  rw [← hwc]
  clear hwc x0 x1 x2
  refine HJ2.out.mono ?_
  rintro e wd ⟨Ad, cd, rfl, Gd, hrd, hGd, hmd, hld⟩
  have HBd := Lib.hid (HBc.out.trans ((HRc.out.below hmd).mono hz))
  have HLd := Lib.hid hld
  have HE := Lib.hid (rfends_any w0.heap.size q _ Gd _ wd hrd)
  clear hrd hGd hmd hld HJ2 HRc HBc
  go_wp2_with fail
  refine HE.out.mono ?_
  rintro e we ⟨rfl, hbe⟩
  have hle := (HLd.out.mv (Mv.of_new hbe (fun _ => False)) (Nat.le_refl _) (fun _ _ h => h.elim)).mono (G' := fun _ => False) hbe.size (fun _ _ h => h.elim)
  obtain ⟨bb, oo, rfl, hbb, hcap, k0⟩ := RdI.one_at hle.rd
  have HBe := Lib.hid (HBd.out.trans (hbe.mono HBd.out.size))
  clear hbe hle hbb HE HLd HBd
  go_wp2_with fail
  go_ret
  exact ⟨rfl, HBe.out⟩
end Go.Proofs.YtgppgecglkellaaGreat

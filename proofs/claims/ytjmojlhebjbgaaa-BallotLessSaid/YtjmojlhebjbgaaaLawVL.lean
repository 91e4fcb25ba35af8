/- BallotLess's walk. -/
import Derived.Test.YtjmojlhebjbgaaaFak
namespace Go.Proofs.Ytjmojlhebjbgaaa
open Go.RowKit
attribute [local go_sem] less_eq same_eq le_eq ge_eq gt_eq

set_option maxHeartbeats 4000000 in
set_option maxRecDepth 100000 in
theorem ballotLess_walk (a b c : Bal) (w : World) : Calls Try.prog 3 #[blv a, blv b, blv c] w fun e w' => e = .returned (.bool true) ∧ Below w.heap.size w w' := by
  obtain ⟨a1, a2⟩ := a
  obtain ⟨b1, b2⟩ := b
  obtain ⟨c1, c2⟩ := c
  have hxy := fun h : lessB (a1, a2) (b1, b2) = true => lessB_asymm h
  have htr := fun (h : lessB (a1, a2) (b1, b2) = true) (g : lessB (b1, b2) (c1, c2) = true) => lessB_trans h g
  have hor := lessB_or (a1, a2) (b1, b2)
  have hne : decide ((a1, a2) ≠ (b1, b2)) = !(decide (a1 = b1) && decide (a2 = b2)) := by
    by_cases h1 : a1 = b1 <;> by_cases h2 : a2 = b2 <;> simp [h1, h2]
  rw [hne] at hor
  have HX := Lib.hid (pless_any (a1, a2) (b1, b2))
  have HY := Lib.hid (pless_any (b1, b2) (a1, a2))
  have HZ := Lib.hid (pless_any (b1, b2) (c1, c2))
  have HU := Lib.hid (pless_any (a1, a2) (c1, c2))
  have HR := Lib.hid (rless_any (a1, a2) (b1, b2))
  have HA := Lib.hid awakeV_any
  have hn := fun W => neq_ball a1 a2 b1 b2 W
  unfold blv at HX HY HZ HU HR ⊢
  simp only at HX HY HZ HU HR ⊢
  generalize lessB (a1, a2) (b1, b2) = x at HX HR hxy htr hor
  generalize lessB (b1, b2) (a1, a2) = y at HY hxy hor
  generalize lessB (b1, b2) (c1, c2) = z at HZ htr
  generalize lessB (a1, a2) (c1, c2) = u at HU htr
  rw [← hor] at hn
  have HN := Lib.hid hn
  clear hor hne hn
  obtain ⟨w1, hw1⟩ : ∃ w1, w1 = w.alloc (.cells #[.int .i64 a1, .int .i64 a2] 23) := ⟨_, rfl⟩
  have hsw1 : w1.heap.size = w.heap.size + 1 := by rw [hw1, World.size_alloc]
  obtain ⟨w2, hw2⟩ : ∃ w2, w2 = w1.alloc (.cells #[.int .i64 b1, .int .i64 b2] 23) := ⟨_, rfl⟩
  have hsw2 : w2.heap.size = w.heap.size + 1 + 1 := by rw [hw2, World.size_alloc, hsw1]
  obtain ⟨w3, hw3⟩ : ∃ w3, w3 = w2.alloc (.cells #[.int .i64 c1, .int .i64 c2] 23) := ⟨_, rfl⟩
  have hsw3 : w3.heap.size = w.heap.size + 1 + 1 + 1 := by rw [hw3, World.size_alloc, hsw2]
  have hb : Below w.heap.size w w3 := by rw [hw3, hw2, hw1]; exact ((((Below.refl _ w).alloc (by simp) _).alloc (by simp) _).alloc (by simp; omega) _)
  have HP_0 := Lib.hid (show Whole w3 (w.heap.size) 23 [.int .i64 a1, .int .i64 a2] from by rw [hw3, hw2, hw1]; exact ((Whole.fresh w _ [.int .i64 a1, .int .i64 a2]).alloc _).alloc _)
  have HQ_0 := Lib.hid (show Whole w3 (w.heap.size + 1) 23 [.int .i64 b1, .int .i64 b2] from by rw [hw3, hw2, ← hsw1]; exact (Whole.fresh w1 _ [.int .i64 b1, .int .i64 b2]).alloc _)
  have HR_0 := Lib.hid (show Whole w3 (w.heap.size + 1 + 1) 23 [.int .i64 c1, .int .i64 c2] from by rw [hw3, ← hsw2]; exact Whole.fresh w2 _ [.int .i64 c1, .int .i64 c2])
  have HLO_0 := Lib.hid hb
  clear hb
  go_enter Try.func3, Try.ntmps3
  go_wp2_with fail
  rw [← hw1, ← hw2, ← hw3]
  clear hw1 hsw1 hw2 hsw2 hw3 hsw3
  have hd0 : Below w3.heap.size w3 w3.drew := (Below.refl _ _).drew
  refine wp_region_planB [(true, 0), (true, 1), (true, 3), (true, 4), (false, 2), (false, 5), (true, 6), (true, 7)] (by kernel_rfl) (by kernel_rfl) (fun _ _ d _ _ h => by cases d <;> exact h) ?_
  iterate 4 (refine PlanB.take (v := ?_) rfl rfl ?_ ?_; rotate_left; (focus (intro W hW; have hW2 := hd0.trans hW; have hp := HP_0.out.below hW2 HP_0.out.size; have hq := HQ_0.out.below hW2 HQ_0.out.size; have p0 := hp.cell 0 _ rfl; have p1 := hp.cell 1 _ rfl; have q0 := hq.cell 0 _ rfl; have q1 := hq.cell 1 _ rfl; clear hp hq hW2; go_simp; (try with_reducible rfl); done)); (try simp only [Act.put, List.setIfInBounds_toArray, List.set_cons_zero, List.set_cons_succ]))
  refine PlanB.step rfl rfl (fun Kk hK => ?_)
  go_simp
  refine (HX.out _).mono ?_
  rintro e v1 ⟨rfl, hb⟩
  have hd1 := hd0.trans hb
  refine hK.out _ _ hb ?_
  clear hK Kk hb
  (try simp only [Act.put, List.setIfInBounds_toArray, List.set_cons_zero, List.set_cons_succ])
  refine PlanB.step rfl rfl (fun Kk hK => ?_)
  go_simp
  refine (HY.out _).mono ?_
  rintro e v2 ⟨rfl, hb⟩
  have hd2 := hd1.trans (hb.mono hd1.size)
  refine hK.out _ _ hb ?_
  clear hK Kk hb
  (try simp only [Act.put, List.setIfInBounds_toArray, List.set_cons_zero, List.set_cons_succ])
  iterate 2 (refine PlanB.take (v := ?_) rfl rfl ?_ ?_; rotate_left; (focus (intro W hW; go_simp; (try with_reducible rfl); done)); (try simp only [Act.put, List.setIfInBounds_toArray, List.set_cons_zero, List.set_cons_succ]))
  simp only [PlanB]
  have HP_1 := Lib.hid (HP_0.out.below hd2 HP_0.out.size)
  have HQ_1 := Lib.hid (HQ_0.out.below hd2 HQ_0.out.size)
  have HR_1 := Lib.hid (HR_0.out.below hd2 HR_0.out.size)
  have HLO_1 := Lib.hid (HLO_0.out.trans (hd2.mono HLO_0.out.size))
  clear HP_0 HQ_0 HR_0 HLO_0
  clear hd0 hd1 hd2
  go_wp2_with fail
  refine (HA.out v2).mono ?_
  rintro e w4 ⟨rfl, hb⟩
  have HP_2 := Lib.hid (HP_1.out.below hb HP_1.out.size)
  have HQ_2 := Lib.hid (HQ_1.out.below hb HQ_1.out.size)
  have HR_2 := Lib.hid (HR_1.out.below hb HR_1.out.size)
  have HLO_2 := Lib.hid (HLO_1.out.trans (hb.mono HLO_1.out.size))
  clear HP_1 HQ_1 HR_1 HLO_1
  clear hb
  have kP0 := HP_2.out.cell 0 _ rfl
  have kP1 := HP_2.out.cell 1 _ rfl
  have kQ0 := HQ_2.out.cell 0 _ rfl
  have kQ1 := HQ_2.out.cell 1 _ rfl
  go_wp2_with fail
  refine (HR.out w4).mono ?_
  rintro e w5 ⟨rfl, hb⟩
  clear kP0 kP1 kQ0 kQ1
  have HP_3 := Lib.hid (HP_2.out.below hb HP_2.out.size)
  have HQ_3 := Lib.hid (HQ_2.out.below hb HQ_2.out.size)
  have HR_3 := Lib.hid (HR_2.out.below hb HR_2.out.size)
  have HLO_3 := Lib.hid (HLO_2.out.trans (hb.mono HLO_2.out.size))
  clear HP_2 HQ_2 HR_2 HLO_2
  clear hb
  have hn2 := HN.out
  clear HN
  cases x with
  | true =>
    obtain rfl := hxy rfl
    simp only [Bool.true_or] at hn2
    cases z with
    | true =>
      obtain rfl := htr rfl rfl
      have kP0 := HP_3.out.cell 0 _ rfl
      have kP1 := HP_3.out.cell 1 _ rfl
      have kQ0 := HQ_3.out.cell 0 _ rfl
      have kQ1 := HQ_3.out.cell 1 _ rfl
      have kR0 := HR_3.out.cell 0 _ rfl
      have kR1 := HR_3.out.cell 1 _ rfl
      go_wp2_with fail
      refine (HZ.out w5).mono ?_
      rintro e w6 ⟨rfl, hb⟩
      clear kP0 kP1 kQ0 kQ1 kR0 kR1
      have HP_4 := Lib.hid (HP_3.out.below hb HP_3.out.size)
      have HQ_4 := Lib.hid (HQ_3.out.below hb HQ_3.out.size)
      have HR_4 := Lib.hid (HR_3.out.below hb HR_3.out.size)
      have HLO_4 := Lib.hid (HLO_3.out.trans (hb.mono HLO_3.out.size))
      clear HP_3 HQ_3 HR_3 HLO_3
      clear hb
      have kP0 := HP_4.out.cell 0 _ rfl
      have kP1 := HP_4.out.cell 1 _ rfl
      have kQ0 := HQ_4.out.cell 0 _ rfl
      have kQ1 := HQ_4.out.cell 1 _ rfl
      have kR0 := HR_4.out.cell 0 _ rfl
      have kR1 := HR_4.out.cell 1 _ rfl
      go_wp2_with fail
      refine (HU.out w6).mono ?_
      rintro e w7 ⟨rfl, hb⟩
      clear kP0 kP1 kQ0 kQ1 kR0 kR1
      have HP_5 := Lib.hid (HP_4.out.below hb HP_4.out.size)
      have HQ_5 := Lib.hid (HQ_4.out.below hb HQ_4.out.size)
      have HR_5 := Lib.hid (HR_4.out.below hb HR_4.out.size)
      have HLO_5 := Lib.hid (HLO_4.out.trans (hb.mono HLO_4.out.size))
      clear HP_4 HQ_4 HR_4 HLO_4
      clear hb
      go_wp2_with fail
      go_ret
      exact ⟨rfl, HLO_5.out⟩
    | false =>
      have kP0 := HP_3.out.cell 0 _ rfl
      have kP1 := HP_3.out.cell 1 _ rfl
      have kQ0 := HQ_3.out.cell 0 _ rfl
      have kQ1 := HQ_3.out.cell 1 _ rfl
      have kR0 := HR_3.out.cell 0 _ rfl
      have kR1 := HR_3.out.cell 1 _ rfl
      go_wp2_with fail
      refine (HZ.out w5).mono ?_
      rintro e w6 ⟨rfl, hb⟩
      clear kP0 kP1 kQ0 kQ1 kR0 kR1
      have HP_4 := Lib.hid (HP_3.out.below hb HP_3.out.size)
      have HQ_4 := Lib.hid (HQ_3.out.below hb HQ_3.out.size)
      have HR_4 := Lib.hid (HR_3.out.below hb HR_3.out.size)
      have HLO_4 := Lib.hid (HLO_3.out.trans (hb.mono HLO_3.out.size))
      clear HP_3 HQ_3 HR_3 HLO_3
      clear hb
      go_wp2_with fail
      go_ret
      exact ⟨rfl, HLO_4.out⟩
  | false =>
    cases y with
    | true =>
      simp only [Bool.false_or] at hn2
      have kP0 := HP_3.out.cell 0 _ rfl
      have kP1 := HP_3.out.cell 1 _ rfl
      have kQ0 := HQ_3.out.cell 0 _ rfl
      have kQ1 := HQ_3.out.cell 1 _ rfl
      go_wp2_with fail
      go_ret
      exact ⟨rfl, HLO_3.out⟩
    | false =>
      simp only [Bool.false_or] at hn2
      have kP0 := HP_3.out.cell 0 _ rfl
      have kP1 := HP_3.out.cell 1 _ rfl
      have kQ0 := HQ_3.out.cell 0 _ rfl
      have kQ1 := HQ_3.out.cell 1 _ rfl
      go_wp2_with fail
      go_ret
      exact ⟨rfl, HLO_3.out⟩
end Go.Proofs.Ytjmojlhebjbgaaa

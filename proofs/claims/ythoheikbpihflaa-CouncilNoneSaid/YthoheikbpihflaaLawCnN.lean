/- CouncilNone's walk. -/
import Derived.Test.YthoheikbpihflaaFao
import Derived.Test.YthoheikbpihflaaFaj
namespace Go.Proofs.Ythoheikbpihflaa
open Go.RowKit
attribute [local go_sem] less_eq same_eq le_eq ge_eq gt_eq

set_option maxHeartbeats 4000000 in
set_option maxRecDepth 100000 in
theorem councilNone_walk (b : Bal) (s : Sta) (u : Value) (w : World) (hu : RdI w w.heap.size u s.chests) :
    Calls Try.prog 5 #[blv b, sval s u] w fun e w' => e = .returned (.bool true) ∧ Below w.heap.size w w' := by
  obtain ⟨A, c, rfl, -, -⟩ := hu.at
  obtain ⟨w1, hw1⟩ : ∃ w1, w1 = w.alloc (.cells #[.int .i64 b.1, .int .i64 b.2] 32) := ⟨_, rfl⟩
  obtain ⟨w2, hw2⟩ : ∃ w2, w2 = w1.alloc (.cells #[.int .i64 s.gen, .int .i64 s.epoch, .int .i64 s.recd, .slice A s.chests.length c] 35) := ⟨_, rfl⟩
  have hs1 : w1.heap.size = w.heap.size + 1 := by rw [hw1]; simp
  have hb2 : Below w.heap.size w w2 := by rw [hw2, hw1]; exact ((Below.refl _ w).alloc (Nat.le_refl _) _).alloc (by simp) _
  have hY : Whole w2 w.heap.size 32 [.int .i64 b.1, .int .i64 b.2] := by rw [hw2, hw1]; exact (Whole.fresh w _ [_, _]).alloc _
  have hU : Whole w2 (w.heap.size + 1) 35 [.int .i64 s.gen, .int .i64 s.epoch, .int .i64 s.recd, .slice A s.chests.length c] := by rw [hw2, ← hs1]; exact Whole.fresh w1 _ [_, _, _, _]
  have HP := Lib.hid (fun W => cnone_prep b W)
  have HA := Lib.hid (fun W (h : Below w.heap.size w W) => cnone_acc b s (.slice A s.chests.length c) W (hu.next h))
  unfold blv at HP
  unfold blv sval at HA
  unfold blv sval
  have HB2 := Lib.hid hb2
  have HY := Lib.hid hY
  have HU := Lib.hid hU
  clear hb2 hY hU hs1 hu
  go_enter Try.func5, Try.ntmps5
  go_wp2_with fail
  (try rw [← hw1]); (try rw [← hw2])
  clear hw1 hw2
  refine (HP.out w2).mono ?_
  rintro e w3 ⟨c3, rfl, hb3⟩
  have hbv : Below w3.heap.size w3 (w3.alloc (.cells #[.int .i64 0, .int .i64 0, .int .i64 0, .int .i64 0, .int .i64 0, .int .i64 0, .int .i64 0, .slice none 0 c3] 37)) := (Below.refl _ _).alloc (Nat.le_refl _) _
  have hb4 := hb3.trans (hbv.mono hb3.size)
  have HB4 := Lib.hid (HB2.out.trans (hb4.mono HB2.out.size))
  have hY4 := HY.out.below hb4 HY.out.size
  have hU4 := HU.out.below hb4 HU.out.size
  have y0 := hY4.cell 0 _ rfl
  have y1 := hY4.cell 1 _ rfl
  have x0 := hU4.cell 0 _ rfl
  have x1 := hU4.cell 1 _ rfl
  have x2 := hU4.cell 2 _ rfl
  have x3 := hU4.cell 3 _ rfl
  have HAC := Lib.hid (HA.out _ HB4.out)
  unfold vwv zeroV zeroS
  simp only
  clear hb3 hbv hb4 hY4 hU4 HA HB2 HY HU
  go_wp2_with fail
  refine HAC.out.mono ?_
  rintro e w5 ⟨rfl, hb5⟩
  have HB5 := Lib.hid (HB4.out.trans (hb5.mono HB4.out.size))
  clear hb5 y0 y1 x0 x1 x2 x3
  go_wp2_with fail
  refine (cnone_open w5).mono ?_
  rintro e w6 ⟨rfl, hb6⟩
  have HB6 := Lib.hid (HB5.out.trans (hb6.mono HB5.out.size))
  clear hb6
  go_wp2_with fail
  refine (awake_any w6).mono ?_
  rintro e w7 ⟨rfl, hb7⟩
  have HB7 := Lib.hid (HB6.out.trans (hb7.mono HB6.out.size))
  clear hb7
  go_wp2_with fail
  refine (cnone_vow w7).mono ?_
  rintro e w8 ⟨c8, rfl, hb8⟩
  have HB8 := Lib.hid (HB7.out.trans (hb8.mono HB7.out.size))
  have HS := Lib.hid (rsameV_eq zeroV (by decide) (.slice none 0 c8) (.slice none 0 0) w8 (show RdI _ _ _ [] from ⟨none, c8, rfl, Nat.zero_le _, fun i hi => by simp at hi⟩) (Rd.nil _ _))
  unfold vwv zeroV zeroS at HS
  simp only at HS
  clear hb8
  unfold vwv zeroV zeroS
  simp only
  go_wp2_with fail
  refine HS.out.mono ?_
  rintro e w9 ⟨rfl, hb9⟩
  have HB9 := Lib.hid (HB8.out.trans (hb9.mono HB8.out.size))
  clear hb9
  go_wp2_with fail
  go_ret
  exact ⟨rfl, HB9.out⟩
end Go.Proofs.Ythoheikbpihflaa

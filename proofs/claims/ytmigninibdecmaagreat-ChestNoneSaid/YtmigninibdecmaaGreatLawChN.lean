/- ChestNone's walk. -/
import Derived.Test.YtmigninibdecmaaGreatFat
namespace Go.Proofs.YtmigninibdecmaaGreat
open Go.RowKit
attribute [local go_sem] less_eq same_eq le_eq ge_eq gt_eq

set_option maxHeartbeats 4000000 in
set_option maxRecDepth 100000 in
theorem chestNone_walk (a b : Int) (x : Bat) (v : Value) (w : World) (hv : RdC w w.heap.size v x.chgs) :
    Calls Tryz.prog 7 #[.int .i64 a, .int .i64 b, bval x v] w fun e w' => e = .returned (.bool true) ∧ Below w.heap.size w w' := by
  obtain ⟨A, c, rfl, -, -⟩ := hv.at
  obtain ⟨w1, hw1⟩ : ∃ w1, w1 = w.alloc (.cells #[.int .i64 x.prev, .int .i64 x.version, .int .i64 x.known, .slice A x.chgs.length c] 38) := ⟨_, rfl⟩
  have hb1 : Below w.heap.size w w1 := by rw [hw1]; exact (Below.refl _ w).alloc (Nat.le_refl _) _
  have hX : Whole w1 w.heap.size 38 [.int .i64 x.prev, .int .i64 x.version, .int .i64 x.known, .slice A x.chgs.length c] := by rw [hw1]; exact Whole.fresh w _ [_, _, _, _]
  have HP := Lib.hid (fun W => hnone_push a x A x.chgs.length c W)
  unfold bval at HP
  unfold bval
  have HB1 := Lib.hid hb1
  have HX := Lib.hid hX
  clear hb1 hX hv
  go_enter Tryz.func7, Tryz.ntmps7
  go_wp2_with fail
  rw [← hw1]
  clear hw1
  refine (HP.out w1).mono ?_
  rintro e w2 ⟨n2, rfl, hb2⟩
  have HB2 := Lib.hid (HB1.out.trans (hb2.mono HB1.out.size))
  have HX2 := Lib.hid (HX.out.below hb2 HX.out.size)
  clear hb2
  go_wp2_with fail
  refine (hnone_lock a b w2).mono ?_
  rintro e w3 ⟨a3, b3, v3, rfl, hb3⟩
  have HB3 := Lib.hid (HB2.out.trans (hb3.mono HB2.out.size))
  have HX3 := Lib.hid (HX2.out.below hb3 HX2.out.size)
  clear hb3
  go_wp2_with fail
  refine (hnone_peek a b b w3).mono ?_
  rintro e w4 ⟨u4, a4, rfl, hb4⟩
  have HB4 := Lib.hid (HB3.out.trans (hb4.mono HB3.out.size))
  have HX4 := Lib.hid (HX3.out.below hb4 HX3.out.size)
  clear hb4
  go_wp2_with fail
  refine (hnone_open w4).mono ?_
  rintro e w5 ⟨rfl, hb5⟩
  have HB5 := Lib.hid (HB4.out.trans (hb5.mono HB4.out.size))
  have HX5 := Lib.hid (HX4.out.below hb5 HX4.out.size)
  clear hb5
  go_wp2_with fail
  refine (awake_any w5).mono ?_
  rintro e w6 ⟨rfl, hb6⟩
  have HB6 := Lib.hid (HB5.out.trans (hb6.mono HB5.out.size))
  have hX6 := HX5.out.below hb6 HX5.out.size
  have x0 := hX6.cell 0 _ rfl
  have x1 := hX6.cell 1 _ rfl
  have x2 := hX6.cell 2 _ rfl
  have x3 := hX6.cell 3 _ rfl
  clear hb6 hX6
  go_wp2_with fail
  refine (hnone_lay a b _ _).mono ?_
  rintro e w7 ⟨rfl, hb7⟩
  have hb67 : Below w6.heap.size w6 (w6.alloc (.cells #[.int .i64 x.prev, .int .i64 x.version, .int .i64 x.known, .slice A x.chgs.length c] 38)) := (Below.refl _ w6).alloc (Nat.le_refl _) _
  have HB7 := Lib.hid (HB6.out.trans ((hb67.trans (hb7.mono hb67.size)).mono HB6.out.size))
  clear hb7 hb67 x0 x1 x2 x3
  go_wp2_with fail
  refine (hnone_live a w7).mono ?_
  rintro e w8 ⟨rfl, hb8⟩
  have HB8 := Lib.hid (HB7.out.trans (hb8.mono HB7.out.size))
  clear hb8
  go_wp2_with fail
  refine (hnone_pop a b w8).mono ?_
  rintro e w9 ⟨rfl, hb9⟩
  have HB9 := Lib.hid (HB8.out.trans (hb9.mono HB8.out.size))
  clear hb9
  go_wp2_with fail
  refine (hnone_retire a w9).mono ?_
  rintro e wa ⟨rfl, hba⟩
  have HBa := Lib.hid (HB9.out.trans (hba.mono HB9.out.size))
  clear hba
  go_wp2_with fail
  refine (hnone_epochs wa).mono ?_
  rintro e wb ⟨A2, c2, rfl, hbb⟩
  have HBb := Lib.hid (HBa.out.trans (hbb.mono HBa.out.size))
  clear hbb
  go_wp2_with fail
  go_ret
  exact ⟨rfl, HBb.out⟩
end Go.Proofs.YtmigninibdecmaaGreat

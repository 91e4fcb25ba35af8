/- ShelfNone's walk. -/
import Derived.Test.YtbifnogocmgddaaGreatFar
namespace Go.Proofs.YtbifnogocmgddaaGreat
open Go.RowKit
attribute [local go_sem] less_eq same_eq le_eq ge_eq gt_eq

set_option maxHeartbeats 8000000 in
set_option maxRecDepth 100000 in
theorem shelfNone_walk (n : Int) (key : K) (s : K × K) (p v k : Int) (sl : Value) (w : World) :
    Calls Tryz.prog 5 #[.int .i64 n, .string key, .agg #[.string s.1, .string s.2], .agg #[.int .i64 p, .int .i64 v, .int .i64 k, sl]] w fun e w' => e = .returned (.bool true) ∧ Below w.heap.size w w' := by
  obtain ⟨w0, hw0⟩ : ∃ W, W = (w.alloc (.cells #[.string s.1, .string s.2] 31)).alloc (.cells #[.int .i64 p, .int .i64 v, .int .i64 k, sl] 35) := ⟨_, rfl⟩
  obtain ⟨g1, hg1⟩ : ∃ g, g = w.heap.size := ⟨_, rfl⟩
  have hb0 : Below w.heap.size w w0 := by rw [hw0]; exact ((Below.refl _ w).alloc (Nat.le_refl _) _).alloc (by simp) _
  have hW1 : Whole w0 g1 31 [.string s.1, .string s.2] := by rw [hw0, hg1]; exact (Whole.fresh w _ [_, _]).alloc _
  have hW2 : Whole w0 (g1 + 1) 35 [.int .i64 p, .int .i64 v, .int .i64 k, sl] := by
    rw [hw0, hg1]
    have := Whole.fresh (w.alloc (.cells #[.string s.1, .string s.2] 31)) 35 [.int .i64 p, .int .i64 v, .int .i64 k, sl]
    rw [World.size_alloc] at this
    exact this
  have HX := Lib.hid (fun W (hW : Below w0.heap.size w0 W) => show W.cell? ⟨g1, 0, none⟩ = some (.string s.1) ∧ W.cell? ⟨g1, 1, none⟩ = some (.string s.2) ∧ W.cell? ⟨g1 + 1, 0, none⟩ = some (.int .i64 p) ∧ W.cell? ⟨g1 + 1, 1, none⟩ = some (.int .i64 v) ∧ W.cell? ⟨g1 + 1, 2, none⟩ = some (.int .i64 k) ∧ W.cell? ⟨g1 + 1, 3, none⟩ = some sl from
    ⟨(hW1.below hW hW1.size).cell 0 _ rfl, (hW1.below hW hW1.size).cell 1 _ rfl, (hW2.below hW hW2.size).cell 0 _ rfl, (hW2.below hW hW2.size).cell 1 _ rfl, (hW2.below hW hW2.size).cell 2 _ rfl, (hW2.below hW hW2.size).cell 3 _ rfl⟩)
  have HB0 := Lib.hid hb0
  clear hb0 hW1 hW2
  have HG := Lib.hid (shnone_get key n w0)
  go_enter Tryz.func5, Tryz.ntmps5
  go_wp2_with fail
  rw [← hw0, ← hg1]
  clear hw0 hg1
  refine HG.out.mono ?_
  rintro e w1 ⟨a1, b1, rfl, hb1⟩
  have HB1 := Lib.hid hb1
  have HL := Lib.hid (shnone_list s n n w1)
  clear hb1 HG
  obtain ⟨x1, x2, y1, y2, y3, y4⟩ := HX.out w1 HB1.out
  go_wp2_with fail
  refine HL.out.mono ?_
  rintro e w2 ⟨a2, rfl, hb2⟩
  have HB2 := Lib.hid (HB1.out.trans (hb2.mono HB1.out.size))
  have HO := Lib.hid (shnone_open s w2)
  clear hb2 HL HB1 x1 x2 y1 y2 y3 y4
  obtain ⟨x1, x2, y1, y2, y3, y4⟩ := HX.out w2 HB2.out
  go_wp2_with fail
  refine HO.out.mono ?_
  rintro e w3 ⟨rfl, hb3⟩
  have HB3 := Lib.hid (HB2.out.trans (hb3.mono HB2.out.size))
  have HE := Lib.hid (shnone_ends w3)
  clear hb3 HO HB2 x1 x2 y1 y2 y3 y4
  go_wp2_with fail
  refine HE.out.mono ?_
  rintro e w4 ⟨rfl, hb4⟩
  have HB4 := Lib.hid (HB3.out.trans (hb4.mono HB3.out.size))
  have HA := Lib.hid (shawake_any w4)
  clear hb4 HE HB3
  go_wp2_with fail
  refine HA.out.mono ?_
  rintro e w5 ⟨rfl, hb5⟩
  have HB5 := Lib.hid (HB4.out.trans (hb5.mono HB4.out.size))
  have HT := Lib.hid (shnone_take p v k sl w5)
  clear hb5 HA HB4
  obtain ⟨x1, x2, y1, y2, y3, y4⟩ := HX.out w5 HB5.out
  go_wp2_with fail
  refine HT.out.mono ?_
  rintro e w6 ⟨rfl, hb6⟩
  have HB6 := Lib.hid (HB5.out.trans (hb6.mono HB5.out.size))
  have HK := Lib.hid (shnone_back n w6)
  clear hb6 HT HB5 x1 x2 y1 y2 y3 y4
  go_wp2_with fail
  refine HK.out.mono ?_
  rintro e w7 ⟨rfl, hb7⟩
  have HB7 := Lib.hid (HB6.out.trans (hb7.mono HB6.out.size))
  have HS := Lib.hid (shnone_save n w7)
  clear hb7 HK HB6
  go_wp2_with fail
  refine HS.out.mono ?_
  rintro e w8 ⟨rfl, hb8⟩
  have HB8 := Lib.hid (HB7.out.trans (hb8.mono HB7.out.size))
  clear hb8 HS HB7
  go_wp2_with fail
  go_ret
  exact ⟨rfl, HB0.out.trans (HB8.out.mono HB0.out.size)⟩
end Go.Proofs.YtbifnogocmgddaaGreat

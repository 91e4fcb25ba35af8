/- MarksNone's walk. -/
import Derived.Test.YtcmpbhcldaogiaaFah
namespace Go.Proofs.Ytcmpbhcldaogiaa
open Go.RowKit

set_option maxHeartbeats 8000000 in
set_option maxRecDepth 100000 in
theorem marksNone_walk (n : Int) (s : K × K) (A : Option Addr) (k c : Nat) (w : World) :
    Calls Try.prog 6 #[.int .i64 n, .agg #[.string s.1, .string s.2], .slice A k c] w fun e w' => e = .returned (.bool true) ∧ Below w.heap.size w w' := by
  obtain ⟨sf, st⟩ := s
  have hG : Whole (w.alloc (.cells #[.string sf, .string st] 24)) w.heap.size 24 [.string sf, .string st] := Whole.fresh w _ [_, _]
  have hb0 : Below w.heap.size w (w.alloc (.cells #[.string sf, .string st] 24)) := (Below.refl _ w).alloc (Nat.le_refl _) _
  have HG := Lib.hid hG
  have HB0 := Lib.hid hb0
  have HJ := Lib.hid (mknone_judge n (.slice A k c) (w.alloc (.cells #[.string sf, .string st] 24)))
  clear hG hb0
  simp only
  go_enter Try.func6, Try.ntmps6
  go_wp2_with fail
  refine HJ.out.mono ?_
  rintro e w1 ⟨A1, c1, rfl, hb1⟩
  have HG1 := Lib.hid (HG.out.below hb1 HG.out.size)
  have HB1 := Lib.hid (HB0.out.trans (hb1.mono HB0.out.size))
  have HL := Lib.hid (mknone_last (sf, st) w1)
  have k0 := HG1.out.cell 0 _ rfl
  have k1 := HG1.out.cell 1 _ rfl
  clear hb1 HJ HG HB0
  go_wp2_with fail
  refine HL.out.mono ?_
  rintro e w2 ⟨rfl, hb2⟩
  have HB2 := Lib.hid (HB1.out.trans (hb2.mono HB1.out.size))
  have HA := Lib.hid (awake_any w2)
  clear hb2 HL HB1 k0 k1 HG1
  go_wp2_with fail
  refine HA.out.mono ?_
  rintro e w3 ⟨rfl, hb3⟩
  have HB3 := Lib.hid (HB2.out.trans (hb3.mono HB2.out.size))
  have HF := Lib.hid (mknone_forget n w3)
  clear hb3 HA HB2
  go_wp2_with fail
  refine HF.out.mono ?_
  rintro e w4 ⟨rfl, hb4⟩
  have HB4 := Lib.hid (HB3.out.trans (hb4.mono HB3.out.size))
  have HS := Lib.hid (mknone_size w4)
  clear hb4 HF HB3
  go_wp2_with fail
  refine HS.out.mono ?_
  rintro e w5 ⟨rfl, hb5⟩
  have HB5 := Lib.hid (HB4.out.trans (hb5.mono HB4.out.size))
  clear hb5 HS HB4
  go_wp2_with fail
  go_ret
  exact ⟨rfl, HB5.out⟩
end Go.Proofs.Ytcmpbhcldaogiaa

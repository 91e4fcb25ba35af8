/- BagNone's walk. -/
import Derived.Test.YtjkhdlmdgdcimaaBgAwk
namespace Go.Proofs.Ytjkhdlmdgdcimaa
open Go.RowKit

set_option maxHeartbeats 4000000 in
set_option maxRecDepth 100000 in
theorem bagNone_walk (n : Int) (v x : Value) (w : World) : Calls Try.prog 6 #[.int .i64 n, v, x] w fun e w' => e = .returned (.bool true) ∧ Below w.heap.size w w' := by
  have HL := Lib.hid (bnone_look n w)
  go_enter Try.func6, Try.ntmps6
  go_wp2_with fail
  refine HL.out.mono ?_
  rintro e w1 ⟨A1, c1, rfl, hb⟩
  have HB := Lib.hid hb
  have HT := Lib.hid (bnone_take n w1)
  clear hb HL
  go_wp2_with fail
  refine HT.out.mono ?_
  rintro e w2 ⟨A2, c2, rfl, hb⟩
  have HB2 := Lib.hid (HB.out.trans (hb.mono HB.out.size))
  have HA := Lib.hid (awake_any w2)
  clear hb HT HB
  go_wp2_with fail
  refine HA.out.mono ?_
  rintro e w3 ⟨rfl, hb⟩
  have HB3 := Lib.hid (HB2.out.trans (hb.mono HB2.out.size))
  have HD := Lib.hid (bnone_send (.int .i64 n) v w3)
  clear hb HA HB2
  go_wp2_with fail
  refine HD.out.mono ?_
  rintro e w4 ⟨rfl, hb⟩
  have HB4 := Lib.hid (HB3.out.trans (hb.mono HB3.out.size))
  have HD := Lib.hid (bnone_twin n w4)
  clear hb HB3
  go_wp2_with fail
  refine HD.out.mono ?_
  rintro e w5 ⟨rfl, hb⟩
  have HB5 := Lib.hid (HB4.out.trans (hb.mono HB4.out.size))
  have HD := Lib.hid (bnone_spoil n n x w5)
  clear hb HB4
  go_wp2_with fail
  refine HD.out.mono ?_
  rintro e w6 ⟨rfl, hb⟩
  have HB6 := Lib.hid (HB5.out.trans (hb.mono HB5.out.size))
  have HD := Lib.hid (bnone_len w6)
  clear hb HB5
  go_wp2_with fail
  refine HD.out.mono ?_
  rintro e w7 ⟨rfl, hb⟩
  have HB7 := Lib.hid (HB6.out.trans (hb.mono HB6.out.size))
  clear hb HB6
  go_wp2_with fail
  go_ret
  exact ⟨rfl, HB7.out⟩
end Go.Proofs.Ytjkhdlmdgdcimaa

/- BookNone's walk. -/
import Derived.Test.YtaenlkopjmgniaaBAwk
namespace Go.Proofs.Ytaenlkopjmgniaa
open Go.RowKit

set_option maxHeartbeats 4000000 in
set_option maxRecDepth 100000 in
theorem bookNone_walk (v : Value) (w : World) : Calls Try.prog 5 #[v] w fun e w' => e = .returned (.bool true) ∧ Below w.heap.size w w' := by
  have HO := Lib.hid (bnone_open w)
  go_enter Try.func5, Try.ntmps5
  go_wp2_with fail
  refine HO.out.mono ?_
  rintro e w1 ⟨rfl, hb⟩
  have HB := Lib.hid hb
  have HA := Lib.hid (awake_any w1)
  clear hb HO
  go_wp2_with fail
  refine HA.out.mono ?_
  rintro e w2 ⟨rfl, hb⟩
  have HB2 := Lib.hid (HB.out.trans (hb.mono HB.out.size))
  have HD := Lib.hid (bnone_add v w2)
  clear hb HA HB
  go_wp2_with fail
  refine HD.out.mono ?_
  rintro e w3 ⟨rfl, hb⟩
  have HB3 := Lib.hid (HB2.out.trans (hb.mono HB2.out.size))
  have HD2 := Lib.hid (bnone_reset v w3)
  clear hb HD HB2
  go_wp2_with fail
  refine HD2.out.mono ?_
  rintro e w4 ⟨rfl, hb⟩
  have HB4 := Lib.hid (HB3.out.trans (hb.mono HB3.out.size))
  have HR := Lib.hid (bnone_rec w4)
  clear hb HD2 HB3
  go_wp2_with fail
  refine HR.out.mono ?_
  rintro e w5 ⟨A, c, rfl, hb⟩
  have HB5 := Lib.hid (HB4.out.trans (hb.mono HB4.out.size))
  clear hb HR HB4
  go_wp2_with fail
  go_ret
  exact ⟨rfl, HB5.out⟩
end Go.Proofs.Ytaenlkopjmgniaa

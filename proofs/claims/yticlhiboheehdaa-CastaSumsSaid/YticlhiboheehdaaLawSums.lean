/- The walk of the law CastaSums. -/
import Derived.Test.YticlhiboheehdaaAwk
import Derived.Test.YticlhiboheehdaaOpenB
namespace Go.Proofs.Yticlhiboheehdaa
open Go.RowKit

set_option maxHeartbeats 1000000 in
set_option maxRecDepth 100000 in
theorem castaSums_walk (s : Nat) (hs : s < 2 ^ 32) (l : List UInt8) (v : Value) (w : World) (hv : RdB w w.heap.size v l) (hl : l.length ≤ 140737488351232) : Calls Try.prog 3 #[.int .u32 (s : Int), v] w fun e w' => e = .returned (.bool true) ∧ Below w.heap.size w w' := by
  obtain ⟨A, c, rfl, hc, _⟩ := hv.at
  have HV := Lib.hid hv; clear hv
  have h1 := fun W (h : RdB W W.heap.size (.slice A l.length c) l) => sum_any l _ W _ h (by omega)
  have h2 := fun W (h : RdB W W.heap.size (.slice A l.length c) l) => rsum_any l _ W _ h (by omega)
  have h3 := fun W (h : RdB W W.heap.size (.slice A l.length c) l) => more_any s hs l _ W _ h (by omega)
  have h4 := fun W (h : RdB W W.heap.size (.slice A l.length c) l) => rmore_any s hs l _ W _ h (by omega)
  generalize sum l = x at h1 h2
  generalize more s l = y at h3 h4
  have H1 := Lib.hid h1; clear h1
  have H2 := Lib.hid h2; clear h2
  have H3 := Lib.hid h3; clear h3
  have H4 := Lib.hid h4; clear h4
  go_enter Try.func3, Try.ntmps3
  go_wp2_with fail
  refine (awake_any _).mono ?_
  rintro e w1 ⟨rfl, hb1⟩
  have HB1 := Lib.hid hb1; clear hb1
  go_wp2_with fail
  refine (H1.out w1 (HV.out.next HB1.out)).mono ?_
  rintro e w2 ⟨rfl, rfl⟩
  go_wp2_with fail
  refine (H2.out w2 (HV.out.next HB1.out)).mono ?_
  rintro e w3 ⟨rfl, rfl⟩
  go_wp2_with fail
  refine (H3.out w3 (HV.out.next HB1.out)).mono ?_
  rintro e w4 ⟨rfl, rfl⟩
  go_wp2_with fail
  refine (H4.out w4 (HV.out.next HB1.out)).mono ?_
  rintro e w5 ⟨rfl, rfl⟩
  go_wp2_with fail
  go_ret
  exact ⟨rfl, HB1.out⟩
end Go.Proofs.Yticlhiboheehdaa

/- The walk of the law CastaBack, where the two texts together are no longer than memory bears. -/
import Derived.Test.YticlhiboheehdaaAwk
import Derived.Test.YticlhiboheehdaaOpenB
namespace Go.Proofs.Yticlhiboheehdaa
open Go.RowKit
attribute [local go_sem] same_str

set_option maxHeartbeats 2000000 in
set_option maxRecDepth 100000 in
theorem castaBack_walk (a b : List UInt8) (va vb : Value) (w : World) (hva : RdB w w.heap.size va a) (hvb : RdB w w.heap.size vb b) (hl : a.length + b.length ≤ 140737488351232) :
    Calls Try.prog 5 #[va, vb] w fun e w' => e = .returned (.bool true) ∧ Below w.heap.size w w' := by
  have hseal := seal_any a va w hva (by omega)
  have hS := openAns_sealed a
  have hSl : (sealed a).length ≤ 140737488355328 := by simp [sealed, four]; omega
  generalize sealed a = S at hseal hS hSl
  obtain ⟨A1, c1, rfl, hc1, _⟩ := hva.at
  obtain ⟨A2, c2, rfl, hc2, _⟩ := hvb.at
  have hsum := fun W (h : RdB W W.heap.size (.slice A1 a.length c1) a) => sum_any a _ W _ h (by omega)
  have hmore := fun W (h : RdB W W.heap.size (.slice A2 b.length c2) b) => more_any (sum a) (sum_lt a) b _ W _ h (by omega)
  have hall := fun W v (h : RdB W W.heap.size v (a ++ b)) => sum_any (a ++ b) v W _ h (by simp; omega)
  rw [← more_sum] at hall
  generalize more (sum a) b = y at hmore hall
  generalize sum a = x at hsum hmore
  have HSEAL := Lib.hid hseal; clear hseal
  have HS := Lib.hid hS; clear hS
  have HSL := Lib.hid hSl; clear hSl
  have HSUM := Lib.hid hsum; clear hsum
  have HMORE := Lib.hid hmore; clear hmore
  have HALL := Lib.hid hall; clear hall
  have HVA := Lib.hid hva; clear hva
  have HVB := Lib.hid hvb; clear hvb
  go_enter Try.func5, Try.ntmps5
  go_wp2_with fail
  refine HSEAL.out.mono ?_
  rintro e w1 ⟨rfl, hr1, hb1⟩
  have hop := open_any S _ w1 hr1.whole HSL.out
  rw [HS.out] at hop
  have HOP := Lib.hid hop
  have HB1 := Lib.hid hb1
  clear hop hb1 hr1
  go_wp2_with fail
  refine HOP.out.mono ?_
  rintro e w2 ⟨v, rfl, hr2, hb2⟩
  have HR2 := Lib.hid hr2
  have HB2 := Lib.hid (HB1.out.trans (hb2.mono HB1.out.size))
  clear hr2 hb2
  go_wp2_with fail
  refine (awake_any _).mono ?_
  rintro e w3 ⟨rfl, hb3⟩
  have hcv := run_convB (HR2.out.next hb3)
  have HB3 := Lib.hid (HB2.out.trans (hb3.mono HB2.out.size))
  have hca := run_convB (HVA.out.below HB3.out (Nat.le_refl _))
  have HA3 := Lib.hid (show RdB w3 w3.heap.size (.slice A1 a.length c1) a from HVA.out.next HB3.out)
  have HB4 := Lib.hid (show RdB w3 w3.heap.size (.slice A2 b.length c2) b from HVB.out.next HB3.out)
  clear hb3
  go_wp2_with fail
  refine (HSUM.out w3 HA3.out).mono ?_
  rintro e w4 ⟨rfl, rfl⟩
  go_wp2_with fail
  refine (HMORE.out w4 HB4.out).mono ?_
  rintro e w5 ⟨rfl, rfl⟩
  clear hcv hca
  go_wp2_with (at_builtin; go_must (refine wpList_addW rfl _ _ rfl w5.heap.size (.slice (some ⟨w5.heap.size, 0, none⟩) 0 0) [] rfl ?z1 w5.heap.size (.slice A1 a.length c1) a rfl ?z2 (by simp; omega) (by simp) w.heap.size w ?z3 ?z5 ?z4))
  case z1 => exact Own.empty _ _ (Nat.le_refl _)
  case z2 => exact HA3.out.below ((Below.refl _ w5).alloc (Nat.le_refl _) _) (Nat.le_refl _)
  case z3 => exact HB3.out.alloc HB3.out.size _
  case z5 => exact HB3.out.size
  intro A6 c6 w6 ho6 hb6 hz6
  go_wp2_with (at_builtin; go_must (refine wpList_addW rfl _ _ rfl w5.heap.size (.slice A6 a.length c6) a rfl ?u1 w5.heap.size (.slice A2 b.length c2) b rfl ?u2 (by omega) hz6.out w.heap.size w hb6.out HB3.out.size ?u4))
  case u1 => simpa using ho6.out
  case u2 => exact (HVB.out.below hb6.out (Nat.le_refl _)).mono HB3.out.size
  intro A7 c7 w7 ho7 hb7 hz7
  go_wp2_with fail
  refine (HALL.out w7 _ ho7.out.rdB).mono ?_
  rintro e w8 ⟨rfl, rfl⟩
  go_wp2_with fail
  go_ret
  exact ⟨rfl, hb7.out⟩
end Go.Proofs.Yticlhiboheehdaa

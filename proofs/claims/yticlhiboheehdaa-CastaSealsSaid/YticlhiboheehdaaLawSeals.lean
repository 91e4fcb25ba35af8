/- The walk of the law CastaSeals. -/
import Derived.Test.YticlhiboheehdaaRopn
import Derived.Test.YticlhiboheehdaaOpenB
namespace Go.Proofs.Yticlhiboheehdaa
open Go.RowKit
attribute [local go_sem] same_str

set_option maxHeartbeats 2000000 in
set_option maxRecDepth 100000 in
theorem castaSeals_walk (l : List UInt8) (v : Value) (w : World) (hv : RdB w w.heap.size v l) (hl : l.length ≤ 140737488351232) : Calls Try.prog 4 #[v] w fun e w' => e = .returned (.bool true) ∧ Below w.heap.size w w' := by
  obtain ⟨A, c, rfl, hc, _⟩ := hv.at
  have HV := Lib.hid hv; clear hv
  have h1 := fun W (h : RdB W W.heap.size (.slice A l.length c) l) => open_any l _ W h (by omega)
  have h2 := fun W (h : RdB W W.heap.size (.slice A l.length c) l) => ropen_any l _ W h (by omega)
  have h3 := fun W (h : RdB W W.heap.size (.slice A l.length c) l) => seal_any l _ W h (by omega)
  have h4 := fun W (h : RdB W W.heap.size (.slice A l.length c) l) => rseal_any l _ W h (by omega)
  generalize openAns l = x at h1 h2
  obtain ⟨x, q⟩ := x
  generalize sealed l = y at h3 h4
  have H1 := Lib.hid h1; clear h1
  have H2 := Lib.hid h2; clear h2
  have H3 := Lib.hid h3; clear h3
  have H4 := Lib.hid h4; clear h4
  go_enter Try.func4, Try.ntmps4
  go_wp2_with fail
  refine (H1.out w HV.out).mono ?_
  rintro e w1 ⟨v1, rfl, hr1, hb1⟩
  have HB1 := Lib.hid hb1; clear hb1
  have HR1 := Lib.hid hr1; clear hr1
  go_wp2_with fail
  refine (H2.out w1 (HV.out.next HB1.out)).mono ?_
  rintro e w2 ⟨v2, rfl, hr2, hb2⟩
  have HB2 := Lib.hid hb2; clear hb2
  have HR2 := Lib.hid hr2; clear hr2
  have hR1 := HR1.out.next HB2.out
  have hV2 := (HV.out.next HB1.out).next HB2.out
  have hB := HB1.out.trans (HB2.out.mono HB1.out.size)
  clear HR1 HV HB1 HB2
  have HR1 := Lib.hid hR1; clear hR1
  have HV := Lib.hid hV2; clear hV2
  have HB := Lib.hid hB; clear hB
  go_wp2_with fail
  refine wp_region_planB [(false, 0), (true, 1), (true, 2), (true, 5), (false, 3), (true, 4), (false, 6), (true, 7), (true, 8), (true, 9), (true, 10), (true, 11), (true, 12), (true, 13), (true, 14), (true, 15), (true, 16), (true, 17), (true, 18), (true, 19), (true, 20), (true, 21), (true, 22)] (by kernel_rfl) (by kernel_rfl) (fun _ _ d _ _ h => by cases d <;> exact h) ?_
  have hB3 : Below w.heap.size w w2.drew := HB.out.drew
  have hR1 : RdB w2.drew w2.drew.heap.size v1 x := HR1.out
  have hR2 : RdB w2.drew w2.drew.heap.size v2 x := HR2.out
  have hV : RdB w2.drew w2.drew.heap.size (.slice A l.length c) l := HV.out
  generalize w2.drew = w3 at hB3 hR1 hR2 hV ⊢
  clear HR1 HR2 HV HB
  have HB := Lib.hid hB3; clear hB3
  have HR1 := Lib.hid hR1; clear hR1
  have HR2 := Lib.hid hR2; clear hR2
  have HV := Lib.hid hV; clear hV
  refine PlanB.step rfl rfl (fun Kk hK => ?_)
  go_simp
  go_at_call 8
  refine (awake_any _).mono ?_
  rintro e w4 ⟨rfl, hb⟩
  refine hK.out _ _ hb ?_
  clear hK Kk
  have HB4 := Lib.hid (HB.out.trans (hb.mono HB.out.size))
  have HR14 := Lib.hid (HR1.out.next hb)
  have HR24 := Lib.hid (HR2.out.next hb)
  have HV4 := Lib.hid (HV.out.next hb)
  clear hb HB HR1 HR2 HV
  (try simp only [Act.put, List.setIfInBounds_toArray, List.set_cons_zero, List.set_cons_succ])
  (refine PlanB.take (v := ?_) rfl rfl ?_ ?_; rotate_left; (focus (intro W hW; go_simp; (try with_reducible rfl); done)); (try simp only [Act.put, List.setIfInBounds_toArray, List.set_cons_zero, List.set_cons_succ]))
  (refine PlanB.take (v := ?_) rfl rfl ?_ ?_; rotate_left; (focus (intro W hW; go_simp; (try with_reducible rfl); done)); (try simp only [Act.put, List.setIfInBounds_toArray, List.set_cons_zero, List.set_cons_succ]))
  (refine PlanB.take (v := ?_) rfl rfl ?_ ?_; rotate_left; (focus (intro W hW; go_simp; (try with_reducible rfl); done)); (try simp only [Act.put, List.setIfInBounds_toArray, List.set_cons_zero, List.set_cons_succ]))
  refine PlanB.step rfl rfl (fun Kk hK => ?_)
  go_simp
  go_at_call 15
  refine (H3.out _ HV4.out).mono ?_
  rintro e w5 ⟨rfl, hr5, hb⟩
  refine hK.out _ _ hb ?_
  clear hK Kk
  have HB5 := Lib.hid (HB4.out.trans (hb.mono HB4.out.size))
  have HR15 := Lib.hid (HR14.out.next hb)
  have HR25 := Lib.hid (HR24.out.next hb)
  have HV5 := Lib.hid (HV4.out.next hb)
  have HC5 := Lib.hid (fun W (hW : Below w5.heap.size w5 W) => run_convB (hr5.whole.next hW))
  clear hb HB4 HR14 HR24 HV4 hr5
  (try simp only [Act.put, List.setIfInBounds_toArray, List.set_cons_zero, List.set_cons_succ])
  (refine PlanB.take (v := ?_) rfl rfl ?_ ?_; rotate_left; (focus (intro W hW; have k1 := HC5.out W hW; go_simp; (try with_reducible rfl); done)); (try simp only [Act.put, List.setIfInBounds_toArray, List.set_cons_zero, List.set_cons_succ]))
  refine PlanB.step rfl rfl (fun Kk hK => ?_)
  go_simp
  go_at_call 16
  refine (H4.out _ HV5.out).mono ?_
  rintro e w6 ⟨A6, c6, rfl, hr6, hb⟩
  refine hK.out _ _ hb ?_
  clear hK Kk
  have HB6 := Lib.hid (HB5.out.trans (hb.mono HB5.out.size))
  have HC1 := Lib.hid (fun W (hW : Below w6.heap.size w6 W) => run_convB ((HR15.out.next hb).next hW))
  have HC2 := Lib.hid (fun W (hW : Below w6.heap.size w6 W) => run_convB ((HR25.out.next hb).next hW))
  have HC6 := Lib.hid (fun W (hW : Below w6.heap.size w6 W) => run_convB (hr6.rdB.next hW))
  clear hb HB5 HR15 HR25 HV5 hr6
  (try simp only [Act.put, List.setIfInBounds_toArray, List.set_cons_zero, List.set_cons_succ])
  repeat (refine PlanB.take (v := ?_) rfl rfl ?_ ?_; rotate_left; (focus (intro W hW; have k1 := HC1.out W hW; have k2 := HC2.out W hW; have k3 := HC6.out W hW; go_simp; (try with_reducible rfl); done)); (try simp only [Act.put, List.setIfInBounds_toArray, List.set_cons_zero, List.set_cons_succ]))
  simp only [PlanB]
  go_wp2_with fail
  go_ret
  exact ⟨rfl, HB6.out⟩
end Go.Proofs.Yticlhiboheehdaa

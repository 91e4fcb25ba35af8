/- VerdictChecks' walk. -/
import Derived.Test.YtmakgjokadcfjaaFag
import Derived.Test.YtmakgjokadcfjaaFah
import Derived.Test.YtmakgjokadcfjaaFac
namespace Go.Proofs.Ytmakgjokadcfjaa
open Go.RowKit
attribute [local go_sem] less_eq same_eq le_eq ge_eq gt_eq

set_option maxHeartbeats 2000000 in
set_option maxRecDepth 100000 in
theorem verdictChecks_walk (t : Txn) (hf : fitT t) (_hi : I64 t.read) (v1 v2 : Value) (w : World) (hp : RdP w w.heap.size v1 t.reads) (hc : RdC w w.heap.size v2 t.chgs) :
    Calls Try.prog 4 #[tval t v1 v2] w fun e w' => e = .returned (.bool true) ∧ Below w.heap.size w w' := by
  have hP := fun W (h : Below w.heap.size w W) => pcheckT_any t hf v1 v2 W (hp.next h) (hc.next h)
  have hR := fun W (h : Below w.heap.size w W) => rcheckT_any t hf v1 v2 W (hp.next h) (hc.next h)
  generalize checkT t = R at hP hR
  obtain ⟨A1, c1, rfl, -, -⟩ := hp.at
  obtain ⟨A2, c2, rfl, -, -⟩ := hc.at
  obtain ⟨read, reads, chgs⟩ := t
  unfold tval at hP hR ⊢
  simp only at hP hR ⊢
  have HP := Lib.hid hP
  have HR := Lib.hid hR
  obtain ⟨w1, hw1⟩ : ∃ w1, w1 = w.alloc (.cells #[.int .i64 read, .slice A1 reads.length c1, .slice A2 chgs.length c2] 34) := ⟨_, rfl⟩
  have HX := Lib.hid (show Whole w1 w.heap.size 34 [.int .i64 read, .slice A1 reads.length c1, .slice A2 chgs.length c2] from by rw [hw1]; exact Whole.fresh w _ [_, _, _])
  have HB1 := Lib.hid (show Below w.heap.size w w1 from by rw [hw1]; exact (Below.refl _ w).alloc (Nat.le_refl _) _)
  clear hP hR hp hc hf
  go_enter Try.func4, Try.ntmps4
  go_wp2_with fail
  rw [← hw1]
  clear hw1
  have hd0 : Below w1.heap.size w1 w1.drew := (Below.refl _ _).drew
  refine wp_region_planB [(false, 0), (true, 1), (true, 2), (true, 4), (false, 3), (false, 5), (true, 6), (true, 7), (true, 8)] (by kernel_rfl) (by kernel_rfl) (fun _ _ d _ _ h => by cases d <;> exact h) ?_
  refine PlanB.step rfl rfl (fun Kk hK => ?_)
  go_simp
  refine (awakeD_any _).mono ?_
  rintro e w2 ⟨rfl, hb2⟩
  refine hK.out _ _ hb2 ?_
  clear hK Kk
  have hd2 := hd0.trans hb2
  (try simp only [Act.put, List.setIfInBounds_toArray, List.set_cons_zero, List.set_cons_succ])
  iterate 3 (refine PlanB.take (v := ?_) rfl rfl ?_ ?_; rotate_left; (focus (intro W hW; have hx := HX.out.below (hd2.trans (hW.mono hd2.size)) HX.out.size; have x0 := hx.cell 0 _ rfl; have x1 := hx.cell 1 _ rfl; have x2 := hx.cell 2 _ rfl; clear hx; go_simp; (try with_reducible rfl); done)); (try simp only [Act.put, List.setIfInBounds_toArray, List.set_cons_zero, List.set_cons_succ]))
  have HB2 := Lib.hid (HB1.out.trans (hd2.mono HB1.out.size))
  clear hd0 hb2 hd2
  refine PlanB.step rfl rfl (fun Kk hK => ?_)
  go_simp
  refine (HP.out _ HB2.out).mono ?_
  rintro e w3 ⟨rfl, hb3⟩
  refine hK.out _ _ hb3 ?_
  clear hK Kk
  have HB3 := Lib.hid (HB2.out.trans (hb3.mono HB2.out.size))
  clear hb3
  (try simp only [Act.put, List.setIfInBounds_toArray, List.set_cons_zero, List.set_cons_succ])
  refine PlanB.step rfl rfl (fun Kk hK => ?_)
  go_simp
  refine (HR.out _ HB3.out).mono ?_
  rintro e w4 ⟨rfl, hb4⟩
  refine hK.out _ _ hb4 ?_
  clear hK Kk
  have HB4 := Lib.hid (HB3.out.trans (hb4.mono HB3.out.size))
  clear hb4
  (try simp only [Act.put, List.setIfInBounds_toArray, List.set_cons_zero, List.set_cons_succ])
  iterate 3 (refine PlanB.take (v := ?_) rfl rfl ?_ ?_; rotate_left; (focus (intro W hW; go_simp; (try with_reducible rfl); done)); (try simp only [Act.put, List.setIfInBounds_toArray, List.set_cons_zero, List.set_cons_succ]))
  simp only [PlanB]
  go_wp2_with fail
  go_ret
  exact ⟨rfl, HB4.out⟩
end Go.Proofs.Ytmakgjokadcfjaa

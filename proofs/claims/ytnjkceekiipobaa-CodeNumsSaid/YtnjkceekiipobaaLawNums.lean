/- The walk of the law CodeNums. -/
import Derived.Test.YtnjkceekiipobaaAwk
namespace Go.Proofs.Ytnjkceekiipobaa
open Go.RowKit
attribute [local go_sem] same_str

set_option maxHeartbeats 4000000 in
set_option maxRecDepth 100000 in
theorem codeNums_walk (b : List UInt8) (n : Int) (hn : -9223372036854775808 ≤ n ∧ n < 9223372036854775808) (vb : Value) (w : World) (hvb : RdB w w.heap.size vb b) (hlb : b.length ≤ 140737488351232) :
    Calls Try.prog 3 #[vb, .int .i64 n] w fun e w' => e = .returned (.bool true) ∧ Below w.heap.size w w' := by
  obtain ⟨A, c, rfl, hc, _⟩ := hvb.at
  have HB := Lib.hid hvb; clear hvb
  have h1 := fun W (h : RdB W W.heap.size (.slice A b.length c) b) => put_any b _ n W hn.2 h hlb
  have h2 := fun W (h : RdB W W.heap.size (.slice A b.length c) b) => num_any b _ W h (by omega)
  have h3 := fun W (h : RdB W W.heap.size (.slice A b.length c) b) => rnum_any b _ W _ h (by omega)
  generalize numAns b = x at h2 h3
  obtain ⟨x1, x2, x3⟩ := x
  simp only [numVal] at h2 h3
  have H2 := Lib.hid h2; clear h2
  have H3 := Lib.hid h3; clear h3
  by_cases hneg : n < 0
  · rw [putAns, if_pos hneg] at h1
    have H1 := Lib.hid h1; clear h1
    go_enter Try.func3, Try.ntmps3
    go_wp2_with fail
    refine (H1.out w HB.out).mono ?_
    rintro e w1 ⟨v1, rfl, hr1, hb1⟩
    have HW1 := Lib.hid hb1
    have HR1 := Lib.hid hr1
    have HB1 := Lib.hid (HB.out.next hb1)
    clear hb1 hr1 HB
    go_wp2_with fail
    refine (H2.out w1 HB1.out).mono ?_
    rintro e w2 ⟨rfl, hb2⟩
    have HW2 := Lib.hid (HW1.out.trans (hb2.mono HW1.out.size))
    have HR2 := Lib.hid (HR1.out.next hb2)
    have HB2 := Lib.hid (HB1.out.next hb2)
    clear hb2 HR1 HB1 HW1
    go_wp2_with fail
    refine (H3.out w2 HB2.out).mono ?_
    rintro e w3 ⟨rfl, rfl⟩
    obtain ⟨A5, c5, hv5, _, _⟩ := RdB.at HR2.out
    subst hv5
    go_wp2_with fail
    refine (awake_any _).mono ?_
    rintro e w4 ⟨rfl, hb4⟩
    have HW4 := Lib.hid (HW2.out.trans (hb4.mono HW2.out.size))
    clear hb4
    go_wp2_with fail
    go_ret
    exact ⟨rfl, HW4.out⟩
  · rw [putAns, if_neg hneg] at h1
    obtain ⟨k, rfl⟩ : ∃ k : Nat, n = (k : Int) := ⟨n.toNat, by omega⟩
    rw [Int.toNat_natCast] at h1
    have hk0 : ¬ ((k : Int) < 0) := hneg
    have h5 := fun W A' c' base (ho : OwnB W base (.slice A' b.length c') b) (hb : base ≤ W.heap.size) => rput_any k (by omega) b A' c' W base ho hb (by omega)
    have H1 := Lib.hid h1; clear h1
    have H5 := Lib.hid h5; clear h5
    go_enter Try.func3, Try.ntmps3
    go_wp2_with fail
    refine (H1.out w HB.out).mono ?_
    rintro e w1 ⟨v1, rfl, hr1, hb1⟩
    have HW1 := Lib.hid hb1
    have HR1 := Lib.hid hr1
    have HB1 := Lib.hid (HB.out.next hb1)
    clear hb1 hr1 HB
    go_wp2_with fail
    refine (H2.out w1 HB1.out).mono ?_
    rintro e w2 ⟨rfl, hb2⟩
    have HW2 := Lib.hid (HW1.out.trans (hb2.mono HW1.out.size))
    have HR2 := Lib.hid (HR1.out.next hb2)
    have HB2 := Lib.hid (HB1.out.next hb2)
    clear hb2 HR1 HB1 HW1
    go_wp2_with fail
    refine (H3.out w2 HB2.out).mono ?_
    rintro e w3 ⟨rfl, rfl⟩
    go_wp2_with fail
    have HD := Lib.hid (show Below w.heap.size w w3.drew from HW2.out.drew)
    have hs0 : Below w3.drew.heap.size w3.drew w3.drew := Below.refl _ _
    have HCV := Lib.hid (fun W (hW : Below w3.drew.heap.size w3.drew W) => run_convB ((show RdB w3.drew w3.drew.heap.size v1 (b ++ enc k) from HR2.out).next hW))
    have HBD := Lib.hid (show RdB w3.drew w3.drew.heap.size (.slice A b.length c) b from HB2.out)
    refine wp_region_plan (S := fun W => Below w3.drew.heap.size w3.drew W) [(false, 0), (true, 1), (true, 2), (true, 3), (true, 4), (true, 5), (true, 6), (true, 7), (true, 9), (true, 11), (false, 8), (false, 10), (false, 12), (false, 13), (true, 14), (true, 15), (true, 16)] (by kernel_rfl) (by kernel_rfl) (fun _ _ d _ _ h => by cases d <;> exact h) hs0 ?_
    clear hs0
    generalize w3.drew = w4 at HD HCV HBD ⊢
    refine Plan.step rfl rfl (fun Kk hK => ?_)
    go_simp
    go_at_call 13
    refine (awake_any _).mono ?_
    rintro e w5 ⟨rfl, hb5⟩
    refine hK.out _ _ hb5 ?_
    clear hK Kk
    have HB5 := Lib.hid hb5
    clear hb5
    (try simp only [Act.put, List.setIfInBounds_toArray, List.set_cons_zero, List.set_cons_succ])
    repeat (refine Plan.take (v := ?_) rfl rfl ?_ ?_; rotate_left; (focus (intro W hW; have k1 := HCV.out W hW; go_simp; (try with_reducible rfl); done)); (try simp only [Act.put, List.setIfInBounds_toArray, List.set_cons_zero, List.set_cons_succ]))
    refine Plan.step rfl rfl (fun Kk hK => ?_)
    go_simp
    refine hK.out _ _ (HB5.out.alloc HB5.out.size _) ?_
    clear hK Kk
    (try simp only [Act.put, List.setIfInBounds_toArray, List.set_cons_zero, List.set_cons_succ])
    refine Plan.step rfl rfl (fun Kk hK => ?_)
    refine wp_addB _ _ rfl w5.heap.size (.slice (some ⟨w5.heap.size, 0, none⟩) 0 0) [] rfl (Own.empty _ _ (Nat.le_refl _)) w4.heap.size (.slice A b.length c) b rfl (HBD.out.below (HB5.out.alloc HB5.out.size _) (Nat.le_refl _)) (by simp; omega) (by simp) w4.heap.size w4 (HB5.out.alloc HB5.out.size _) HB5.out.size fun A6 c6 w6 ho6 hb6 hz6 => ?_
    refine hK.out _ _ hb6 ?_
    clear hK Kk
    rw [List.nil_append] at ho6
    have HO6 := Lib.hid ho6
    have HB6 := Lib.hid hb6
    clear ho6 hb6
    (try simp only [Act.put, List.setIfInBounds_toArray, List.set_cons_zero, List.set_cons_succ])
    try simp only [List.nil_append]
    refine Plan.step rfl rfl (fun Kk hK => ?_)
    go_simp
    go_at_call 14
    refine (H5.out w6 A6 c6 w5.heap.size HO6.out hz6).mono ?_
    rintro e w7 ⟨A7, c7, rfl, ho7, hb7, hz7⟩
    have HB7 := Lib.hid (HB6.out.trans (hb7.mono HB5.out.size))
    refine hK.out _ _ HB7.out ?_
    clear hK Kk
    have hcv := run_convB ho7.rdB
    simp only [List.length_append] at hcv
    clear ho7 hb7
    (try simp only [Act.put, List.setIfInBounds_toArray, List.set_cons_zero, List.set_cons_succ])
    refine Plan.step rfl rfl (fun Kk hK => ?_)
    go_simp
    refine hK.out _ _ HB7.out ?_
    clear hK Kk hcv
    (try simp only [Act.put, List.setIfInBounds_toArray, List.set_cons_zero, List.set_cons_succ])
    repeat (refine Plan.take (v := ?_) rfl rfl ?_ ?_; rotate_left; (focus (intro W hW; have k1 := HCV.out W hW; go_simp; (try with_reducible rfl); done)); (try simp only [Act.put, List.setIfInBounds_toArray, List.set_cons_zero, List.set_cons_succ]))
    simp only [Plan]
    go_wp2_with fail
    go_ret
    exact ⟨rfl, HD.out.trans (HB7.out.mono HD.out.size)⟩
end Go.Proofs.Ytnjkceekiipobaa

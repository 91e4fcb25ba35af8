/- The reference's Encode. -/
import Derived.Test.YtiijcikdlemndaaAwk
import Derived.Test.YtiijcikdlemndaaSm
import Derived.Test.YtiijcikdlemndaaRopn
namespace Go.Proofs.Ytiijcikdlemndaa
open Go.RowKit
attribute [local go_sem] less_eq same_eq le_eq ge_eq gt_eq

set_option maxHeartbeats 4000000 in
set_option maxRecDepth 100000 in
theorem rencode_ok (m : Msg) (hs : soundM m) (hf : fitsM m) (v : Value) (w : World) (hv : RdB w w.heap.size v m.body) :
    Calls Try.prog 10 #[mval m v] w fun e w' => ∃ v', e = .returned (.tuple #[v', .int .i64 0]) ∧ RdB w' w'.heap.size v' (sealed (msgIn m)) ∧ Below w.heap.size w w' := by
  obtain ⟨A, cc, hvv, _, _⟩ := hv.at
  subst hvv
  have hml := msgIn_len m hs hf
  obtain ⟨k, f, t, e0, a, b, c, body⟩ := m
  obtain ⟨⟨s1, s1'⟩, ⟨s2, s2'⟩, ⟨s3, s3'⟩, s4, s5, s6, s7, s8⟩ := hs
  obtain ⟨f1, f2, f3, f4, f5, f6, f7⟩ := hf
  simp only at s1 s1' s2 s2' s3 s3' s4 s5 s6 s7 s8 f1 f2 f3 f4 f5 f6 f7 hv
  have hin : msgIn ⟨k, f, t, e0, a, b, c, body⟩ = ([] ++ encs [k, f, t, e0, a, b, c]) ++ encT (strB body).data.toList := by simp [msgIn, Msg.nums, strB]
  rw [hin] at hml ⊢
  have hrng : ∀ n ∈ [k, f, t, e0, a, b, c], 0 ≤ n ∧ n < 9223372036854775808 := by
    simp only [List.mem_cons, List.not_mem_nil, or_false, forall_eq_or_imp, forall_eq]
    omega
  have hel := encs_len [k, f, t, e0, a, b, c] (fun n h => (hrng n h).2)
  simp only [List.length_cons, List.length_nil] at hel
  have hbs : (strB body).size ≤ 65536 := by simpa [strB, ByteArray.size] using s8
  obtain ⟨w1, hw1⟩ : ∃ w1, w1 = (w.alloc (.cells #[.int .i64 k, .int .i64 f, .int .i64 t, .int .i64 e0, .int .i64 a, .int .i64 b, .int .i64 c, .slice A body.length cc] 24)).alloc (.cells #[.int .i64 f, .int .i64 t, .int .i64 e0, .int .i64 a, .int .i64 b, .int .i64 c] 3) := ⟨_, rfl⟩
  have hi1 := RdI.lit (w.alloc (.cells #[.int .i64 k, .int .i64 f, .int .i64 t, .int .i64 e0, .int .i64 a, .int .i64 b, .int .i64 c, .slice A body.length cc] 24)) [f, t, e0, a, b, c]
  simp only [World.size_alloc, List.map_cons, List.map_nil, List.length_cons, List.length_nil] at hi1
  rw [← hw1] at hi1
  have hl := least_any [f, t, e0, a, b, c] _ w1 _ hi1 (by simp)
  rw [decide_eq_true (by simp only [List.mem_cons, List.not_mem_nil, or_false, forall_eq_or_imp, forall_eq]; omega)] at hl
  have hsz1 : w1.heap.size = w.heap.size + 2 := by rw [hw1]; simp
  have hb1 : Below w.heap.size w w1 := by rw [hw1]; exact ((Below.refl _ _).alloc (Nat.le_refl _) _).alloc (by simp) _
  have hV1 : Whole w1 w.heap.size 24 [.int .i64 k, .int .i64 f, .int .i64 t, .int .i64 e0, .int .i64 a, .int .i64 b, .int .i64 c, .slice A body.length cc] := by rw [hw1]; exact (Whole.fresh _ _ _).alloc _
  obtain ⟨w2, hw2⟩ : ∃ w2, w2 = w1.alloc (.cells #[.int .i64 k, .int .i64 f, .int .i64 t, .int .i64 e0, .int .i64 a, .int .i64 b, .int .i64 c] 3) := ⟨_, rfl⟩
  have hi2 := RdI.lit w1 [k, f, t, e0, a, b, c]
  simp only [List.map_cons, List.map_nil, List.length_cons, List.length_nil] at hi2
  rw [← hw2] at hi2
  have hb2 : Below w1.heap.size w1 w2 := by rw [hw2]; exact (Below.refl _ _).alloc (Nat.le_refl _) _
  have hsz2 : w2.heap.size = w1.heap.size + 1 := by rw [hw2]; simp
  have hV2 := hV1.below hb2 hV1.size
  have hbw2 : Below w.heap.size w w2 := hb1.trans (hb2.mono (by omega))
  have hn := rnums5_any [k, f, t, e0, a, b, c] hrng (by simp) _ [] none 0 w2 w2.heap.size (Own.nil _ _) (Nat.le_refl _) (hi2.mono (by omega)) (by simp)
  have hpt := fun (A : Option Addr) (cq : Nat) (W : World) (h1 : OwnB W w2.heap.size (.slice A ([] ++ encs [k, f, t, e0, a, b, c]).length cq) ([] ++ encs [k, f, t, e0, a, b, c])) (h2 : w2.heap.size ≤ W.heap.size) => rputText_any (strB body) (by omega) ([] ++ encs [k, f, t, e0, a, b, c]) A cq W w2.heap.size h1 h2 (by simp; omega)
  generalize [] ++ encs [k, f, t, e0, a, b, c] = L1 at hn hpt hml
  generalize L1 ++ encT (strB body).data.toList = L2 at hpt hml ⊢
  simp only [List.length_nil] at hn
  have HL := Lib.hid hl; clear hl
  have HN := Lib.hid hn; clear hn
  have HPT := Lib.hid hpt; clear hpt
  have HW1 := Lib.hid hw1; clear hw1
  have HW2 := Lib.hid hw2; clear hw2
  have HBW2 := Lib.hid hbw2; clear hbw2
  have HV1 := Lib.hid hV1; clear hV1
  have HV2 := Lib.hid hV2; clear hV2
  have HV := Lib.hid hv; clear hv
  have HSZ1 := Lib.hid hsz1; clear hsz1
  have HSZ2 := Lib.hid hsz2; clear hsz2
  clear hrng hel hi1 hi2 hb1 hb2 f1 f2 f3 f4 f5 f6 f7 s2 s3 s4 s5 s6 s7 hin
  have n1 : ¬ k < 1 := by omega
  have n2 : ¬ 20 < k := by omega
  have n3 : ¬ 255 < f := by omega
  have n4 : ¬ 255 < t := by omega
  have n5 : ¬ (65536 : Int) < (body.length : Int) := by omega
  unfold mval
  simp only
  go_enter Try.func10, Try.ntmps10
  go_wp2_with fail
  rw [← HW1.out]
  refine HL.out.mono ?_
  rintro e wx ⟨rfl, rfl⟩
  have k0 := HV1.out.cell 0 _ rfl
  have k1 := HV1.out.cell 1 _ rfl
  have k2 := HV1.out.cell 2 _ rfl
  have k3 := HV1.out.cell 3 _ rfl
  have k4 := HV1.out.cell 4 _ rfl
  have k5 := HV1.out.cell 5 _ rfl
  have k6 := HV1.out.cell 6 _ rfl
  go_wp2_with fail
  rw [← HW2.out]
  clear k0 k1 k2 k3 k4 k5 k6
  refine HN.out.mono ?_
  rintro e w3 ⟨A3, c3, rfl, ho3, hb3, hs3⟩
  have hV3 := HV2.out.below hb3 HV2.out.size
  have k7 := hV3.cell 7 _ rfl
  have hbw3 : Below w.heap.size w w3 := HBW2.out.trans (hb3.mono (by have := HBW2.out.size; omega))
  have kcv := run_convB (HV.out.below hbw3 (Nat.le_refl _))
  have HO3 := Lib.hid ho3
  have HBW3 := Lib.hid hbw3
  clear ho3 hb3 hV3 hbw3
  go_wp2_with fail
  refine (HPT.out _ _ _ HO3.out hs3).mono ?_
  rintro e w4 ⟨A4, c4, rfl, ho4, hb4, hs4⟩
  have hse := rseal_any L2 _ w4 ho4.rdB (by omega)
  have HSE := Lib.hid hse
  have HBW4 := Lib.hid (show Below w.heap.size w w4 from HBW3.out.trans (hb4.mono (by have := HBW2.out.size; omega)))
  clear hse ho4 hb4 k7 kcv
  go_wp2_with fail
  refine HSE.out.mono ?_
  rintro e w5 ⟨A5, c5, rfl, ho5, hb5⟩
  have HO5 := Lib.hid ho5
  have HBW5 := Lib.hid (HBW4.out.trans (hb5.mono HBW4.out.size))
  clear ho5 hb5
  go_wp2_with fail
  go_ret2
  exact ⟨_, rfl, HO5.out.rdB, HBW5.out⟩

set_option maxHeartbeats 4000000 in
set_option maxRecDepth 100000 in
theorem rencode_bad (m : Msg) (hs : ¬ soundM m) (v : Value) (w : World) (hv : RdB w w.heap.size v m.body) :
    Calls Try.prog 10 #[mval m v] w fun e w' => e = .returned (.tuple #[.slice none 0 0, .int .i64 2]) ∧ Below w.heap.size w w' := by
  obtain ⟨A, cc, hvv, _, _⟩ := hv.at
  subst hvv
  clear hv
  obtain ⟨k, f, t, e0, a, b, c, body⟩ := m
  unfold soundM at hs
  unfold mval
  simp only at hs ⊢
  have hb0 : Below w.heap.size w (w.alloc (.cells #[.int .i64 k, .int .i64 f, .int .i64 t, .int .i64 e0, .int .i64 a, .int .i64 b, .int .i64 c, .slice A body.length cc] 24)) := (Below.refl _ _).alloc (Nat.le_refl _) _
  have HB0 := Lib.hid hb0; clear hb0
  by_cases n1 : k < 1
  · go_enter Try.func10, Try.ntmps10
    go_wp2_with fail
    go_ret2
    exact ⟨rfl, HB0.out⟩
  by_cases n2 : 20 < k
  · go_enter Try.func10, Try.ntmps10
    go_wp2_with fail
    go_ret2
    exact ⟨rfl, HB0.out⟩
  by_cases n3 : 255 < f
  · go_enter Try.func10, Try.ntmps10
    go_wp2_with fail
    go_ret2
    exact ⟨rfl, HB0.out⟩
  by_cases n4 : 255 < t
  · go_enter Try.func10, Try.ntmps10
    go_wp2_with fail
    go_ret2
    exact ⟨rfl, HB0.out⟩
  by_cases n5 : (65536 : Int) < (body.length : Int)
  · go_enter Try.func10, Try.ntmps10
    go_wp2_with fail
    go_ret2
    exact ⟨rfl, HB0.out⟩
  obtain ⟨w1, hw1⟩ : ∃ w1, w1 = (w.alloc (.cells #[.int .i64 k, .int .i64 f, .int .i64 t, .int .i64 e0, .int .i64 a, .int .i64 b, .int .i64 c, .slice A body.length cc] 24)).alloc (.cells #[.int .i64 f, .int .i64 t, .int .i64 e0, .int .i64 a, .int .i64 b, .int .i64 c] 3) := ⟨_, rfl⟩
  have hi1 := RdI.lit (w.alloc (.cells #[.int .i64 k, .int .i64 f, .int .i64 t, .int .i64 e0, .int .i64 a, .int .i64 b, .int .i64 c, .slice A body.length cc] 24)) [f, t, e0, a, b, c]
  simp only [World.size_alloc, List.map_cons, List.map_nil, List.length_cons, List.length_nil] at hi1
  rw [← hw1] at hi1
  have hl := least_any [f, t, e0, a, b, c] _ w1 _ hi1 (by simp)
  rw [decide_eq_false (by simp only [List.mem_cons, List.not_mem_nil, or_false, forall_eq_or_imp, forall_eq]; omega)] at hl
  have hb1 : Below w.heap.size w w1 := by rw [hw1]; exact ((Below.refl _ _).alloc (Nat.le_refl _) _).alloc (by simp) _
  have HL := Lib.hid hl; clear hl
  have HW1 := Lib.hid hw1; clear hw1
  have HB1 := Lib.hid hb1; clear hb1 hi1 hs
  go_enter Try.func10, Try.ntmps10
  go_wp2_with fail
  rw [← HW1.out]
  refine HL.out.mono ?_
  rintro e wx ⟨rfl, rfl⟩
  go_wp2_with fail
  go_ret2
  exact ⟨rfl, HB1.out⟩
end Go.Proofs.Ytiijcikdlemndaa

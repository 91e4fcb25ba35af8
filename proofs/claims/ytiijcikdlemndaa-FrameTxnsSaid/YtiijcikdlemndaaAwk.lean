/- The simplest facts, which each statement of the frame layer asks first: they hold in every world. -/
import Derived.Test.YtiijcikdlemndaaPGet
namespace Go.Proofs.Ytiijcikdlemndaa
open Go.RowKit
attribute [local go_sem] less_eq same_eq le_eq ge_eq gt_eq

def awk : Msg := ⟨5, 3, 4, 0, 9, 0, 0, [120]⟩
theorem awk_sound : soundM awk := by unfold soundM awk; simp
theorem awk_fits : fitsM awk := by unfold fitsM awk; simp
theorem sealed_len (l : List UInt8) : (sealed l).length = l.length + 4 := by simp [sealed, four]
theorem msgIn_len (m : Msg) (hs : soundM m) (hf : fitsM m) : (msgIn m).length ≤ 70000 := by
  obtain ⟨⟨s1, _⟩, ⟨s2, _⟩, ⟨s3, _⟩, s4, s5, s6, s7, s8⟩ := hs
  obtain ⟨f1, f2, f3, f4, f5, f6, f7⟩ := hf
  have h1 := encs_len m.nums (by simp only [Msg.nums, List.mem_cons, List.not_mem_nil, or_false, forall_eq_or_imp, forall_eq]; omega)
  have h2 := enc_len9 (n := m.body.length) (by omega)
  have h3 : m.nums.length = 7 := rfl
  rw [h3] at h1
  rw [msgIn, List.length_append, encT, List.length_append]
  omega

set_option maxHeartbeats 4000000 in
set_option maxRecDepth 100000 in
theorem awake_any (w : World) : Calls Try.prog 13 #[] w fun e w' => e = .returned (.bool true) ∧ Below w.heap.size w w' := by
  have kc := fun (w : World) (C : Array Value) (n c : Nat) => Lib.run_convert_bytes_const (P := Try.prog) w 22 5 C n c Try.underlying22 Try.underlying5
  have h1 := pencode_ok awk awk_sound awk_fits (.slice (some ⟨w.heap.size, 0, none⟩) 1 1) (w.alloc (.cells #[.int .u8 120] 5 (1, 2))) (by rw [World.size_alloc]; simpa [cellsB, awk] using RdB.lit w [120] (1, 2)) (by decide)
  have hlen := msgIn_len awk awk_sound awk_fits
  have hdec := decode_encode awk_sound awk_fits
  have hb0 : Below w.heap.size w (w.alloc (.cells #[.int .u8 120] 5 (1, 2))) := (Below.refl _ _).alloc (Nat.le_refl _) _
  simp only [mval] at h1
  rw [show awk.kind = 5 from rfl, show awk.frm = 3 from rfl, show awk.to = 4 from rfl, show awk.epoch = 0 from rfl, show awk.a = 9 from rfl, show awk.b = 0 from rfl, show awk.c = 0 from rfl] at h1
  have H1 := Lib.hid h1; clear h1
  have HB0 := Lib.hid hb0; clear hb0
  go_enter Try.func13, Try.ntmps13
  go_wp2_with fail
  refine H1.out.mono ?_
  rintro e w1 ⟨g, l, hl, hg, rfl, hrow, hb1⟩
  rw [World.size_alloc] at hg hb1
  subst hl
  have h2 := pdecode_any (sealed (msgIn awk)) _ w1 hrow.whole (by rw [sealed_len]; omega)
  rw [hdec] at h2
  generalize (sealed (msgIn awk)).length = n at h2
  have HB1 := Lib.hid (HB0.out.trans (hb1.mono (by omega)))
  have H2 := Lib.hid h2
  clear h2 hb1 hrow hdec hlen
  go_wp2_with fail
  refine H2.out.mono ?_
  rintro e w2 ⟨v, rfl, hr2, hb2⟩
  have HB2 := Lib.hid (HB1.out.trans (hb2.mono HB1.out.size))
  clear hb2
  obtain ⟨A, c, rfl, _, _⟩ := hr2.at
  have hcv := run_convB (hr2.below ((Below.refl _ w2).alloc (Nat.le_refl _) (.cells #[.int .i64 5, .int .i64 3, .int .i64 4, .int .i64 0, .int .i64 9, .int .i64 0, .int .i64 0, .slice A awk.body.length c] 24)) (Nat.le_refl _))
  rw [show awk.body = [120] from rfl] at hcv
  simp only [mval, show awk.kind = 5 from rfl, show awk.frm = 3 from rfl, show awk.to = 4 from rfl, show awk.epoch = 0 from rfl, show awk.a = 9 from rfl, show awk.b = 0 from rfl, show awk.c = 0 from rfl, show awk.body = [120] from rfl, List.length_cons, List.length_nil, Nat.zero_add] at hcv ⊢
  clear hr2
  have e1 : (strB [120]).toList = [120] := by rw [Lib.toList_data]; rfl
  go_wp2_with fail
  go_ret
  refine ⟨?_, HB2.out.alloc HB2.out.size _⟩
  rfl
end Go.Proofs.Ytiijcikdlemndaa

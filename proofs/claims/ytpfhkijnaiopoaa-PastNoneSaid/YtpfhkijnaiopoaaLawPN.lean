/- PastNone's walk. -/
import Derived.Test.YtpfhkijnaiopoaaPAwk
namespace Go.Proofs.Ytpfhkijnaiopoaa
open Go.RowKit

set_option maxHeartbeats 4000000 in
set_option maxRecDepth 100000 in
theorem pastNone_walk (n : Int) (k : K) (s : K × K) (vc : Value) (w : World) : Calls Try.prog 8 #[.int .i64 n, .string k, spv s, vc] w fun e w' => e = .returned (.bool true) ∧ Below w.heap.size w w' := by
  obtain ⟨s1, s2⟩ := s
  unfold spv
  simp only
  obtain ⟨w0, hw0⟩ : ∃ w0, w0 = w.alloc (.cells #[.string s1, .string s2] 33) := ⟨_, rfl⟩
  have hB0 : Below w.heap.size w w0 := by rw [hw0]; exact (Below.refl _ w).alloc (Nat.le_refl _) _
  have hW0 : Whole w0 w.heap.size 33 [.string s1, .string s2] := by rw [hw0]; exact Whole.fresh w _ [_, _]
  have HW := Lib.hid hw0
  have HB0 := Lib.hid hB0
  have HW0 := Lib.hid hW0
  have HL := Lib.hid (pnone_get k n w0)
  clear hw0 hB0 hW0
  go_enter Try.func8, Try.ntmps8
  go_wp2_with fail
  rw [← HW.out]
  refine HL.out.mono ?_
  rintro e w1 ⟨rfl, hb⟩
  have HB := Lib.hid (HB0.out.trans (hb.mono HB0.out.size))
  have hw1 := HW0.out.below hb HW0.out.size
  have c0 := hw1.cell 0 _ rfl
  have c1 := hw1.cell 1 _ rfl
  have HD := Lib.hid (pnone_list (s1, s2) n n w1)
  clear hb hw1 HL HB0
  go_wp2_with fail
  refine HD.out.mono ?_
  rintro e w2 ⟨A2, c2, rfl, hb⟩
  have HB2 := Lib.hid (HB.out.trans (hb.mono HB.out.size))
  have HD := Lib.hid (pnone_ends w2)
  clear hb HB c0 c1
  go_wp2_with fail
  refine HD.out.mono ?_
  rintro e w3 ⟨rfl, hb⟩
  have HB3 := Lib.hid (HB2.out.trans (hb.mono HB2.out.size))
  have HD := Lib.hid (awake_any w3)
  clear hb HB2
  go_wp2_with fail
  refine HD.out.mono ?_
  rintro e w4 ⟨rfl, hb⟩
  have HB4 := Lib.hid (HB3.out.trans (hb.mono HB3.out.size))
  have HD := Lib.hid (pnone_add n vc w4)
  clear hb HB3
  go_wp2_with fail
  refine HD.out.mono ?_
  rintro e w5 ⟨rfl, hb⟩
  have HB5 := Lib.hid (HB4.out.trans (hb.mono HB4.out.size))
  have HD := Lib.hid (pnone_forget n w5)
  clear hb HB4
  go_wp2_with fail
  refine HD.out.mono ?_
  rintro e w6 ⟨rfl, hb⟩
  have HB6 := Lib.hid (HB5.out.trans (hb.mono HB5.out.size))
  have HD := Lib.hid (pnone_back n w6)
  clear hb HB5
  go_wp2_with fail
  refine HD.out.mono ?_
  rintro e w7 ⟨rfl, hb⟩
  have HB7 := Lib.hid (HB6.out.trans (hb.mono HB6.out.size))
  clear hb HB6
  go_wp2_with fail
  go_ret
  exact ⟨rfl, HB7.out⟩
end Go.Proofs.Ytpfhkijnaiopoaa

/- The simplest facts, which each statement of the casta layer asks first: they hold in every world. -/
import Derived.Test.YticlhiboheehdaaOpn
import Derived.Test.YticlhiboheehdaaPlanB
import Derived.Lib.SlBytesConst
import Derived.Lib.SmallJoins
namespace Go.Proofs.Yticlhiboheehdaa
open Go.RowKit

theorem same_str (a b : List UInt8) : ((strB a).toList == (strB b).toList) = decide (a = b) := by
  rw [Lib.toList_data, Lib.toList_data]
  rw [Bool.eq_iff_iff]
  simp [strB]

theorem openAns_sealed (l : List UInt8) : openAns (sealed l) = (l, 0) := by
  unfold openAns sealed
  rw [if_neg (by simp [four]), show (four (sum l) ++ l).take 4 = four (sum l) from rfl, show (four (sum l) ++ l).drop 4 = l from rfl, val_four (sum_lt l), if_pos rfl]

theorem RdB.lit (w : World) (l : List UInt8) (fr : Nat × Nat) : RdB (w.alloc (.cells (cellsB l).toArray 5 fr)) (w.heap.size + 1) (.slice (some ⟨w.heap.size, 0, none⟩) l.length l.length) l := by
  refine ⟨_, l.length, rfl, Nat.le_refl _, fun i hi => ⟨w.heap.size, 0, rfl, Nat.lt_succ_self _, fun j u hu => ?_⟩⟩
  match j, hu with
  | 0, hu =>
    simp only [byteEnc, List.getElem?_cons_zero, Option.some.injEq] at hu
    subst hu
    rw [World.cell?_alloc_mark, Nat.zero_add, Nat.mul_one, Nat.add_zero, List.getElem?_toArray]
    exact cellsB_get l i hi
  | j + 1, hu => simp [byteEnc] at hu

theorem sum_nine : sum [49, 50, 51, 52, 53, 54, 55, 56, 57] = 3808858755 := by decide +kernel

set_option maxHeartbeats 1000000 in
set_option maxRecDepth 100000 in
theorem awake_any (w : World) : Calls Try.prog 8 #[] w fun e w' => e = .returned (.bool true) ∧ Below w.heap.size w w' := by
  have kc := fun (w : World) (C : Array Value) (n c : Nat) => Lib.run_convert_bytes_const (P := Try.prog) w 23 5 C n c Try.underlying23 Try.underlying5
  have h1 := seal_any [97, 98] (.slice (some ⟨w.heap.size, 0, none⟩) 2 2) (w.alloc (.cells #[.int .u8 97, .int .u8 98] 5 (2, 3))) (by simpa [cellsB] using RdB.lit w [97, 98] (2, 3)) (by simp)
  have hsz : (w.alloc (.cells #[.int .u8 97, .int .u8 98] 5 (2, 3))).heap.size = w.heap.size + 1 := by simp
  rw [hsz] at h1
  obtain ⟨S, hS⟩ : ∃ S, S = sealed [97, 98] := ⟨_, rfl⟩
  have hSl : S.length ≤ 140737488355328 := by rw [hS]; simp [sealed, four]
  have hSa : openAns S = ([97, 98], 0) := by rw [hS]; exact openAns_sealed _
  rw [← hS] at h1
  clear hS hsz
  have H1 := Lib.hid h1; clear h1
  go_enter Try.func8, Try.ntmps8
  go_wp2_with fail
  refine H1.out.mono ?_
  rintro e w1 ⟨rfl, hr1, hb1⟩
  have h2 := open_any S _ w1 hr1.whole hSl
  rw [hSa] at h2
  clear hSl hSa
  have hbw : Below w.heap.size w w1 := ((Below.refl _ w).alloc (Nat.le_refl _) _).trans (hb1.mono (by omega))
  have HBW := Lib.hid hbw; clear hbw hb1 hr1
  have H2 := Lib.hid h2; clear h2
  go_wp2_with fail
  refine H2.out.mono ?_
  rintro e w2 ⟨v, rfl, hr2, hb2⟩
  have HB2 := Lib.hid hb2; clear hb2
  obtain ⟨w3, hw3⟩ : ∃ w3, w3 = w2.alloc (.cells #[.int .u8 49, .int .u8 50, .int .u8 51, .int .u8 52, .int .u8 53, .int .u8 54, .int .u8 55, .int .u8 56, .int .u8 57] 5 (9, 10)) := ⟨_, rfl⟩
  have hb3 : Below w2.heap.size w2 w3 := by rw [hw3]; exact (Below.refl _ w2).alloc (Nat.le_refl _) _
  have hrd : RdB w3 (w2.heap.size + 1) (.slice (some ⟨w2.heap.size, 0, none⟩) 9 9) [49, 50, 51, 52, 53, 54, 55, 56, 57] := by
    have h := RdB.lit w2 [49, 50, 51, 52, 53, 54, 55, 56, 57] (9, 10)
    rw [hw3]
    exact h
  have hs := sum_any _ _ w3 _ hrd (by decide)
  rw [sum_nine] at hs
  have HS := Lib.hid hs; clear hs
  have hcv := run_convB (hr2.below hb3 (Nat.le_refl _))
  rw [hw3] at hcv
  have HCV := Lib.hid hcv; clear hcv hr2
  have HW3 := Lib.hid hw3; clear hw3
  have HB3 := Lib.hid hb3; clear hb3 hrd
  go_wp2_with fail
  obtain rfl := HW3.out
  refine HS.out.mono ?_
  rintro e w4 ⟨rfl, rfl⟩
  have hcv := HCV.out
  go_wp2_with fail
  go_ret
  refine ⟨?_, HBW.out.trans ((HB2.out.mono HBW.out.size).trans (HB3.out.mono (Nat.le_trans HBW.out.size HB2.out.size)))⟩
  show Ending.returned (Value.bool ((strB [97, 98]).toList == [97, 98])) = _
  rw [Lib.toList_data]
  rfl
end Go.Proofs.Yticlhiboheehdaa

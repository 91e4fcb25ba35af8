/- The simplest facts, which each statement of the shards layer asks first. -/
import Derived.Test.YteelnholmlabmaaShd
import Derived.Test.YteelnholmlabmaaEqS
namespace Go.Proofs.Yteelnholmlabmaa
open Go.RowKit
attribute [local go_sem] less_eq same_eq le_eq ge_eq gt_eq

def awkB : List K := [⟨#[103]⟩, ⟨#[112]⟩]
theorem awk_ok : okB awkB := by decide +kernel
theorem awk_which : whichB awkB ⟨#[109]⟩ = 1 := by decide +kernel
theorem awk_piece : pieceB awkB 1 = (⟨#[103]⟩, ⟨#[112]⟩) := by decide +kernel
theorem RdK.lit2 (w : World) (x y : K) : RdK (w.alloc (.cells #[.string x, .string y] 9)) (w.heap.size + 1) (.slice (some ⟨w.heap.size, 0, none⟩) 2 2) [x, y] := by
  have hW : Whole (w.alloc (.cells #[.string x, .string y] 9)) w.heap.size 9 [.string x, .string y] := Whole.fresh w _ [_, _]
  refine ⟨_, 2, rfl, Nat.le_refl _, fun i hi => ⟨w.heap.size, 0, rfl, Nat.lt_succ_self _, fun j u hu => ?_⟩⟩
  have h0 := hW.cell 0 _ rfl
  have h1 := hW.cell 1 _ rfl
  rcases i with _ | _ | i
  · rcases j with _ | j
    · simp [encK] at hu; subst hu; exact h0
    · simp [encK] at hu
  · rcases j with _ | j
    · simp [encK] at hu; subst hu; exact h1
    · simp [encK] at hu
  · simp at hi; omega

set_option maxHeartbeats 4000000 in
set_option maxRecDepth 100000 in
theorem awake_any (w : World) : Calls Try.prog 12 #[] w fun e w' => e = .returned (.bool true) ∧ Below w.heap.size w w' := by
  obtain ⟨w1, hw1⟩ : ∃ w1, w1 = w.alloc (.cells #[.string ⟨#[103]⟩, .string ⟨#[112]⟩] 9) := ⟨_, rfl⟩
  have hl1 : RdK w1 w1.heap.size (.slice (some ⟨w.heap.size, 0, none⟩) 2 2) awkB := by rw [hw1]; exact (RdK.lit2 w _ _).mono (by simp)
  have hB1 : Below w.heap.size w w1 := by rw [hw1]; exact (Below.refl _ w).alloc (Nat.le_refl _) _
  have h1 := pwhich_any awkB ⟨#[109]⟩ _ w1 hl1 (by decide) (by decide)
  rw [if_pos awk_ok, if_pos awk_ok, awk_which] at h1
  have H1 := Lib.hid h1
  have HB1 := Lib.hid hB1
  have HW1 := Lib.hid hw1
  clear h1 hl1 hB1 hw1
  go_enter Try.func12, Try.ntmps12
  go_wp2_with fail
  rw [← HW1.out]
  refine H1.out.mono ?_
  rintro e w2 ⟨rfl, hb2⟩
  obtain ⟨w3, hw3⟩ : ∃ w3, w3 = w2.alloc (.cells #[.string ⟨#[103]⟩, .string ⟨#[112]⟩] 9) := ⟨_, rfl⟩
  have hl3 : RdK w3 w3.heap.size (.slice (some ⟨w2.heap.size, 0, none⟩) 2 2) awkB := by rw [hw3]; exact (RdK.lit2 w2 _ _).mono (by simp)
  have hs12 : w.heap.size ≤ w2.heap.size := Nat.le_trans HB1.out.size hb2.size
  have hB3 : Below w.heap.size w w3 := by rw [hw3]; exact (HB1.out.trans (hb2.mono HB1.out.size)).alloc hs12 _
  have h3 := ppiece_any awkB 1 _ w3 hl3 (by decide) (by omega)
  rw [if_pos ⟨awk_ok, by decide, by decide⟩, if_pos ⟨awk_ok, by decide, by decide⟩, if_pos awk_ok, if_pos ⟨by decide, by decide⟩, show (1 : Int).toNat = 1 from rfl, awk_piece] at h3
  have H3 := Lib.hid h3
  have HB3 := Lib.hid hB3
  have HW3 := Lib.hid hw3
  clear h3 hl3 hB3 hw3 hb2 hs12 HW1 H1
  go_wp2_with fail
  rw [← HW3.out]
  refine H3.out.mono ?_
  rintro e w4 ⟨rfl, hb4⟩
  have HB4 := Lib.hid (HB3.out.trans (hb4.mono HB3.out.size))
  have hs4 : w.heap.size ≤ w4.heap.size := Nat.le_trans HB3.out.size hb4.size
  have HB5 := Lib.hid (HB4.out.alloc hs4 (.cells #[.string ⟨#[103]⟩, .string ⟨#[112]⟩] 31))
  clear hb4 HW3 H3
  go_wp2_with fail
  go_ret
  exact ⟨by first | rfl | trivial, HB5.out⟩
end Go.Proofs.Yteelnholmlabmaa

/- The simplest facts of the change layer hold. -/
import Derived.Test.YtdkdolcocblhkaaApply
namespace Go.Proofs.Ytdkdolcocblhkaa
open Go.RowKit
attribute [local go_sem] less_eq same_eq le_eq ge_eq gt_eq

theorem Whole.rd {α : Type} {enc : α → List Value} {k : Nat} (hk : ∀ x, (enc x).length = k) {w : World} {g : Nat} {t : TypeId} {l : List α} (h : Whole w g t (flatG enc l)) : Rd enc k w (g + 1) (.slice (some ⟨g, 0, none⟩) l.length l.length) l := by
  refine ⟨_, l.length, rfl, Nat.le_refl _, fun i hi => ⟨g, 0, rfl, Nat.lt_succ_self _, fun j u hu => ?_⟩⟩
  have hj : j < k := by
    rcases Nat.lt_or_ge j k with h' | h'
    · exact h'
    · rw [List.getElem?_eq_none (by rw [hk]; exact h')] at hu; cases hu
  refine h.cell _ _ ?_
  rw [Nat.zero_add, flatG_get hk l i hi j hj]
  exact hu

def awk : List Chg := [⟨1, ⟨#[97]⟩, ⟨#[49]⟩⟩, ⟨1, ⟨#[98]⟩, ⟨#[]⟩⟩, ⟨3, ⟨#[97]⟩, ⟨#[98]⟩⟩]
theorem awk_ans : applyP [] awk = [(⟨#[98]⟩, ⟨#[]⟩)] := by decide +kernel
theorem awk_all : allAns awk = 0 := by decide +kernel
theorem awk_sound : soundP [] = true := by simp [soundP, okFrom]

set_option maxHeartbeats 4000000 in
set_option maxRecDepth 100000 in
theorem awake_any (w : World) : Calls Try.prog 12 #[] w fun e w' => e = .returned (.bool true) ∧ Below w.heap.size w w' := by
  have hA := fun W v h => papply_any [] awk (by simp) (by intro c hc; simp [awk] at hc; rcases hc with rfl | rfl | rfl <;> exact ⟨by decide, by decide⟩) (.slice none 0 0) v W (Rd.nil _ _) h (by decide)
  rw [awk_all, awk_sound, awk_ans] at hA
  have hC := fun W => pcheck_any ⟨9, ⟨#[]⟩, ⟨#[]⟩⟩ W (by decide) (by decide)
  rw [show checkAns ⟨9, ⟨#[]⟩, ⟨#[]⟩⟩ = 1 by decide +kernel] at hC
  unfold cval at hC
  simp only at hC
  have HA := Lib.hid hA; clear hA
  have HC := Lib.hid hC; clear hC
  go_enter Try.func12, Try.ntmps12
  go_wp2_with fail
  refine (HA.out _ _ ?_).mono ?_
  · have h := Whole.rd (enc := encC) (k := 3) encC_len (l := awk) (Whole.fresh w 23 (flatG encC awk))
    rw [World.size_alloc]
    exact h
  rintro e w1 ⟨v', q, rfl, hb1, hans⟩
  have hb : Below w.heap.size w w1 := ((Below.refl _ w).alloc (Nat.le_refl _) _).trans (hb1.mono (by simp))
  rcases hans with ⟨h1, h2, _⟩ | ⟨_, h1, _⟩ | ⟨_, _, rfl, ho⟩
  · exact absurd h1 h2
  · cases h1
  obtain ⟨A, c, rfl, hc, hi⟩ := RdP.at (ho.rd cellsS_len)
  obtain ⟨b, o, rfl, hlt, k0, k1⟩ := hi 0 (by simp)
  simp only [Nat.zero_mul, Nat.add_zero, List.getElem_cons_zero, List.length_cons, List.length_nil] at k0 k1 ⊢
  have HB := Lib.hid hb; clear hb hb1 ho hi
  go_wp2_with fail
  refine (HC.out _).mono ?_
  rintro e w2 ⟨rfl, hb2⟩
  have HB2 := Lib.hid (HB.out.trans (hb2.mono HB.out.size)); clear hb2
  go_wp2_with fail
  go_ret
  exact ⟨rfl, HB2.out⟩
end Go.Proofs.Ytdkdolcocblhkaa

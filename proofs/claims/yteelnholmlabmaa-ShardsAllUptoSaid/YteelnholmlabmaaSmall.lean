/- What the small functions of the span layer's reference answer: contracts, each for every argument and every world. -/
import Derived.Test.YteelnholmlabmaaRows
import Derived.Test.YteelnholmlabmaaKeys
import Derived.WalkKit
import Derived.WalkSpells
import Derived.WalkLawsBesides
import Derived.Lib.Hide
import Derived.Sort.Walk0
import Derived.Lib.MinMaxS
namespace Go.Proofs.Yteelnholmlabmaa
open Go.RowKit

theorem less_eq (a b : ByteArray) : Op.bytesLess a.toList b.toList = decide (a < b) := by
  rw [bytesLess_eq, Lib.toList_data, Lib.toList_data]; rfl
theorem same_eq (a b : ByteArray) : (a.toList == b.toList) = decide (a = b) := by
  rw [Bool.eq_iff_iff, beq_iff_eq, decide_eq_true_iff, Lib.toList_data, Lib.toList_data]
  exact ⟨key_ext, fun h => by rw [h]⟩
theorem le_eq (a b : ByteArray) : (decide (a < b) || decide (a = b)) = decide (a ≤ b) := by
  rw [Bool.eq_iff_iff]; simp; grind
theorem ge_eq (a b : ByteArray) : (!decide (a < b)) = decide (b ≤ a) := by
  rw [Bool.eq_iff_iff]; simp; grind
theorem gt_eq (a b : ByteArray) : (!decide (a ≤ b)) = decide (b < a) := by
  rw [Bool.eq_iff_iff]; simp; grind
attribute [local go_sem] less_eq same_eq le_eq ge_eq gt_eq

set_option maxHeartbeats 400000 in
theorem rhas_any (s : K × K) (k : K) (w : World) : Calls Try.prog 22 #[.agg #[.string s.1, .string s.2], .string k] w fun e w' => e = .returned (.bool (decide (s.1 ≤ k) && decide (k < s.2))) ∧ Below w.heap.size w w' := by
  by_cases h : s.1 ≤ k
  all_goals
    go_enter Try.func22, Try.ntmps22
    go_wp2
    go_ret
    exact ⟨by simp [h], (Below.refl _ _).alloc (Nat.le_refl _) _⟩



theorem maxS_eq (a b : K) : Lib.maxS a b = mx a b := by unfold Lib.maxS mx; rfl
theorem minS_eq (a b : K) : Lib.minS a b = mn a b := by
  unfold Lib.minS mn
  have h : (a.data.toList < b.data.toList ∨ a.data.toList = b.data.toList) ↔ ¬ b < a := by
    show (a < b ∨ _) ↔ _
    constructor
    · rintro (h | h)
      · grind
      · have := key_ext h; grind
    · intro h
      by_cases e : a = b
      · exact .inr (by rw [e])
      · exact .inl (by grind)
  by_cases hb : b < a
  · rw [if_neg (by rw [h]; simpa using hb), if_pos hb]
  · rw [if_pos (h.2 hb), if_neg hb]

def meet (a b : K × K) : K × K := if mn a.2 b.2 ≤ mx a.1 b.1 then (⟨#[]⟩, ⟨#[]⟩) else (mx a.1 b.1, mn a.2 b.2)
def spv (s : K × K) : Value := .agg #[.string s.1, .string s.2]

set_option maxHeartbeats 400000 in
theorem rmeet_any (a b : K × K) (w : World) : Calls Try.prog 36 #[.agg #[.string a.1, .string a.2], .agg #[.string b.1, .string b.2]] w fun e w' => e = .returned (spv (meet a b)) ∧ Below w.heap.size w w' := by
  by_cases h1 : a.1 < b.1 <;> by_cases h2 : b.2 < a.2
  · by_cases h : b.2 ≤ b.1
    · have e : meet a b = (⟨#[]⟩, ⟨#[]⟩) := by simp [meet, mx, mn, h1, h2, h]
      rw [e]
      clear e
      go_enter Try.func36, Try.ntmps36
      go_wp2
      refine bodyPost_ret (v := .agg #[.string ⟨#[]⟩, .string ⟨#[]⟩]) (by simp [results, Try.results36, go_sem]) rfl ⟨rfl, ?_⟩
      ((repeat' (first | exact Below.refl _ _ | refine Below.alloc ?_ ?_ _ | refine Below.setCell ?_ ?_ _ | refine Below.drew ?_)); all_goals ((try simp only [World.size_alloc]); omega))
    · have e : meet a b = (b.1, b.2) := by simp [meet, mx, mn, h1, h2, h]
      rw [e]
      clear e
      go_enter Try.func36, Try.ntmps36
      go_wp2
      refine bodyPost_ret (v := .agg #[.string b.1, .string b.2]) (by simp [results, Try.results36, go_sem]) rfl ⟨rfl, ?_⟩
      ((repeat' (first | exact Below.refl _ _ | refine Below.alloc ?_ ?_ _ | refine Below.setCell ?_ ?_ _ | refine Below.drew ?_)); all_goals ((try simp only [World.size_alloc]); omega))
  · by_cases h : a.2 ≤ b.1
    · have e : meet a b = (⟨#[]⟩, ⟨#[]⟩) := by simp [meet, mx, mn, h1, h2, h]
      rw [e]
      clear e
      go_enter Try.func36, Try.ntmps36
      go_wp2
      refine bodyPost_ret (v := .agg #[.string ⟨#[]⟩, .string ⟨#[]⟩]) (by simp [results, Try.results36, go_sem]) rfl ⟨rfl, ?_⟩
      ((repeat' (first | exact Below.refl _ _ | refine Below.alloc ?_ ?_ _ | refine Below.setCell ?_ ?_ _ | refine Below.drew ?_)); all_goals ((try simp only [World.size_alloc]); omega))
    · have e : meet a b = (b.1, a.2) := by simp [meet, mx, mn, h1, h2, h]
      rw [e]
      clear e
      go_enter Try.func36, Try.ntmps36
      go_wp2
      refine bodyPost_ret (v := .agg #[.string b.1, .string a.2]) (by simp [results, Try.results36, go_sem]) rfl ⟨rfl, ?_⟩
      ((repeat' (first | exact Below.refl _ _ | refine Below.alloc ?_ ?_ _ | refine Below.setCell ?_ ?_ _ | refine Below.drew ?_)); all_goals ((try simp only [World.size_alloc]); omega))
  · by_cases h : b.2 ≤ a.1
    · have e : meet a b = (⟨#[]⟩, ⟨#[]⟩) := by simp [meet, mx, mn, h1, h2, h]
      rw [e]
      clear e
      go_enter Try.func36, Try.ntmps36
      go_wp2
      refine bodyPost_ret (v := .agg #[.string ⟨#[]⟩, .string ⟨#[]⟩]) (by simp [results, Try.results36, go_sem]) rfl ⟨rfl, ?_⟩
      ((repeat' (first | exact Below.refl _ _ | refine Below.alloc ?_ ?_ _ | refine Below.setCell ?_ ?_ _ | refine Below.drew ?_)); all_goals ((try simp only [World.size_alloc]); omega))
    · have e : meet a b = (a.1, b.2) := by simp [meet, mx, mn, h1, h2, h]
      rw [e]
      clear e
      go_enter Try.func36, Try.ntmps36
      go_wp2
      refine bodyPost_ret (v := .agg #[.string a.1, .string b.2]) (by simp [results, Try.results36, go_sem]) rfl ⟨rfl, ?_⟩
      ((repeat' (first | exact Below.refl _ _ | refine Below.alloc ?_ ?_ _ | refine Below.setCell ?_ ?_ _ | refine Below.drew ?_)); all_goals ((try simp only [World.size_alloc]); omega))
  · by_cases h : a.2 ≤ a.1
    · have e : meet a b = (⟨#[]⟩, ⟨#[]⟩) := by simp [meet, mx, mn, h1, h2, h]
      rw [e]
      clear e
      go_enter Try.func36, Try.ntmps36
      go_wp2
      refine bodyPost_ret (v := .agg #[.string ⟨#[]⟩, .string ⟨#[]⟩]) (by simp [results, Try.results36, go_sem]) rfl ⟨rfl, ?_⟩
      ((repeat' (first | exact Below.refl _ _ | refine Below.alloc ?_ ?_ _ | refine Below.setCell ?_ ?_ _ | refine Below.drew ?_)); all_goals ((try simp only [World.size_alloc]); omega))
    · have e : meet a b = (a.1, a.2) := by simp [meet, mx, mn, h1, h2, h]
      rw [e]
      clear e
      go_enter Try.func36, Try.ntmps36
      go_wp2
      refine bodyPost_ret (v := .agg #[.string a.1, .string a.2]) (by simp [results, Try.results36, go_sem]) rfl ⟨rfl, ?_⟩
      ((repeat' (first | exact Below.refl _ _ | refine Below.alloc ?_ ?_ _ | refine Below.setCell ?_ ?_ _ | refine Below.drew ?_)); all_goals ((try simp only [World.size_alloc]); omega))
end Go.Proofs.Yteelnholmlabmaa


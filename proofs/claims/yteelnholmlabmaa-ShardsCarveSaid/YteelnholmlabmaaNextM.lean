/- The key just behind a key: nothing lies between. -/
import Derived.Test.YteelnholmlabmaaKeys
namespace Go.Proofs.Yteelnholmlabmaa

theorem lists_gt : ∀ l : List UInt8, l < l ++ [0]
  | [] => by decide
  | a :: l => by
    have := lists_gt l
    exact List.Lex.cons this
theorem lists_gap : ∀ l m : List UInt8, m ≤ l ∨ l ++ [0] ≤ m
  | [], [] => .inl (by decide)
  | [], b :: m => .inr (by
      show ¬ (b :: m : List UInt8) < [0]
      intro h
      cases h with
      | rel h => exact absurd h (by simp [UInt8.lt_iff_toNat_lt])
      | cons h => cases h)
  | a :: l, [] => .inl (by show ¬ (a :: l : List UInt8) < []; intro h; cases h)
  | a :: l, b :: m => by
    rcases Nat.lt_trichotomy b.toNat a.toNat with h | h | h
    · exact .inl (Std.le_of_lt (List.Lex.rel (UInt8.lt_iff_toNat_lt.2 h)))
    · obtain rfl : b = a := UInt8.toNat_inj.1 h
      rcases lists_gap l m with h1 | h1
      · refine .inl ?_
        show ¬ (b :: l : List UInt8) < b :: m
        intro h2
        cases h2 with
        | rel h => exact absurd h (by simp)
        | cons h => exact h1 h
      · refine .inr ?_
        show ¬ (b :: m : List UInt8) < b :: (l ++ [0])
        intro h2
        cases h2 with
        | rel h => exact absurd h (by simp)
        | cons h => exact h1 h
    · exact .inr (Std.le_of_lt (List.Lex.rel (UInt8.lt_iff_toNat_lt.2 h)))
theorem next_data (k : K) : (k ++ ⟨#[0]⟩ : K).data.toList = k.data.toList ++ [0] := by simp
theorem next_gt (k : K) : k < k ++ ⟨#[0]⟩ := by
  show k.data.toList < (k ++ ⟨#[0]⟩ : K).data.toList
  rw [next_data]; exact lists_gt _
theorem next_gap (k m : K) : m ≤ k ∨ k ++ ⟨#[0]⟩ ≤ m := by
  show m.data.toList ≤ k.data.toList ∨ (k ++ ⟨#[0]⟩ : K).data.toList ≤ m.data.toList
  rw [next_data]; exact lists_gap _ _

theorem next_only (a k : K) : (a ≤ k ∧ k < a ++ ⟨#[0]⟩) ↔ k = a := by
  have h1 := next_gt a
  have h2 := next_gap a k
  constructor
  · rintro ⟨h3, h4⟩
    rcases h2 with h | h <;> grind
  · rintro rfl
    exact ⟨Std.IsPreorder.le_refl _, h1⟩
end Go.Proofs.Yteelnholmlabmaa

/- What the small functions of span and cmp answer at this seat. -/
import Derived.Test.YtpfhkijnaiopoaaPRi
namespace Go.Proofs.Ytpfhkijnaiopoaa
open Go.RowKit
attribute [local go_sem] less_eq same_eq le_eq ge_eq gt_eq

/-- cmp.Compare at texts -/
def cmpKey (a b : K) : Int := if a < b then -1 else if b < a then 1 else 0
set_option maxHeartbeats 400000 in
theorem compare_any (a b : K) (w : World) : Calls Try.prog 53 #[.string a, .string b] w fun e w' => e = .returned (.int .i64 (cmpKey a b)) ∧ w' = w := by
  by_cases h1 : a < b
  · go_enter Try.func53, Try.ntmps53
    go_wp2
    go_ret
    exact ⟨by simp [cmpKey, h1], rfl⟩
  · by_cases h2 : a = b
    · subst h2
      go_enter Try.func53, Try.ntmps53
      go_wp2
      go_ret
      exact ⟨by simp [cmpKey, h1], rfl⟩
    · have h3 : b < a := by grind
      go_enter Try.func53, Try.ntmps53
      go_wp2
      go_ret
      exact ⟨by simp [cmpKey, h1, h3], rfl⟩

set_option maxHeartbeats 400000 in
theorem next_any (k : K) (w : World) (hk : k.size < 9223372036854775807) : Calls Try.prog 67 #[.string k] w fun e w' => e = .returned (.string (k ++ ⟨#[0]⟩)) ∧ w' = w := by
  go_enter Try.func67, Try.ntmps67
  go_wp2
  go_ret
  exact ⟨rfl, rfl⟩

set_option maxHeartbeats 400000 in
theorem phas_any (s : K × K) (k : K) (w : World) : Calls Try.prog 43 #[.agg #[.string s.1, .string s.2], .string k] w fun e w' => e = .returned (.bool (hasB s k)) ∧ Below w.heap.size w w' := by
  unfold hasB
  by_cases h : s.1 ≤ k
  all_goals
    go_enter Try.func43, Try.ntmps43
    go_wp2
    go_ret
    exact ⟨by simp [h], (Below.refl _ _).alloc (Nat.le_refl _) _⟩
end Go.Proofs.Ytpfhkijnaiopoaa

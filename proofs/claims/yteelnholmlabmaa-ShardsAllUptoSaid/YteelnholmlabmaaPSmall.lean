/- What the small functions of the span layer answer: contracts, each for every argument and every world. -/
import Derived.Test.YteelnholmlabmaaSmall
namespace Go.Proofs.Yteelnholmlabmaa
open Go.RowKit
attribute [local go_sem] less_eq same_eq le_eq ge_eq gt_eq

set_option maxHeartbeats 400000 in
theorem empty_any (s : K × K) (w : World) : Calls Try.prog 44 #[.agg #[.string s.1, .string s.2]] w fun e w' => e = .returned (.bool (decide (s.2 ≤ s.1))) ∧ Below w.heap.size w w' := by
  go_enter Try.func44, Try.ntmps44
  go_wp2
  go_ret
  exact ⟨rfl, (Below.refl _ _).alloc (Nat.le_refl _) _⟩

/-- cmp.Compare at texts -/
def cmpKey (a b : K) : Int := if a < b then -1 else if b < a then 1 else 0
set_option maxHeartbeats 400000 in
theorem next_any (k : K) (w : World) (hk : k.size < 9223372036854775807) : Calls Try.prog 63 #[.string k] w fun e w' => e = .returned (.string (k ++ ⟨#[0]⟩)) ∧ w' = w := by
  go_enter Try.func63, Try.ntmps63
  go_wp2
  go_ret
  exact ⟨rfl, rfl⟩

set_option maxHeartbeats 400000 in
theorem meet_any (a b : K × K) (w : World) : Calls Try.prog 42 #[.agg #[.string a.1, .string a.2], .agg #[.string b.1, .string b.2]] w fun e w' => e = .returned (spv (meet a b)) ∧ Below w.heap.size w w' := by
  have hmax := fun (w : World) (ts : Array TypeId) (t : TypeId) (x y : ByteArray) => (Lib.run_max_strs (P := Try.prog) w ts t x y)
  have hmin := fun (w : World) (ts : Array TypeId) (t : TypeId) (x y : ByteArray) => (Lib.run_min_strs (P := Try.prog) w ts t x y)
  simp only [maxS_eq, minS_eq] at hmax hmin
  by_cases h : mn a.2 b.2 ≤ mx a.1 b.1
  · have e : meet a b = (⟨#[]⟩, ⟨#[]⟩) := by rw [meet, if_pos h]
    rw [e]
    go_enter Try.func42, Try.ntmps42
    go_wp2
    refine bodyPost_ret (v := .agg #[.string ⟨#[]⟩, .string ⟨#[]⟩]) (by simp [results, Try.results42, go_sem]) rfl ⟨rfl, ?_⟩
    ((repeat' (first | exact Below.refl _ _ | refine Below.alloc ?_ ?_ _ | refine Below.setCell ?_ ?_ _ | refine Below.drew ?_)); all_goals ((try simp only [World.size_alloc]); omega))
  · have e : meet a b = (mx a.1 b.1, mn a.2 b.2) := by rw [meet, if_neg h]
    rw [e]
    go_enter Try.func42, Try.ntmps42
    go_wp2
    refine bodyPost_ret (v := .agg #[.string (mx a.1 b.1), .string (mn a.2 b.2)]) (by simp [results, Try.results42, go_sem]) rfl ⟨rfl, ?_⟩
    ((repeat' (first | exact Below.refl _ _ | refine Below.alloc ?_ ?_ _ | refine Below.setCell ?_ ?_ _ | refine Below.drew ?_)); all_goals ((try simp only [World.size_alloc]); omega))

end Go.Proofs.Yteelnholmlabmaa

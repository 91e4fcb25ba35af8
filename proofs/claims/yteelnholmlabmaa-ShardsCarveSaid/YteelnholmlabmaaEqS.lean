/- Two spans compared. -/
import Derived.Test.YteelnholmlabmaaChg
import Derived.Laws.StructEq
namespace Go.Proofs.Yteelnholmlabmaa
open Go.RowKit
attribute [local go_sem] less_eq same_eq le_eq ge_eq gt_eq

theorem span_guard : Try.prog.eqGuardType Try.prog.depth 31 = false := by kernel_rfl
set_option maxRecDepth 100000 in
theorem eql_span (a b c d : K) (W : World) : (binOp .eql 31 (.agg #[.string a, .string b]) (.agg #[.string c, .string d])).run Try.prog W = .ok (.bool (decide (a = c) && decide (b = d))) W := by
  have hS : Try.prog.underlying 31 = some (.struct (Try.prog.fieldsOf 31)) := by kernel_rfl
  have hp : Try.prog.stoodInHeld 31 = false := by kernel_rfl
  have u0 := Try.underlying9
  have ag0 := Try.isAgg9
  have sz0 := Try.sizeOf9
  rw [run_eql_struct, show (10000 : Nat) = 9999 + 1 from rfl, run_equalIn_agg W 9999 31 _ _ hS hp]
  simp only [Program.fieldsOf, Try.underlying31]
  go_simp
  by_cases h1 : a = c <;> by_cases h2 : b = d <;> simp [h1, h2]
set_option maxRecDepth 100000 in
theorem neq_span (a b c d : K) (W : World) : (binOp .neq 31 (.agg #[.string a, .string b]) (.agg #[.string c, .string d])).run Try.prog W = .ok (.bool (!(decide (a = c) && decide (b = d)))) W := by
  have h := eql_span a b c d W
  rw [run_eql_struct] at h
  rw [run_neq_struct]
  cases hr : (Op.equalIn 10000 31 (.agg #[.string a, .string b]) (.agg #[.string c, .string d])).run Try.prog W with
  | ok x w' => rw [hr] at h; simp only [Result.andThen] at h ⊢; injection h with h1 h2; subst h2; injection h1 with h1; rw [h1]
  | halt x w' => rw [hr] at h; simp [Result.andThen] at h
end Go.Proofs.Yteelnholmlabmaa

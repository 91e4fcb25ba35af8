/- BallotLess is true for every input, and leaves its arguments as they were. No condition. -/
import Derived.Test.YtjmojlhebjbgaaaFal
import Derived.Deep.CondSized
import Derived.JoinedCond
import Derived.Test.YtjmojlhebjbgaaaLawVL
namespace Go.Proofs.Ytjmojlhebjbgaaa
open Go.ChangeShapes Go.WideShapes Go.ChangeAt Go.RowKit Go.Joins

set_option maxRecDepth 100000 in
theorem ballotLess_lifted (os : Os) (started : os.Started) (H : Type) (enc : TypeId × Value → H) :
    ReturnsInHanded {} Try.checked os 3 .any (Rows.ballotLessSpec.pre6 enc Try.prog Try.f3 Rows.ballotLessRow.domain false) (Rows.ballotLessSpec.post enc Try.prog Try.f3 false true false false) := by
  refine law_lifted os started H enc (by kernel_rfl) Try.func3
    (ChangeSpec.witness6 (enc := enc) (C := Try.checked) false ⟨#[], #[.agg #[.int .i64 0, .int .i64 0], .agg #[.int .i64 0, .int .i64 0], .agg #[.int .i64 0, .int .i64 0]], []⟩ 8 (by kernel_rfl) (by kernel_rfl) (by kernel_rfl) (by kernel_rfl)) (by kernel_rfl) rfl rfl
    (fun ds h => by match ds, h with | [a, b, c], _ => rfl) ?_
  intro W base args ds p hval0 hA0 hlt hsz0
  have hval : ∀ (j : Nat) t v, Try.f3.params[j]? = some t → args[j]? = some v → Value.okWide Try.prog W .any base t v := hval0
  have hA := hA0
  have hsz := hsz0
  rw [Try.params3] at hA hval hsz
  obtain ⟨v0, v1, v2, d0, d1, d2, p0, p1, p2, rfl, rfl, rfl, h0, h1, h2⟩ := trodAll_three hA
  obtain ⟨b0, rfl⟩ := open_bal (hval 0 23 v0 rfl rfl) h0
  obtain ⟨b1, rfl⟩ := open_bal (hval 1 23 v1 rfl rfl) h1
  obtain ⟨b2, rfl⟩ := open_bal (hval 2 23 v2 rfl rfl) h2
  exact ballotLess_walk b0 b1 b2 W

set_option maxRecDepth 100000 in
theorem ballotLess_holds : Rows.BallotLessSaid :=
  OpenClaim.holds_of_wide 3 Try.f3 rfl rfl rfl rfl rfl rfl rfl ⟨rfl, rfl, rfl, rfl, rfl⟩ rfl rfl rfl rfl rfl (by kernel_rfl) Try.func3 (by kernel_rfl)
    (of_decide_eq_true (by kernel_rfl)) (by unfold Func.isWrapper; rw [if_neg (by decide +kernel)]; exact ⟨rfl, rfl⟩)
    (fun os started H enc _ => ballotLess_lifted os started H enc)

#print axioms ballotLess_holds
end Go.Proofs.Ytjmojlhebjbgaaa

/- BallotCodes is true for every input, and leaves its arguments as they were. No condition. -/
import Derived.Test.YtjmojlhebjbgaaaFal
import Derived.Deep.CondSized
import Derived.JoinedCond
import Derived.Test.YtjmojlhebjbgaaaLawVC
namespace Go.Proofs.Ytjmojlhebjbgaaa
open Go.ChangeShapes Go.WideShapes Go.ChangeAt Go.RowKit Go.Joins

set_option maxRecDepth 100000 in
theorem ballotCodes_lifted (os : Os) (started : os.Started) (H : Type) (enc : TypeId × Value → H) :
    ReturnsInHanded {} Try.checked os 6 .any (Rows.ballotCodesSpec.pre6 enc Try.prog Try.f6 Rows.ballotCodesRow.domain false) (Rows.ballotCodesSpec.post enc Try.prog Try.f6 false true false false) := by
  refine law_lifted os started H enc (by kernel_rfl) Try.func6
    (ChangeSpec.witness6 (enc := enc) (C := Try.checked) false ⟨#[], #[.agg #[.int .i64 0, .int .i64 0, .int .i64 0, .int .i64 0, .int .i64 0, .int .i64 0, .int .i64 0, .slice none 0 0], .slice none 0 0], []⟩ 8 (by kernel_rfl) (by kernel_rfl) (by kernel_rfl) (by kernel_rfl)) (by kernel_rfl) rfl rfl
    (fun ds h => by match ds, h with | [a, b], _ => rfl) ?_
  intro W base args ds p hval0 hA0 hlt hsz0
  have hval : ∀ (j : Nat) t v, Try.f6.params[j]? = some t → args[j]? = some v → Value.okWide Try.prog W .any base t v := hval0
  have hA := hA0
  have hsz := hsz0
  rw [Try.params6] at hA hval hsz
  obtain ⟨v0, v1, d0, d1, p0, p1, rfl, rfl, rfl, h0, h1⟩ := trodAll_two hA
  obtain ⟨y0, x0, rfl, hr0, hf0, hl0⟩ := open_vow (hval 0 31 v0 rfl rfl) h0 (weights_all hsz (j := 0) rfl rfl)
  obtain ⟨l1, hr1, hz1⟩ := open_bytes (hval 1 42 v1 rfl rfl) h1
  have hl1 := hz1.reach hsz (j := 1) rfl rfl
  exact ballotCodes_walk y0 hf0 l1 x0 v1 W hr0 hr1 hl0 (by omega)

set_option maxRecDepth 100000 in
theorem ballotCodes_holds : Rows.BallotCodesSaid :=
  OpenClaim.holds_of_wide 6 Try.f6 rfl rfl rfl rfl rfl rfl rfl ⟨rfl, rfl, rfl, rfl, rfl⟩ rfl rfl rfl rfl rfl (by kernel_rfl) Try.func6 (by kernel_rfl)
    (of_decide_eq_true (by kernel_rfl)) (by unfold Func.isWrapper; rw [if_neg (by decide +kernel)]; exact ⟨rfl, rfl⟩)
    (fun os started H enc _ => ballotCodes_lifted os started H enc)

#print axioms ballotCodes_holds
end Go.Proofs.Ytjmojlhebjbgaaa

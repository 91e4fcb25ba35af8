/- BallotVows is true for every input, and leaves its arguments as they were. No condition. -/
import Derived.Test.YtjmojlhebjbgaaaFal
import Derived.Deep.CondSized
import Derived.JoinedCond
import Derived.Test.YtjmojlhebjbgaaaLawVV
namespace Go.Proofs.Ytjmojlhebjbgaaa
open Go.ChangeShapes Go.WideShapes Go.ChangeAt Go.RowKit Go.Joins

set_option maxRecDepth 100000 in
theorem ballotVows_lifted (os : Os) (started : os.Started) (H : Type) (enc : TypeId × Value → H) :
    ReturnsInHanded {} Try.checked os 4 .any (Rows.ballotVowsSpec.pre6 enc Try.prog Try.f4 Rows.ballotVowsRow.domain false) (Rows.ballotVowsSpec.post enc Try.prog Try.f4 false true false false) := by
  refine law_lifted os started H enc (by kernel_rfl) Try.func4
    (ChangeSpec.witness6 (enc := enc) (C := Try.checked) false ⟨#[], #[.agg #[.int .i64 0, .int .i64 0, .int .i64 0, .int .i64 0, .int .i64 0, .int .i64 0, .int .i64 0, .slice none 0 0], .agg #[.int .i64 0, .int .i64 0], .agg #[.int .i64 0, .int .i64 0, .int .i64 0, .slice none 0 0]], []⟩ 8 (by kernel_rfl) (by kernel_rfl) (by kernel_rfl) (by kernel_rfl)) (by kernel_rfl) rfl rfl
    (fun ds h => by match ds, h with | [a, b, c], _ => rfl) ?_
  intro W base args ds p hval0 hA0 hlt hsz0
  have hval : ∀ (j : Nat) t v, Try.f4.params[j]? = some t → args[j]? = some v → Value.okWide Try.prog W .any base t v := hval0
  have hA := hA0
  have hsz := hsz0
  rw [Try.params4] at hA hval hsz
  obtain ⟨v0, v1, v2, d0, d1, d2, p0, p1, p2, rfl, rfl, rfl, h0, h1, h2⟩ := trodAll_three hA
  obtain ⟨y0, x0, rfl, hr0, hf0, hl0⟩ := open_vow (hval 0 31 v0 rfl rfl) h0 (weights_all hsz (j := 0) rfl rfl)
  obtain ⟨b1, rfl⟩ := open_bal (hval 1 23 v1 rfl rfl) h1
  obtain ⟨s2, x2, rfl, hr2, hf2, hl2⟩ := open_sta (hval 2 29 v2 rfl rfl) h2 (weights_all hsz (j := 2) rfl rfl)
  exact ballotVows_walk y0 b1 s2 x0 x2 W hr0 hr2 hl0 hl2

set_option maxRecDepth 100000 in
theorem ballotVows_holds : Rows.BallotVowsSaid :=
  OpenClaim.holds_of_wide 4 Try.f4 rfl rfl rfl rfl rfl rfl rfl ⟨rfl, rfl, rfl, rfl, rfl⟩ rfl rfl rfl rfl rfl (by kernel_rfl) Try.func4 (by kernel_rfl)
    (of_decide_eq_true (by kernel_rfl)) (by unfold Func.isWrapper; rw [if_neg (by decide +kernel)]; exact ⟨rfl, rfl⟩)
    (fun os started H enc _ => ballotVows_lifted os started H enc)

#print axioms ballotVows_holds
end Go.Proofs.Ytjmojlhebjbgaaa

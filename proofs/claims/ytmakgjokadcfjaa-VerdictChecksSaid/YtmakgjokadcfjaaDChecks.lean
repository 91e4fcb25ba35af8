/- VerdictChecks is true for every input, and leaves its arguments as they were. No condition. -/
import Derived.Test.YtmakgjokadcfjaaFac
import Derived.Deep.CondSized
import Derived.JoinedCond
import Derived.Test.YtmakgjokadcfjaaLawDC
namespace Go.Proofs.Ytmakgjokadcfjaa
open Go.ChangeShapes Go.WideShapes Go.ChangeAt Go.RowKit Go.Joins

set_option maxRecDepth 100000 in
theorem verdictChecks_lifted (os : Os) (started : os.Started) (H : Type) (enc : TypeId × Value → H) :
    ReturnsInHanded {} Try.checked os 4 .any (Rows.verdictChecksSpec.pre6 enc Try.prog Try.f4 Rows.verdictChecksRow.domain false) (Rows.verdictChecksSpec.post enc Try.prog Try.f4 false true false false) := by
  refine law_lifted os started H enc (by kernel_rfl) Try.func4
    (ChangeSpec.witness6 (enc := enc) (C := Try.checked) false ⟨#[], #[.agg #[.int .i64 0, .slice none 0 0, .slice none 0 0]], []⟩ 8 (by kernel_rfl) (by kernel_rfl) (by kernel_rfl) (by kernel_rfl)) (by kernel_rfl) rfl rfl
    (fun ds h => by match ds, h with | [a], _ => rfl) ?_
  intro W base args ds p hval0 hA0 hlt hsz0
  have hval : ∀ (j : Nat) t v, Try.f4.params[j]? = some t → args[j]? = some v → Value.okWide Try.prog W .any base t v := hval0
  have hA := hA0
  have hsz := hsz0
  rw [Try.params4] at hA hval hsz
  obtain ⟨v0, d0, rfl, rfl, h0⟩ := trodAll_one hA
  obtain ⟨t0, x0, y0, rfl, hp0, hc0, hf0, hi0⟩ := open_txn (hval 0 34 v0 rfl rfl) h0 (weights_all hsz (j := 0) rfl rfl)
  exact verdictChecks_walk t0 hf0 hi0 x0 y0 W hp0 hc0

set_option maxRecDepth 100000 in
theorem verdictChecks_holds : Rows.VerdictChecksSaid :=
  OpenClaim.holds_of_wide 4 Try.f4 rfl rfl rfl rfl rfl rfl rfl ⟨rfl, rfl, rfl, rfl, rfl⟩ rfl rfl rfl rfl rfl (by kernel_rfl) Try.func4 (by kernel_rfl)
    (of_decide_eq_true (by kernel_rfl)) (by unfold Func.isWrapper; rw [if_neg (by decide +kernel)]; exact ⟨rfl, rfl⟩)
    (fun os started H enc _ => verdictChecks_lifted os started H enc)

#print axioms verdictChecks_holds
end Go.Proofs.Ytmakgjokadcfjaa

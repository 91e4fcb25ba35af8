/- VerdictPicks is true for every input, and leaves its arguments as they were. No condition. -/
import Derived.Test.YtmakgjokadcfjaaFac
import Derived.Deep.CondSized
import Derived.JoinedCond
import Derived.Test.YtmakgjokadcfjaaLawDP
namespace Go.Proofs.Ytmakgjokadcfjaa
open Go.ChangeShapes Go.WideShapes Go.ChangeAt Go.RowKit Go.Joins

set_option maxRecDepth 100000 in
theorem verdictPicks_lifted (os : Os) (started : os.Started) (H : Type) (enc : TypeId × Value → H) :
    ReturnsInHanded {} Try.checked os 5 .any (Rows.verdictPicksSpec.pre6 enc Try.prog Try.f5 Rows.verdictPicksRow.domain false) (Rows.verdictPicksSpec.post enc Try.prog Try.f5 false true false false) := by
  refine law_lifted os started H enc (by kernel_rfl) Try.func5
    (ChangeSpec.witness6 (enc := enc) (C := Try.checked) false ⟨#[], #[.slice none 0 0, .slice none 0 0], []⟩ 8 (by kernel_rfl) (by kernel_rfl) (by kernel_rfl) (by kernel_rfl)) (by kernel_rfl) rfl rfl
    (fun ds h => by match ds, h with | [a, b], _ => rfl) ?_
  intro W base args ds p hval0 hA0 hlt hsz0
  have hval : ∀ (j : Nat) t v, Try.f5.params[j]? = some t → args[j]? = some v → Value.okWide Try.prog W .any base t v := hval0
  have hA := hA0
  have hsz := hsz0
  rw [Try.params5] at hA hval hsz
  obtain ⟨v0, v1, d0, d1, p0, p1, rfl, rfl, rfl, h0, h1⟩ := trodAll_two hA
  obtain ⟨l0, hr0⟩ := open_txs (hval 0 37 v0 rfl rfl) h0 (weights_all hsz (j := 0) rfl rfl)
  obtain ⟨l1, hr1, hi1, hl1⟩ := open_vints (hval 1 23 v1 rfl rfl) h1 (weights_all hsz (j := 1) rfl rfl)
  exact verdictPicks_walk l0 l1 v0 v1 W hr0 hr1 hi1 hl1

set_option maxRecDepth 100000 in
theorem verdictPicks_holds : Rows.VerdictPicksSaid :=
  OpenClaim.holds_of_wide 5 Try.f5 rfl rfl rfl rfl rfl rfl rfl ⟨rfl, rfl, rfl, rfl, rfl⟩ rfl rfl rfl rfl rfl (by kernel_rfl) Try.func5 (by kernel_rfl)
    (of_decide_eq_true (by kernel_rfl)) (by unfold Func.isWrapper; rw [if_neg (by decide +kernel)]; exact ⟨rfl, rfl⟩)
    (fun os started H enc _ => verdictPicks_lifted os started H enc)

#print axioms verdictPicks_holds
end Go.Proofs.Ytmakgjokadcfjaa

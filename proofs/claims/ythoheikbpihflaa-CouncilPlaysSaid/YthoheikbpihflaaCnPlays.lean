/- CouncilPlays is true for every input, and leaves its arguments as they were. No condition. -/
import Derived.Test.YthoheikbpihflaaFap
import Derived.Deep.CondSized
import Derived.JoinedCond
import Derived.Test.YthoheikbpihflaaLawCnP
namespace Go.Proofs.Ythoheikbpihflaa
open Go.ChangeShapes Go.WideShapes Go.ChangeAt Go.RowKit Go.Joins

set_option maxRecDepth 100000 in
theorem councilPlays_lifted (os : Os) (started : os.Started) (H : Type) (enc : TypeId × Value → H) :
    ReturnsInHanded {} Try.checked os 3 .any (Rows.councilPlaysSpec.pre6 enc Try.prog Try.f3 Rows.councilPlaysRow.domain false) (Rows.councilPlaysSpec.post enc Try.prog Try.f3 false true false false) := by
  refine law_lifted os started H enc (by kernel_rfl) Try.func3
    (ChangeSpec.witness6 (enc := enc) (C := Try.checked) false ⟨#[], #[.slice none 0 0], []⟩ 8 (by kernel_rfl) (by kernel_rfl) (by kernel_rfl) (by kernel_rfl)) (by kernel_rfl) rfl rfl
    (fun ds h => by match ds, h with | [a], _ => rfl) ?_
  intro W base args ds p hval0 hA0 hlt hsz0
  have hval : ∀ (j : Nat) t v, Try.f3.params[j]? = some t → args[j]? = some v → Value.okWide Try.prog W .any base t v := hval0
  have hA := hA0
  have hsz := hsz0
  rw [Try.params3] at hA hval hsz
  obtain ⟨v0, d0, rfl, rfl, h0⟩ := trodAll_one hA
  obtain ⟨l0, hr0, hf0, hl0⟩ := open_acts (hval 0 22 v0 rfl rfl) h0 (weights_all hsz (j := 0) rfl rfl)
  exact councilPlays_walk l0 v0 W hr0 hf0 hl0

set_option maxRecDepth 100000 in
theorem councilPlays_holds : Rows.CouncilPlaysSaid :=
  OpenClaim.holds_of_wide 3 Try.f3 rfl rfl rfl rfl rfl rfl rfl ⟨rfl, rfl, rfl, rfl, rfl⟩ rfl rfl rfl rfl rfl (by kernel_rfl) Try.func3 (by kernel_rfl)
    (of_decide_eq_true (by kernel_rfl)) (by unfold Func.isWrapper; rw [if_neg (by decide +kernel)]; exact ⟨rfl, rfl⟩)
    (fun os started H enc _ => councilPlays_lifted os started H enc)

#print axioms councilPlays_holds
end Go.Proofs.Ythoheikbpihflaa

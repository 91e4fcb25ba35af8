/- RefereePlays is true for every input, and leaves its arguments as they were. No condition. -/
import Derived.Test.YtgppgecglkellaaGreatFar
import Derived.Deep.CondSized
import Derived.JoinedCond
import Derived.Test.YtgppgecglkellaaGreatLawRP
import Derived.Test.YtgppgecglkellaaGreatFat
namespace Go.Proofs.YtgppgecglkellaaGreat
open Go.ChangeShapes Go.WideShapes Go.ChangeAt Go.RowKit Go.Joins

set_option maxRecDepth 100000 in
theorem refereePlays_lifted (os : Os) (started : os.Started) (H : Type) (enc : TypeId × Value → H) :
    ReturnsInHanded {} Tryz.checked os 3 .any (Rows.refereePlaysSpec.pre6 enc Tryz.prog Tryz.f3 Rows.refereePlaysRow.domain false) (Rows.refereePlaysSpec.post enc Tryz.prog Tryz.f3 false true false false) := by
  refine law_lifted os started H enc (by kernel_rfl) Tryz.func3
    (ChangeSpec.witness6 (enc := enc) (C := Tryz.checked) false ⟨#[], #[.slice none 0 0], []⟩ 8 (by kernel_rfl) (by kernel_rfl) (by kernel_rfl) (by kernel_rfl)) (by kernel_rfl) rfl rfl
    (fun ds h => by match ds, h with | [a], _ => rfl) ?_
  intro W base args ds p hval0 hA0 hlt hsz0
  have hval : ∀ (j : Nat) t v, Tryz.f3.params[j]? = some t → args[j]? = some v → Value.okWide Tryz.prog W .any base t v := hval0
  have hA := hA0
  have hsz := hsz0
  rw [Tryz.params3] at hA hval hsz
  obtain ⟨v0, d0, rfl, rfl, h0⟩ := trodAll_one hA
  obtain ⟨l0, hr0, hl0, hi0⟩ := open_racts (hval 0 22 v0 rfl rfl) h0 (weights_all hsz (j := 0) rfl rfl)
  exact refereePlays_walk l0 v0 W hr0 hl0 hi0

set_option maxRecDepth 100000 in
theorem refereePlays_holds : Rows.RefereePlaysSaid :=
  OpenClaim.holds_of_wide 3 Tryz.f3 rfl rfl rfl rfl rfl rfl rfl ⟨rfl, rfl, rfl, rfl, rfl⟩ rfl rfl rfl rfl rfl (by kernel_rfl) Tryz.func3 (by kernel_rfl)
    (of_decide_eq_true (by kernel_rfl)) (by unfold Func.isWrapper; rw [if_neg (by decide +kernel)]; exact ⟨rfl, rfl⟩)
    (fun os started H enc _ => refereePlays_lifted os started H enc)

#print axioms refereePlays_holds
end Go.Proofs.YtgppgecglkellaaGreat

/- ClockOnce is true for every input, and leaves its arguments as they were. No condition. -/
import Derived.Test.YtcigodaacdfagaaCkOpen
import Derived.Deep.CondSized
import Derived.JoinedCond
import Derived.Test.YtcigodaacdfagaaLawCO
namespace Go.Proofs.Ytcigodaacdfagaa
open Go.ChangeShapes Go.WideShapes Go.ChangeAt Go.RowKit Go.Joins

set_option maxRecDepth 100000 in
theorem clockOnce_lifted (os : Os) (started : os.Started) (H : Type) (enc : TypeId × Value → H) :
    ReturnsInHanded {} Try.checked os 4 .any (Rows.clockOnceSpec.pre6 enc Try.prog Try.f4 Rows.clockOnceRow.domain false) (Rows.clockOnceSpec.post enc Try.prog Try.f4 false true false false) := by
  refine law_lifted os started H enc (by kernel_rfl) Try.func4
    (ChangeSpec.witness6 (enc := enc) (C := Try.checked) false ⟨#[], #[.slice none 0 0, .slice none 0 0], []⟩ 8 (by kernel_rfl) (by kernel_rfl) (by kernel_rfl) (by kernel_rfl)) (by kernel_rfl) rfl rfl
    (fun ds h => by match ds, h with | [a, b], _ => rfl) ?_
  intro W base args ds p hval0 hA0 hlt hsz0
  have hval : ∀ (j : Nat) t v, Try.f4.params[j]? = some t → args[j]? = some v → Value.okWide Try.prog W .any base t v := hval0
  have hA := hA0
  have hsz := hsz0
  rw [Try.params4] at hA hval hsz
  obtain ⟨v0, v1, d0, d1, p0, p1, rfl, rfl, rfl, h0, h1⟩ := trodAll_two hA
  obtain ⟨l0, hr0, hl0, hi0⟩ := open_u16s (hval 0 41 v0 rfl rfl) h0 (weights_all hsz (j := 0) rfl rfl)
  obtain ⟨l1, hr1, hl1, hi1⟩ := open_u16s (hval 1 41 v1 rfl rfl) h1 (weights_all hsz (j := 1) rfl rfl)
  exact clockOnce_walk l0 l1 v0 v1 W hr0 hr1 hi0 hi1 hl0 hl1

set_option maxRecDepth 100000 in
theorem clockOnce_holds : Rows.ClockOnceSaid :=
  OpenClaim.holds_of_wide 4 Try.f4 rfl rfl rfl rfl rfl rfl rfl ⟨rfl, rfl, rfl, rfl, rfl⟩ rfl rfl rfl rfl rfl (by kernel_rfl) Try.func4 (by kernel_rfl)
    (of_decide_eq_true (by kernel_rfl)) (by unfold Func.isWrapper; rw [if_neg (by decide +kernel)]; exact ⟨rfl, rfl⟩)
    (fun os started H enc _ => clockOnce_lifted os started H enc)

#print axioms clockOnce_holds
end Go.Proofs.Ytcigodaacdfagaa

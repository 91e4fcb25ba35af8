/- FrameStates is true for every input, and leaves its arguments as they were. No condition. -/
import Derived.Test.YtiijcikdlemndaaOpenF
import Derived.Deep.CondSized
import Derived.JoinedCond
import Derived.Test.YtiijcikdlemndaaLawSt
namespace Go.Proofs.Ytiijcikdlemndaa
open Go.ChangeShapes Go.WideShapes Go.ChangeAt Go.RowKit Go.Joins

set_option maxRecDepth 100000 in
theorem frameStates_lifted (os : Os) (started : os.Started) (H : Type) (enc : TypeId × Value → H) :
    ReturnsInHanded {} Try.checked os 6 .any (Rows.frameStatesSpec.pre6 enc Try.prog Try.f6 Rows.frameStatesRow.domain false) (Rows.frameStatesSpec.post enc Try.prog Try.f6 false true false false) := by
  refine law_lifted os started H enc (by kernel_rfl) Try.func6
    (ChangeSpec.witness6 (enc := enc) (C := Try.checked) false ⟨#[], #[.agg #[.int .i64 0, .int .i64 0, .int .i64 0, .slice none 0 0], .slice none 0 0], []⟩ 8 (by kernel_rfl) (by kernel_rfl) (by kernel_rfl) (by kernel_rfl)) (by kernel_rfl) rfl rfl
    (fun ds h => by match ds, h with | [a, b], _ => rfl) ?_
  intro W base args ds p hval0 hA0 hlt hsz0
  have hval : ∀ (j : Nat) t v, Try.f6.params[j]? = some t → args[j]? = some v → Value.okWide Try.prog W .any base t v := hval0
  have hA := hA0
  have hsz := hsz0
  rw [Try.params6] at hA hval hsz
  obtain ⟨v0, v1, d0, d1, p0, p1, rfl, rfl, rfl, h0, h1⟩ := trodAll_two hA
  obtain ⟨s0, x0, rfl, hr0, hf0, hl0⟩ := open_sta (hval 0 51 v0 rfl rfl) h0 (weights_all hsz (j := 0) rfl rfl)
  obtain ⟨l1, hr1, hz1⟩ := open_bytes (hval 1 22 v1 rfl rfl) h1
  have hl1 := hz1.reach hsz (j := 1) rfl rfl
  exact frameStates_walk s0 hf0 x0 l1 v1 W hr0 hl0 hr1 hl1

set_option maxRecDepth 100000 in
theorem frameStates_holds : Rows.FrameStatesSaid :=
  OpenClaim.holds_of_wide 6 Try.f6 rfl rfl rfl rfl rfl rfl rfl ⟨rfl, rfl, rfl, rfl, rfl⟩ rfl rfl rfl rfl rfl (by kernel_rfl) Try.func6 (by kernel_rfl)
    (of_decide_eq_true (by kernel_rfl)) (by unfold Func.isWrapper; rw [if_neg (by decide +kernel)]; exact ⟨rfl, rfl⟩)
    (fun os started H enc _ => frameStates_lifted os started H enc)

#print axioms frameStates_holds
end Go.Proofs.Ytiijcikdlemndaa

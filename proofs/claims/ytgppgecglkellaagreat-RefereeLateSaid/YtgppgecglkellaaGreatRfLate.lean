/- RefereeLate is true for every input, and leaves its arguments as they were. No condition. -/
import Derived.Test.YtgppgecglkellaaGreatFar
import Derived.Deep.CondSized
import Derived.JoinedCond
import Derived.Test.YtgppgecglkellaaGreatLawRL
namespace Go.Proofs.YtgppgecglkellaaGreat
open Go.ChangeShapes Go.WideShapes Go.ChangeAt Go.RowKit Go.Joins

set_option maxRecDepth 100000 in
theorem refereeLate_lifted (os : Os) (started : os.Started) (H : Type) (enc : TypeId × Value → H) :
    ReturnsInHanded {} Tryz.checked os 5 .any (Rows.refereeLateSpec.pre6 enc Tryz.prog Tryz.f5 Rows.refereeLateRow.domain false) (Rows.refereeLateSpec.post enc Tryz.prog Tryz.f5 false true false false) := by
  refine law_lifted os started H enc (by kernel_rfl) Tryz.func5
    (ChangeSpec.witness6 (enc := enc) (C := Tryz.checked) false ⟨#[], #[.int .u16 0, .agg #[.string ⟨#[]⟩, .string ⟨#[]⟩]], []⟩ 8 (by kernel_rfl) (by kernel_rfl) (by kernel_rfl) (by kernel_rfl)) (by kernel_rfl) rfl rfl
    (fun ds h => by match ds, h with | [a, b], _ => rfl) ?_
  intro W base args ds p hval0 hA0 hlt hsz0
  have hval : ∀ (j : Nat) t v, Tryz.f5.params[j]? = some t → args[j]? = some v → Value.okWide Tryz.prog W .any base t v := hval0
  have hA := hA0
  have hsz := hsz0
  rw [Tryz.params5] at hA hval hsz
  obtain ⟨v0, v1, d0, d1, p0, p1, rfl, rfl, rfl, h0, h1⟩ := trodAll_two hA
  obtain ⟨i0, rfl, rfl, rfl, hw0⟩ := open_int Tryz.underlying50 (hval 0 50 v0 rfl rfl) h0
  obtain ⟨n0, rfl, hn0⟩ := nat_of_wfu16 hw0
  obtain ⟨s1, rfl, hk1⟩ := open_span (hval 1 52 v1 rfl rfl) h1 (weights_all hsz (j := 1) rfl rfl)
  exact refereeLate_walk n0 hn0 s1 hk1 W

set_option maxRecDepth 100000 in
theorem refereeLate_holds : Rows.RefereeLateSaid :=
  OpenClaim.holds_of_wide 5 Tryz.f5 rfl rfl rfl rfl rfl rfl rfl ⟨rfl, rfl, rfl, rfl, rfl⟩ rfl rfl rfl rfl rfl (by kernel_rfl) Tryz.func5 (by kernel_rfl)
    (of_decide_eq_true (by kernel_rfl)) (by unfold Func.isWrapper; rw [if_neg (by decide +kernel)]; exact ⟨rfl, rfl⟩)
    (fun os started H enc _ => refereeLate_lifted os started H enc)

#print axioms refereeLate_holds
end Go.Proofs.YtgppgecglkellaaGreat

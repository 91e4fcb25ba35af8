/- MarksWrites is true for every input, and leaves its arguments as they were. No condition. -/
import Derived.Test.YtcmpbhcldaogiaaFah
import Derived.Deep.CondSized
import Derived.JoinedCond
import Derived.Test.YtcmpbhcldaogiaaLawMW
namespace Go.Proofs.Ytcmpbhcldaogiaa
open Go.ChangeShapes Go.WideShapes Go.ChangeAt Go.RowKit Go.Joins

set_option maxRecDepth 100000 in
theorem marksWrites_lifted (os : Os) (started : os.Started) (H : Type) (enc : TypeId × Value → H) :
    ReturnsInHanded {} Try.checked os 7 .any (Rows.marksWritesSpec.pre6 enc Try.prog Try.f7 Rows.marksWritesRow.domain false) (Rows.marksWritesSpec.post enc Try.prog Try.f7 false true false false) := by
  refine law_lifted os started H enc (by kernel_rfl) Try.func7
    (ChangeSpec.witness6 (enc := enc) (C := Try.checked) false ⟨#[], #[.slice none 0 0, .slice none 0 0, .agg #[.string ⟨#[]⟩, .string ⟨#[]⟩]], []⟩ 8 (by kernel_rfl) (by kernel_rfl) (by kernel_rfl) (by kernel_rfl)) (by kernel_rfl) rfl rfl
    (fun ds h => by match ds, h with | [a, b, c], _ => rfl) ?_
  intro W base args ds p hval0 hA0 hlt hsz0
  have hval : ∀ (j : Nat) t v, Try.f7.params[j]? = some t → args[j]? = some v → Value.okWide Try.prog W .any base t v := hval0
  have hA := hA0
  have hsz := hsz0
  rw [Try.params7] at hA hval hsz
  obtain ⟨v0, v1, v2, d0, d1, d2, p0, p1, p2, rfl, rfl, rfl, h0, h1, h2⟩ := trodAll_three hA
  obtain ⟨l0, hr0⟩ := open_mchgs (hval 0 30 v0 rfl rfl) h0 (weights_all hsz (j := 0) rfl rfl)
  obtain ⟨l1, hr1⟩ := open_mchgs (hval 1 30 v1 rfl rfl) h1 (weights_all hsz (j := 1) rfl rfl)
  obtain ⟨s2, rfl, hk2⟩ := open_span (hval 2 24 v2 rfl rfl) h2 (weights_all hsz (j := 2) rfl rfl)
  exact marksWrites_walk l0 l1 v0 v1 s2 W hr0 hr1

set_option maxRecDepth 100000 in
theorem marksWrites_holds : Rows.MarksWritesSaid :=
  OpenClaim.holds_of_wide 7 Try.f7 rfl rfl rfl rfl rfl rfl rfl ⟨rfl, rfl, rfl, rfl, rfl⟩ rfl rfl rfl rfl rfl (by kernel_rfl) Try.func7 (by kernel_rfl)
    (of_decide_eq_true (by kernel_rfl)) (by unfold Func.isWrapper; rw [if_neg (by decide +kernel)]; exact ⟨rfl, rfl⟩)
    (fun os started H enc _ => marksWrites_lifted os started H enc)

#print axioms marksWrites_holds
end Go.Proofs.Ytcmpbhcldaogiaa

/- ChangeCuts is true for every input, and leaves its arguments as they were. No condition. -/
import Derived.Test.YtdkdolcocblhkaaShut
import Derived.Test.YtdkdolcocblhkaaLawCuts
namespace Go.Proofs.Ytdkdolcocblhkaa
open Go.ChangeShapes Go.WideShapes Go.ChangeAt Go.RowKit Go.Joins

set_option maxRecDepth 100000 in
theorem changeCuts_lifted (os : Os) (started : os.Started) (H : Type) (enc : TypeId × Value → H) :
    ReturnsInHanded {} Try.checked os 7 .any (Rows.changeCutsSpec.pre6 enc Try.prog Try.f7 Rows.changeCutsRow.domain false) (Rows.changeCutsSpec.post enc Try.prog Try.f7 false true false false) := by
  refine law_lifted os started H enc (by kernel_rfl) Try.func7
    (ChangeSpec.witness6 (enc := enc) (C := Try.checked) false ⟨#[], #[.agg #[.string ⟨#[]⟩, .string ⟨#[]⟩], .slice none 0 0], []⟩ 8 (by kernel_rfl) (by kernel_rfl) (by kernel_rfl) (by kernel_rfl)) (by kernel_rfl) rfl rfl
    (fun ds h => by match ds, h with | [a, b], _ => rfl) ?_
  intro W base args ds p hval0 hA0 hlt hsz0
  have hval : ∀ (j : Nat) t v, Try.f7.params[j]? = some t → args[j]? = some v → Value.okWide Try.prog W .any base t v := hval0
  have hA := hA0
  have hsz := hsz0
  rw [Try.params7] at hA hval hsz
  obtain ⟨v0, v1, d0, d1, p0, p1, rfl, rfl, rfl, h0, h1⟩ := trodAll_two hA
  obtain ⟨s0, rfl, hk0, hv0⟩ := open_span (hval 0 48 v0 rfl rfl) h0 (weights_all hsz (j := 0) rfl rfl)
  obtain ⟨l1, hr1, hz1⟩ := open_chgs (hval 1 24 v1 rfl rfl) h1
  have hn1 := hz1.reachC hsz (j := 1) rfl rfl
  have hs1 := hz1.textsC hsz (j := 1) rfl rfl
  exact changeCuts_walk s0 l1 hk0 hv0 (small_of hs1) _ W hr1 (by omega)

set_option maxRecDepth 100000 in
theorem changeCuts_holds : Rows.ChangeCutsSaid :=
  OpenClaim.holds_of_wide 7 Try.f7 rfl rfl rfl rfl rfl rfl rfl ⟨rfl, rfl, rfl, rfl, rfl⟩ rfl rfl rfl rfl rfl (by kernel_rfl) Try.func7 (by kernel_rfl)
    (of_decide_eq_true (by kernel_rfl)) (by unfold Func.isWrapper; rw [if_neg (by decide +kernel)]; exact ⟨rfl, rfl⟩)
    (fun os started H enc _ => changeCuts_lifted os started H enc)

#print axioms changeCuts_holds
end Go.Proofs.Ytdkdolcocblhkaa

/- ChangeLeast is true for every input, and leaves its arguments as they were. No condition. -/
import Derived.Test.YtdkdolcocblhkaaShut
import Derived.Test.YtdkdolcocblhkaaLawLeast
namespace Go.Proofs.Ytdkdolcocblhkaa
open Go.ChangeShapes Go.WideShapes Go.ChangeAt Go.RowKit Go.Joins

set_option maxRecDepth 100000 in
theorem changeLeast_lifted (os : Os) (started : os.Started) (H : Type) (enc : TypeId × Value → H) :
    ReturnsInHanded {} Try.checked os 6 .any (Rows.changeLeastSpec.pre6 enc Try.prog Try.f6 Rows.changeLeastRow.domain false) (Rows.changeLeastSpec.post enc Try.prog Try.f6 false true false false) := by
  refine law_lifted os started H enc (by kernel_rfl) Try.func6
    (ChangeSpec.witness6 (enc := enc) (C := Try.checked) false ⟨#[], #[.slice none 0 0], []⟩ 8 (by kernel_rfl) (by kernel_rfl) (by kernel_rfl) (by kernel_rfl)) (by kernel_rfl) rfl rfl
    (fun ds h => by match ds, h with | [a], _ => rfl) ?_
  intro W base args ds p hval0 hA0 hlt hsz0
  have hval : ∀ (j : Nat) t v, Try.f6.params[j]? = some t → args[j]? = some v → Value.okWide Try.prog W .any base t v := hval0
  have hA := hA0
  have hsz := hsz0
  rw [Try.params6] at hA hval hsz
  obtain ⟨v0, d0, rfl, rfl, h0⟩ := trodAll_one hA
  obtain ⟨l0, hr0, hz0⟩ := open_chgs (hval 0 24 v0 rfl rfl) h0
  have hn0 := hz0.reachC hsz (j := 0) rfl rfl
  have hs0 := hz0.textsC hsz (j := 0) rfl rfl
  exact changeLeast_walk l0 (small_of hs0) _ W hr0 (by omega)

set_option maxRecDepth 100000 in
theorem changeLeast_holds : Rows.ChangeLeastSaid :=
  OpenClaim.holds_of_wide 6 Try.f6 rfl rfl rfl rfl rfl rfl rfl ⟨rfl, rfl, rfl, rfl, rfl⟩ rfl rfl rfl rfl rfl (by kernel_rfl) Try.func6 (by kernel_rfl)
    (of_decide_eq_true (by kernel_rfl)) (by unfold Func.isWrapper; rw [if_neg (by decide +kernel)]; exact ⟨rfl, rfl⟩)
    (fun os started H enc _ => changeLeast_lifted os started H enc)

#print axioms changeLeast_holds
end Go.Proofs.Ytdkdolcocblhkaa

/- CodeOnce is true for every input, and leaves its arguments as they were. No condition. -/
import Derived.Test.YtnjkceekiipobaaOpenB
import Derived.Test.YtnjkceekiipobaaInts
import Derived.Test.YtnjkceekiipobaaWf
import Derived.Carry
import Derived.Test.YtnjkceekiipobaaLawOnce
namespace Go.Proofs.Ytnjkceekiipobaa
open Go.ChangeShapes Go.WideShapes Go.ChangeAt Go.RowKit Go.Joins

set_option maxRecDepth 100000 in
theorem codeOnce_lifted (os : Os) (started : os.Started) (H : Type) (enc : TypeId × Value → H) :
    ReturnsInHanded {} Try.checked os 7 .any (Rows.codeOnceSpec.pre6 enc Try.prog Try.f7 Rows.codeOnceRow.domain false) (Rows.codeOnceSpec.post enc Try.prog Try.f7 false true false false) := by
  refine law_lifted os started H enc (by kernel_rfl) Try.func7
    (ChangeSpec.witness6 (enc := enc) (C := Try.checked) false ⟨#[], #[.slice none 0 0], []⟩ 8 (by kernel_rfl) (by kernel_rfl) (by kernel_rfl) (by kernel_rfl)) (by kernel_rfl) rfl rfl
    (fun ds h => by match ds, h with | [a], _ => rfl) ?_
  intro W base args ds p hval0 hA0 hlt hsz0
  have hval : ∀ (j : Nat) t v, Try.f7.params[j]? = some t → args[j]? = some v → Value.okWide Try.prog W .any base t v := hval0
  have hA := hA0
  have hsz := hsz0
  rw [Try.params7] at hA hval hsz
  obtain ⟨v0, d0, rfl, rfl, h0⟩ := trodAll_one hA
  obtain ⟨l0, hr0, hz0⟩ := open_bytes (hval 0 22 v0 rfl rfl) h0
  have hs0 := hz0.reach hsz (j := 0) rfl rfl
  exact codeOnce_walk l0 _ W hr0 hs0

theorem codeOnce_holds : Rows.CodeOnceSaid :=
  OpenClaim.holds_of_wide 7 Try.f7 rfl rfl rfl rfl rfl rfl rfl ⟨rfl, rfl, rfl, rfl, rfl⟩ rfl rfl rfl rfl rfl (by kernel_rfl) Try.func7 (by kernel_rfl)
    (of_decide_eq_true (by kernel_rfl)) (by unfold Func.isWrapper; rw [if_neg (by decide +kernel)]; exact ⟨rfl, rfl⟩)
    (fun os started H enc _ => codeOnce_lifted os started H enc)

#print axioms codeOnce_holds
end Go.Proofs.Ytnjkceekiipobaa

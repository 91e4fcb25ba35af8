/- VerdictOrder is true for every input, and leaves its arguments as they were. No condition. -/
import Derived.Test.YtmakgjokadcfjaaFac
import Derived.Deep.CondSized
import Derived.JoinedCond
import Derived.Test.YtmakgjokadcfjaaLawDO
namespace Go.Proofs.Ytmakgjokadcfjaa
open Go.ChangeShapes Go.WideShapes Go.ChangeAt Go.RowKit Go.Joins

set_option maxRecDepth 100000 in
theorem verdictOrder_lifted (os : Os) (started : os.Started) (H : Type) (enc : TypeId × Value → H) :
    ReturnsInHanded {} Try.checked os 6 .any (Rows.verdictOrderSpec.pre6 enc Try.prog Try.f6 Rows.verdictOrderRow.domain false) (Rows.verdictOrderSpec.post enc Try.prog Try.f6 false true false false) := by
  refine law_lifted os started H enc (by kernel_rfl) Try.func6
    (ChangeSpec.witness6 (enc := enc) (C := Try.checked) false ⟨#[], #[.slice none 0 0, .slice none 0 0, .slice none 0 0], []⟩ 8 (by kernel_rfl) (by kernel_rfl) (by kernel_rfl) (by kernel_rfl)) (by kernel_rfl) rfl rfl
    (fun ds h => by match ds, h with | [a, b, c], _ => rfl) ?_
  intro W base args ds p hval0 hA0 hlt hsz0
  have hval : ∀ (j : Nat) t v, Try.f6.params[j]? = some t → args[j]? = some v → Value.okWide Try.prog W .any base t v := hval0
  have hA := hA0
  have hsz := hsz0
  rw [Try.params6] at hA hval hsz
  obtain ⟨v0, v1, v2, d0, d1, d2, p0, p1, p2, rfl, rfl, rfl, h0, h1, h2⟩ := trodAll_three hA
  obtain ⟨l0, hr0, hi0, hl0⟩ := open_vints (hval 0 23 v0 rfl rfl) h0 (weights_all hsz (j := 0) rfl rfl)
  obtain ⟨l1, hr1, hi1, hl1⟩ := open_vints (hval 1 23 v1 rfl rfl) h1 (weights_all hsz (j := 1) rfl rfl)
  obtain ⟨l2, hr2, hi2, hl2⟩ := open_vints (hval 2 23 v2 rfl rfl) h2 (weights_all hsz (j := 2) rfl rfl)
  exact verdictOrder_walk l0 l1 l2 v0 v1 v2 W hr0 hr1 hr2 hl0 hl1 hl2

set_option maxRecDepth 100000 in
theorem verdictOrder_holds : Rows.VerdictOrderSaid :=
  OpenClaim.holds_of_wide 6 Try.f6 rfl rfl rfl rfl rfl rfl rfl ⟨rfl, rfl, rfl, rfl, rfl⟩ rfl rfl rfl rfl rfl (by kernel_rfl) Try.func6 (by kernel_rfl)
    (of_decide_eq_true (by kernel_rfl)) (by unfold Func.isWrapper; rw [if_neg (by decide +kernel)]; exact ⟨rfl, rfl⟩)
    (fun os started H enc _ => verdictOrder_lifted os started H enc)

#print axioms verdictOrder_holds
end Go.Proofs.Ytmakgjokadcfjaa

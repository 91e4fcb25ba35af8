/- VerdictAll is true for every input, and leaves its arguments as they were. No condition. -/
import Derived.Test.YtmakgjokadcfjaaFac
import Derived.Deep.CondSized
import Derived.JoinedCond
import Derived.Test.YtmakgjokadcfjaaLawDA
namespace Go.Proofs.Ytmakgjokadcfjaa
open Go.ChangeShapes Go.WideShapes Go.ChangeAt Go.RowKit Go.Joins

set_option maxRecDepth 100000 in
theorem verdictAll_lifted (os : Os) (started : os.Started) (H : Type) (enc : TypeId × Value → H) :
    ReturnsInHanded {} Try.checked os 8 .any (Rows.verdictAllSpec.pre6 enc Try.prog Try.f8 Rows.verdictAllRow.domain false) (Rows.verdictAllSpec.post enc Try.prog Try.f8 false true false false) := by
  refine law_lifted os started H enc (by kernel_rfl) Try.func8
    (ChangeSpec.witness6 (enc := enc) (C := Try.checked) false ⟨#[], #[.slice none 0 0], []⟩ 8 (by kernel_rfl) (by kernel_rfl) (by kernel_rfl) (by kernel_rfl)) (by kernel_rfl) rfl rfl
    (fun ds h => by match ds, h with | [a], _ => rfl) ?_
  intro W base args ds p hval0 hA0 hlt hsz0
  have hval : ∀ (j : Nat) t v, Try.f8.params[j]? = some t → args[j]? = some v → Value.okWide Try.prog W .any base t v := hval0
  have hA := hA0
  have hsz := hsz0
  rw [Try.params8] at hA hval hsz
  obtain ⟨v0, d0, rfl, rfl, h0⟩ := trodAll_one hA
  obtain ⟨l0, hr0⟩ := open_txs (hval 0 37 v0 rfl rfl) h0 (weights_all hsz (j := 0) rfl rfl)
  exact verdictAll_walk l0 v0 W hr0

set_option maxRecDepth 100000 in
theorem verdictAll_holds : Rows.VerdictAllSaid :=
  OpenClaim.holds_of_wide 8 Try.f8 rfl rfl rfl rfl rfl rfl rfl ⟨rfl, rfl, rfl, rfl, rfl⟩ rfl rfl rfl rfl rfl (by kernel_rfl) Try.func8 (by kernel_rfl)
    (of_decide_eq_true (by kernel_rfl)) (by unfold Func.isWrapper; rw [if_neg (by decide +kernel)]; exact ⟨rfl, rfl⟩)
    (fun os started H enc _ => verdictAll_lifted os started H enc)

#print axioms verdictAll_holds
end Go.Proofs.Ytmakgjokadcfjaa

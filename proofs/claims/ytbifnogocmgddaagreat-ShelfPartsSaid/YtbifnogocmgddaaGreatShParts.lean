/- ShelfParts is true for every input, and leaves its arguments as they were. No condition. -/
import Derived.Test.YtbifnogocmgddaaGreatFar
import Derived.Deep.CondSized
import Derived.JoinedCond
import Derived.Test.YtbifnogocmgddaaGreatLawShP
namespace Go.Proofs.YtbifnogocmgddaaGreat
open Go.ChangeShapes Go.WideShapes Go.ChangeAt Go.RowKit Go.Joins

set_option maxRecDepth 100000 in
theorem shelfParts_lifted (os : Os) (started : os.Started) (H : Type) (enc : TypeId × Value → H) :
    ReturnsInHanded {} Tryz.checked os 4 .any (Rows.shelfPartsSpec.pre6 enc Tryz.prog Tryz.f4 Rows.shelfPartsRow.domain false) (Rows.shelfPartsSpec.post enc Tryz.prog Tryz.f4 false true false false) := by
  refine law_lifted os started H enc (by kernel_rfl) Tryz.func4
    (ChangeSpec.witness6 (enc := enc) (C := Tryz.checked) false ⟨#[], #[.slice none 0 0, .string ⟨#[]⟩], []⟩ 8 (by kernel_rfl) (by kernel_rfl) (by kernel_rfl) (by kernel_rfl)) (by kernel_rfl) rfl rfl
    (fun ds h => by match ds, h with | [a, b], _ => rfl) ?_
  intro W base args ds p hval0 hA0 hlt hsz0
  have hval : ∀ (j : Nat) t v, Tryz.f4.params[j]? = some t → args[j]? = some v → Value.okWide Tryz.prog W .any base t v := hval0
  have hA := hA0
  have hsz := hsz0
  rw [Tryz.params4] at hA hval hsz
  obtain ⟨v0, v1, d0, d1, p0, p1, rfl, rfl, rfl, h0, h1⟩ := trodAll_two hA
  obtain ⟨l0, hr0, hl0, hc0⟩ := open_shchgs (hval 0 22 v0 rfl rfl) h0 (weights_all hsz (j := 0) rfl rfl)
  obtain ⟨k1, rfl, rfl, rfl, hk1⟩ := Go.ChangeMaps.open_string Tryz.underlying9 (hval 1 9 v1 rfl rfl) h1
  exact shelfParts_walk l0 v0 k1 W hr0 hc0 hl0

set_option maxRecDepth 100000 in
theorem shelfParts_holds : Rows.ShelfPartsSaid :=
  OpenClaim.holds_of_wide 4 Tryz.f4 rfl rfl rfl rfl rfl rfl rfl ⟨rfl, rfl, rfl, rfl, rfl⟩ rfl rfl rfl rfl rfl (by kernel_rfl) Tryz.func4 (by kernel_rfl)
    (of_decide_eq_true (by kernel_rfl)) (by unfold Func.isWrapper; rw [if_neg (by decide +kernel)]; exact ⟨rfl, rfl⟩)
    (fun os started H enc _ => shelfParts_lifted os started H enc)

#print axioms shelfParts_holds
end Go.Proofs.YtbifnogocmgddaaGreat

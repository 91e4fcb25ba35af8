/- CastaThree is true for every input, and leaves its arguments as they were. No condition. -/
import Derived.Test.YticlhiboheehdaaOpenB
import Derived.Deep.CondSized
import Derived.JoinedCond
import Derived.Test.YticlhiboheehdaaLawThree
namespace Go.Proofs.Yticlhiboheehdaa
open Go.ChangeShapes Go.WideShapes Go.ChangeAt Go.RowKit Go.Joins

set_option maxRecDepth 100000 in
theorem castaThree_lifted (os : Os) (started : os.Started) (H : Type) (enc : TypeId × Value → H) :
    ReturnsInHanded {} Try.checked os 7 .any (Rows.castaThreeSpec.pre6 enc Try.prog Try.f7 Rows.castaThreeRow.domain false) (Rows.castaThreeSpec.post enc Try.prog Try.f7 false true false false) := by
  refine law_lifted os started H enc (by kernel_rfl) Try.func7
    (ChangeSpec.witness6 (enc := enc) (C := Try.checked) false ⟨#[], #[.slice none 0 0, .slice none 0 0, .slice none 0 0], []⟩ 8 (by kernel_rfl) (by kernel_rfl) (by kernel_rfl) (by kernel_rfl)) (by kernel_rfl) rfl rfl
    (fun ds h => by match ds, h with | [a, b, c], _ => rfl) ?_
  intro W base args ds p hval0 hA0 hlt hsz0
  have hval : ∀ (j : Nat) t v, Try.f7.params[j]? = some t → args[j]? = some v → Value.okWide Try.prog W .any base t v := hval0
  have hA := hA0
  have hsz := hsz0
  rw [Try.params7] at hA hval hsz
  obtain ⟨v0, v1, v2, d0, d1, d2, p0, p1, p2, rfl, rfl, rfl, h0, h1, h2⟩ := trodAll_three hA
  obtain ⟨l0, hr0, hz0⟩ := open_bytes (hval 0 23 v0 rfl rfl) h0
  obtain ⟨l1, hr1, hz1⟩ := open_bytes (hval 1 23 v1 rfl rfl) h1
  obtain ⟨l2, hr2, hz2⟩ := open_bytes (hval 2 23 v2 rfl rfl) h2
  have hs0 := hz0.reach hsz (j := 0) rfl rfl
  have hs1 := hz1.reach hsz (j := 1) rfl rfl
  have hs2 := hz2.reach hsz (j := 2) rfl rfl
  exact castaThree_walk l0 l1 l2 _ _ _ W hr0 hr1 hr2 hs0 hs1 hs2

theorem castaThree_holds : Rows.CastaThreeSaid :=
  OpenClaim.holds_of_wide 7 Try.f7 rfl rfl rfl rfl rfl rfl rfl ⟨rfl, rfl, rfl, rfl, rfl⟩ rfl rfl rfl rfl rfl (by kernel_rfl) Try.func7 (by kernel_rfl)
    (of_decide_eq_true (by kernel_rfl)) (by unfold Func.isWrapper; rw [if_neg (by decide +kernel)]; exact ⟨rfl, rfl⟩)
    (fun os started H enc _ => castaThree_lifted os started H enc)

#print axioms castaThree_holds
end Go.Proofs.Yticlhiboheehdaa

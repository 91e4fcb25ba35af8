/- CodeSplits is true for every input, and leaves its arguments as they were. No condition. -/
import Derived.Test.YtnjkceekiipobaaOpenB
import Derived.Test.YtnjkceekiipobaaInts
import Derived.Test.YtnjkceekiipobaaWf
import Derived.Carry
import Derived.Test.YtnjkceekiipobaaLawSplits
namespace Go.Proofs.Ytnjkceekiipobaa
open Go.ChangeShapes Go.WideShapes Go.ChangeAt Go.RowKit Go.Joins

set_option maxRecDepth 100000 in
theorem codeSplits_lifted (os : Os) (started : os.Started) (H : Type) (enc : TypeId × Value → H) :
    ReturnsInHanded {} Try.checked os 8 .any (Rows.codeSplitsSpec.pre6 enc Try.prog Try.f8 Rows.codeSplitsRow.domain false) (Rows.codeSplitsSpec.post enc Try.prog Try.f8 false true false false) := by
  refine law_lifted os started H enc (by kernel_rfl) Try.func8
    (ChangeSpec.witness6 (enc := enc) (C := Try.checked) false ⟨#[], #[.slice none 0 0, .slice none 0 0, .int .u8 0], []⟩ 8 (by kernel_rfl) (by kernel_rfl) (by kernel_rfl) (by kernel_rfl)) (by kernel_rfl) rfl rfl
    (fun ds h => by match ds, h with | [a, b, c], _ => rfl) ?_
  intro W base args ds p hval0 hA0 hlt hsz0
  have hval : ∀ (j : Nat) t v, Try.f8.params[j]? = some t → args[j]? = some v → Value.okWide Try.prog W .any base t v := hval0
  have hA := hA0
  have hsz := hsz0
  rw [Try.params8] at hA hval hsz
  obtain ⟨v0, v1, v2, d0, d1, d2, p0, p1, p2, rfl, rfl, rfl, h0, h1, h2⟩ := trodAll_three hA
  obtain ⟨l0, hr0, hz0, hg0⟩ := open_intsI (hval 0 36 v0 rfl rfl) h0
  obtain ⟨l1, hr1, hz1⟩ := open_bytes (hval 1 22 v1 rfl rfl) h1
  obtain ⟨i2, rfl, rfl, rfl, hw2⟩ := open_int Try.underlying5 (hval 2 5 v2 rfl rfl) h2
  obtain ⟨n2, rfl, hn2⟩ := nat_of_wfu8 hw2
  have hs0 := hz0.reach hsz (j := 0) rfl rfl
  have hs1 := hz1.reach hsz (j := 1) rfl rfl
  exact codeSplits_walk l0 (fun n h => (hg0 n h).2) l1 _ _ n2 (by omega) W hr0 hr1 hs0 hs1

theorem codeSplits_holds : Rows.CodeSplitsSaid :=
  OpenClaim.holds_of_wide 8 Try.f8 rfl rfl rfl rfl rfl rfl rfl ⟨rfl, rfl, rfl, rfl, rfl⟩ rfl rfl rfl rfl rfl (by kernel_rfl) Try.func8 (by kernel_rfl)
    (of_decide_eq_true (by kernel_rfl)) (by unfold Func.isWrapper; rw [if_neg (by decide +kernel)]; exact ⟨rfl, rfl⟩)
    (fun os started H enc _ => codeSplits_lifted os started H enc)

#print axioms codeSplits_holds
end Go.Proofs.Ytnjkceekiipobaa

/- ShelfAgain is true for every input, and leaves its arguments as they were. No condition. -/
import Derived.Test.YtbifnogocmgddaaGreatFar
import Derived.Deep.CondSized
import Derived.JoinedCond
import Derived.Test.YtbifnogocmgddaaGreatLawShA
namespace Go.Proofs.YtbifnogocmgddaaGreat
open Go.ChangeShapes Go.WideShapes Go.ChangeAt Go.RowKit Go.Joins

set_option maxRecDepth 100000 in
theorem shelfAgain_lifted (os : Os) (started : os.Started) (H : Type) (enc : TypeId × Value → H) :
    ReturnsInHanded {} Tryz.checked os 3 .any (Rows.shelfAgainSpec.pre6 enc Tryz.prog Tryz.f3 Rows.shelfAgainRow.domain false) (Rows.shelfAgainSpec.post enc Tryz.prog Tryz.f3 false true false false) := by
  refine law_lifted os started H enc (by kernel_rfl) Tryz.func3
    (ChangeSpec.witness6 (enc := enc) (C := Tryz.checked) false ⟨#[], #[.slice none 0 0, .slice none 0 0, .int .u8 0], []⟩ 8 (by kernel_rfl) (by kernel_rfl) (by kernel_rfl) (by kernel_rfl)) (by kernel_rfl) rfl rfl
    (fun ds h => by match ds, h with | [a, b, c], _ => rfl) ?_
  intro W base args ds p hval0 hA0 hlt hsz0
  have hval : ∀ (j : Nat) t v, Tryz.f3.params[j]? = some t → args[j]? = some v → Value.okWide Tryz.prog W .any base t v := hval0
  have hA := hA0
  have hsz := hsz0
  rw [Tryz.params3] at hA hval hsz
  obtain ⟨v0, v1, v2, d0, d1, d2, p0, p1, p2, rfl, rfl, rfl, h0, h1, h2⟩ := trodAll_three hA
  obtain ⟨l0, hr0, hl0, hc0⟩ := open_shchgs (hval 0 22 v0 rfl rfl) h0 (weights_all hsz (j := 0) rfl rfl)
  obtain ⟨l1, hr1, hl1, hc1⟩ := open_shchgs (hval 1 22 v1 rfl rfl) h1 (weights_all hsz (j := 1) rfl rfl)
  obtain ⟨i2, rfl, rfl, rfl, hw2⟩ := open_int Tryz.underlying5 (hval 2 5 v2 rfl rfl) h2
  obtain ⟨n2, rfl, hn2⟩ := nat_of_wfu8 hw2
  exact shelfAgain_walk l0 l1 v0 v1 n2 hn2 W hr0 hr1 hc0 hc1 hl0 hl1

set_option maxRecDepth 100000 in
theorem shelfAgain_holds : Rows.ShelfAgainSaid :=
  OpenClaim.holds_of_wide 3 Tryz.f3 rfl rfl rfl rfl rfl rfl rfl ⟨rfl, rfl, rfl, rfl, rfl⟩ rfl rfl rfl rfl rfl (by kernel_rfl) Tryz.func3 (by kernel_rfl)
    (of_decide_eq_true (by kernel_rfl)) (by unfold Func.isWrapper; rw [if_neg (by decide +kernel)]; exact ⟨rfl, rfl⟩)
    (fun os started H enc _ => shelfAgain_lifted os started H enc)

#print axioms shelfAgain_holds
end Go.Proofs.YtbifnogocmgddaaGreat

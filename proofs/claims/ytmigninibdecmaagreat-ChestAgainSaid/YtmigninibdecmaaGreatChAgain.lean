/- ChestAgain is true for every input, and leaves its arguments as they were. No condition. -/
import Derived.Test.YtmigninibdecmaaGreatFaf
import Derived.Test.YtmigninibdecmaaGreatFaa
import Derived.Deep.CondSized
import Derived.JoinedCond
import Derived.Test.YtmigninibdecmaaGreatLawChA
namespace Go.Proofs.YtmigninibdecmaaGreat
open Go.ChangeShapes Go.WideShapes Go.ChangeAt Go.RowKit Go.Joins

set_option maxRecDepth 100000 in
theorem chestAgain_lifted (os : Os) (started : os.Started) (H : Type) (enc : TypeId × Value → H) :
    ReturnsInHanded {} Tryz.checked os 5 .any (Rows.chestAgainSpec.pre6 enc Tryz.prog Tryz.f5 Rows.chestAgainRow.domain false) (Rows.chestAgainSpec.post enc Tryz.prog Tryz.f5 false true false false) := by
  refine law_lifted os started H enc (by kernel_rfl) Tryz.func5
    (ChangeSpec.witness6 (enc := enc) (C := Tryz.checked) false ⟨#[], #[.int .u8 0, .slice none 0 0, .int .u8 0], []⟩ 8 (by kernel_rfl) (by kernel_rfl) (by kernel_rfl) (by kernel_rfl)) (by kernel_rfl) rfl rfl
    (fun ds h => by match ds, h with | [a, b, c], _ => rfl) ?_
  intro W base args ds p hval0 hA0 hlt hsz0
  have hval : ∀ (j : Nat) t v, Tryz.f5.params[j]? = some t → args[j]? = some v → Value.okWide Tryz.prog W .any base t v := hval0
  have hA := hA0
  have hsz := hsz0
  rw [Tryz.params5] at hA hval hsz
  obtain ⟨v0, v1, v2, d0, d1, d2, p0, p1, p2, rfl, rfl, rfl, h0, h1, h2⟩ := trodAll_three hA
  obtain ⟨i0, rfl, rfl, rfl, hw0⟩ := open_int Tryz.underlying5 (hval 0 5 v0 rfl rfl) h0
  obtain ⟨n0, rfl, hn0⟩ := nat_of_wfu8 hw0
  obtain ⟨l1, hr1, hz1⟩ := open_bytes (hval 1 41 v1 rfl rfl) h1
  have hl1 := hz1.reach hsz (j := 1) rfl rfl
  obtain ⟨i2, rfl, rfl, rfl, hw2⟩ := open_int Tryz.underlying5 (hval 2 5 v2 rfl rfl) h2
  obtain ⟨n2, rfl, hn2⟩ := nat_of_wfu8 hw2
  exact chestAgain_walk n0 l1 n2 hn0 hn2 v1 W hr1 (by omega)

set_option maxRecDepth 100000 in
theorem chestAgain_holds : Rows.ChestAgainSaid :=
  OpenClaim.holds_of_wide 5 Tryz.f5 rfl rfl rfl rfl rfl rfl rfl ⟨rfl, rfl, rfl, rfl, rfl⟩ rfl rfl rfl rfl rfl (by kernel_rfl) Tryz.func5 (by kernel_rfl)
    (of_decide_eq_true (by kernel_rfl)) (by unfold Func.isWrapper; rw [if_neg (by decide +kernel)]; exact ⟨rfl, rfl⟩)
    (fun os started H enc _ => chestAgain_lifted os started H enc)

#print axioms chestAgain_holds
end Go.Proofs.YtmigninibdecmaaGreat

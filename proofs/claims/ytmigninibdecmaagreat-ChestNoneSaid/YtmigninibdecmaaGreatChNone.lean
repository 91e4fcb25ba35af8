/- ChestNone is true for every input, and leaves its arguments as they were. No condition. -/
import Derived.Test.YtmigninibdecmaaGreatFaf
import Derived.Test.YtmigninibdecmaaGreatFaa
import Derived.Deep.CondSized
import Derived.JoinedCond
import Derived.Test.YtmigninibdecmaaGreatLawChN
namespace Go.Proofs.YtmigninibdecmaaGreat
open Go.ChangeShapes Go.WideShapes Go.ChangeAt Go.RowKit Go.Joins

set_option maxRecDepth 100000 in
theorem chestNone_lifted (os : Os) (started : os.Started) (H : Type) (enc : TypeId × Value → H) :
    ReturnsInHanded {} Tryz.checked os 7 .any (Rows.chestNoneSpec.pre6 enc Tryz.prog Tryz.f7 Rows.chestNoneRow.domain false) (Rows.chestNoneSpec.post enc Tryz.prog Tryz.f7 false true false false) := by
  refine law_lifted os started H enc (by kernel_rfl) Tryz.func7
    (ChangeSpec.witness6 (enc := enc) (C := Tryz.checked) false ⟨#[], #[.int .i64 0, .int .i64 0, .agg #[.int .i64 0, .int .i64 0, .int .i64 0, .slice none 0 0]], []⟩ 8 (by kernel_rfl) (by kernel_rfl) (by kernel_rfl) (by kernel_rfl)) (by kernel_rfl) rfl rfl
    (fun ds h => by match ds, h with | [a, b, c], _ => rfl) ?_
  intro W base args ds p hval0 hA0 hlt hsz0
  have hval : ∀ (j : Nat) t v, Tryz.f7.params[j]? = some t → args[j]? = some v → Value.okWide Tryz.prog W .any base t v := hval0
  have hA := hA0
  have hsz := hsz0
  rw [Tryz.params7] at hA hval hsz
  obtain ⟨v0, v1, v2, d0, d1, d2, p0, p1, p2, rfl, rfl, rfl, h0, h1, h2⟩ := trodAll_three hA
  obtain ⟨i0, rfl, rfl, rfl, hw0⟩ := open_int Tryz.underlying3 (hval 0 3 v0 rfl rfl) h0
  obtain ⟨i1, rfl, rfl, rfl, hw1⟩ := open_int Tryz.underlying3 (hval 1 3 v1 rfl rfl) h1
  obtain ⟨b2, x2, rfl, hr2, hf2, hl2⟩ := open_bat (hval 2 38 v2 rfl rfl) h2 (weights_all hsz (j := 2) rfl rfl)
  exact chestNone_walk i0 i1 b2 x2 W hr2

set_option maxRecDepth 100000 in
theorem chestNone_holds : Rows.ChestNoneSaid :=
  OpenClaim.holds_of_wide 7 Tryz.f7 rfl rfl rfl rfl rfl rfl rfl ⟨rfl, rfl, rfl, rfl, rfl⟩ rfl rfl rfl rfl rfl (by kernel_rfl) Tryz.func7 (by kernel_rfl)
    (of_decide_eq_true (by kernel_rfl)) (by unfold Func.isWrapper; rw [if_neg (by decide +kernel)]; exact ⟨rfl, rfl⟩)
    (fun os started H enc _ => chestNone_lifted os started H enc)

#print axioms chestNone_holds
end Go.Proofs.YtmigninibdecmaaGreat

/- MarksPlays is true for every input, and leaves its arguments as they were. No condition. -/
import Derived.Test.YtcmpbhcldaogiaaGreatFai
import Derived.Deep.CondSized
import Derived.JoinedCond
import Derived.Test.YtcmpbhcldaogiaaGreatLawMP
namespace Go.Proofs.YtcmpbhcldaogiaaGreat
open Go.ChangeShapes Go.WideShapes Go.ChangeAt Go.RowKit Go.Joins

set_option maxRecDepth 100000 in
theorem marksPlays_lifted (os : Os) (started : os.Started) (H : Type) (enc : TypeId × Value → H) :
    ReturnsInHanded {} Tryz.checked os 3 .any (Rows.marksPlaysSpec.pre6 enc Tryz.prog Tryz.f3 Rows.marksPlaysRow.domain false) (Rows.marksPlaysSpec.post enc Tryz.prog Tryz.f3 false true false false) := by
  refine law_lifted os started H enc (by kernel_rfl) Tryz.func3
    (ChangeSpec.witness6 (enc := enc) (C := Tryz.checked) false ⟨#[], #[.int .i64 0, .slice none 0 0], []⟩ 8 (by kernel_rfl) (by kernel_rfl) (by kernel_rfl) (by kernel_rfl)) (by kernel_rfl) rfl rfl
    (fun ds h => by match ds, h with | [a, b], _ => rfl) ?_
  intro W base args ds p hval0 hA0 hlt hsz0
  have hval : ∀ (j : Nat) t v, Tryz.f3.params[j]? = some t → args[j]? = some v → Value.okWide Tryz.prog W .any base t v := hval0
  have hA := hA0
  have hsz := hsz0
  rw [Tryz.params3] at hA hval hsz
  obtain ⟨v0, v1, d0, d1, p0, p1, rfl, rfl, rfl, h0, h1⟩ := trodAll_two hA
  obtain ⟨i0, rfl, rfl, rfl, hw0⟩ := open_int Tryz.underlying3 (hval 0 3 v0 rfl rfl) h0
  have hb0 := int_of_wf hw0
  obtain ⟨l1, hr1, hl1, hi1⟩ := open_macts (hval 1 22 v1 rfl rfl) h1 (weights_all hsz (j := 1) rfl rfl)
  exact marksPlays_walk i0 hb0 l1 v1 W hr1 hl1 hi1

set_option maxRecDepth 100000 in
theorem marksPlays_holds : Rows.MarksPlaysSaid :=
  OpenClaim.holds_of_wide 3 Tryz.f3 rfl rfl rfl rfl rfl rfl rfl ⟨rfl, rfl, rfl, rfl, rfl⟩ rfl rfl rfl rfl rfl (by kernel_rfl) Tryz.func3 (by kernel_rfl)
    (of_decide_eq_true (by kernel_rfl)) (by unfold Func.isWrapper; rw [if_neg (by decide +kernel)]; exact ⟨rfl, rfl⟩)
    (fun os started H enc _ => marksPlays_lifted os started H enc)

#print axioms marksPlays_holds
end Go.Proofs.YtcmpbhcldaogiaaGreat

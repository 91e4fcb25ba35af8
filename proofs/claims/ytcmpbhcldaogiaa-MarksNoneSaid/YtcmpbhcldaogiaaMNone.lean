/- MarksNone is true for every input, and leaves its arguments as they were. No condition. -/
import Derived.Test.YtcmpbhcldaogiaaFah
import Derived.Deep.CondSized
import Derived.JoinedCond
import Derived.Test.YtcmpbhcldaogiaaLawMN
namespace Go.Proofs.Ytcmpbhcldaogiaa
open Go.ChangeShapes Go.WideShapes Go.ChangeAt Go.RowKit Go.Joins

set_option maxRecDepth 100000 in
theorem marksNone_lifted (os : Os) (started : os.Started) (H : Type) (enc : TypeId × Value → H) :
    ReturnsInHanded {} Try.checked os 6 .any (Rows.marksNoneSpec.pre6 enc Try.prog Try.f6 Rows.marksNoneRow.domain false) (Rows.marksNoneSpec.post enc Try.prog Try.f6 false true false false) := by
  refine law_lifted os started H enc (by kernel_rfl) Try.func6
    (ChangeSpec.witness6 (enc := enc) (C := Try.checked) false ⟨#[], #[.int .i64 0, .agg #[.string ⟨#[]⟩, .string ⟨#[]⟩], .slice none 0 0], []⟩ 8 (by kernel_rfl) (by kernel_rfl) (by kernel_rfl) (by kernel_rfl)) (by kernel_rfl) rfl rfl
    (fun ds h => by match ds, h with | [a, b, c], _ => rfl) ?_
  intro W base args ds p hval0 hA0 hlt hsz0
  have hval : ∀ (j : Nat) t v, Try.f6.params[j]? = some t → args[j]? = some v → Value.okWide Try.prog W .any base t v := hval0
  have hA := hA0
  have hsz := hsz0
  rw [Try.params6] at hA hval hsz
  obtain ⟨v0, v1, v2, d0, d1, d2, p0, p1, p2, rfl, rfl, rfl, h0, h1, h2⟩ := trodAll_three hA
  obtain ⟨i0, rfl, rfl, rfl, hw0⟩ := open_int Try.underlying3 (hval 0 3 v0 rfl rfl) h0
  have hb0 := int_of_wf hw0
  obtain ⟨s1, rfl, hk1⟩ := open_span (hval 1 24 v1 rfl rfl) h1 (weights_all hsz (j := 1) rfl rfl)
  obtain ⟨a2, n2, c2, rfl⟩ := open_slice_any (hval 2 40 v2 rfl rfl)
  exact marksNone_walk i0 s1 a2 n2 c2 W

set_option maxRecDepth 100000 in
theorem marksNone_holds : Rows.MarksNoneSaid :=
  OpenClaim.holds_of_wide 6 Try.f6 rfl rfl rfl rfl rfl rfl rfl ⟨rfl, rfl, rfl, rfl, rfl⟩ rfl rfl rfl rfl rfl (by kernel_rfl) Try.func6 (by kernel_rfl)
    (of_decide_eq_true (by kernel_rfl)) (by unfold Func.isWrapper; rw [if_neg (by decide +kernel)]; exact ⟨rfl, rfl⟩)
    (fun os started H enc _ => marksNone_lifted os started H enc)

#print axioms marksNone_holds
end Go.Proofs.Ytcmpbhcldaogiaa

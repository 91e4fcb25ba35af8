/- PastNone is true for every input, and leaves its arguments as they were. No condition. -/
import Derived.Test.YtpfhkijnaiopoaaPOpen
import Derived.Test.YtpfhkijnaiopoaaPFour
import Derived.Deep.CondSized
import Derived.JoinedCond
import Derived.Carry
import Derived.Test.YtpfhkijnaiopoaaLawPN
namespace Go.Proofs.Ytpfhkijnaiopoaa
open Go.ChangeShapes Go.WideShapes Go.ChangeAt Go.RowKit Go.Joins

set_option maxRecDepth 100000 in
theorem pastNone_lifted (os : Os) (started : os.Started) (H : Type) (enc : TypeId × Value → H) :
    ReturnsInHanded {} Try.checked os 8 .any (Rows.pastNoneSpec.pre6 enc Try.prog Try.f8 Rows.pastNoneRow.domain false) (Rows.pastNoneSpec.post enc Try.prog Try.f8 false true false false) := by
  refine law_lifted os started H enc (by kernel_rfl) Try.func8
    (ChangeSpec.witness6 (enc := enc) (C := Try.checked) false ⟨#[], #[.int .i64 0, .string ⟨#[]⟩, .agg #[.string ⟨#[]⟩, .string ⟨#[]⟩], .slice none 0 0], []⟩ 8 (by kernel_rfl) (by kernel_rfl) (by kernel_rfl) (by kernel_rfl)) (by kernel_rfl) rfl rfl
    (fun ds h => by match ds, h with | [a, b, c, d], _ => rfl) ?_
  intro W base args ds p hval0 hA0 hlt hsz0
  have hval : ∀ (j : Nat) t v, Try.f8.params[j]? = some t → args[j]? = some v → Value.okWide Try.prog W .any base t v := hval0
  have hA := hA0
  have hsz := hsz0
  rw [Try.params8] at hA hval hsz
  obtain ⟨v0, v1, v2, v3, d0, d1, d2, d3, p0, p1, p2, p3, rfl, rfl, rfl, h0, h1, h2, h3⟩ := trodAll_four hA
  obtain ⟨i0, rfl, rfl, rfl, hw0⟩ := open_int Try.underlying3 (hval 0 3 v0 rfl rfl) h0
  have hb0 := int_of_wf hw0
  obtain ⟨k1, rfl, rfl, rfl, hk1⟩ := Go.ChangeMaps.open_string Try.underlying9 (hval 1 9 v1 rfl rfl) h1
  have hl1 : smallS k1 := by
    have := (weights_all hsz (j := 1) rfl rfl) k1.data.toList.length (by simp [DataW.weights])
    rw [show reachBytes = 140737488351232 from rfl] at this
    have : k1.size ≤ 140737488351232 := by simpa using this
    unfold smallS; omega
  obtain ⟨s2, rfl, hk2, hv2⟩ := open_span (hval 2 33 v2 rfl rfl) h2 (weights_all hsz (j := 2) rfl rfl)
  exact pastNone_walk i0 k1 s2 v3 W

set_option maxRecDepth 100000 in
theorem pastNone_holds : Rows.PastNoneSaid :=
  OpenClaim.holds_of_wide 8 Try.f8 rfl rfl rfl rfl rfl rfl rfl ⟨rfl, rfl, rfl, rfl, rfl⟩ rfl rfl rfl rfl rfl (by kernel_rfl) Try.func8 (by kernel_rfl)
    (of_decide_eq_true (by kernel_rfl)) (by unfold Func.isWrapper; rw [if_neg (by decide +kernel)]; exact ⟨rfl, rfl⟩)
    (fun os started H enc _ => pastNone_lifted os started H enc)

#print axioms pastNone_holds
end Go.Proofs.Ytpfhkijnaiopoaa

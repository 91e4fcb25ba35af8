/- TapeFails is true for every input, and leaves its arguments as they were. No condition. -/
import Derived.Test.YthkhcobdcmclfaaOpenT
import Derived.Deep.CondSized
import Derived.JoinedCond
import Derived.Test.YthkhcobdcmclfaaLawF
namespace Go.Proofs.Ythkhcobdcmclfaa
open Go.ChangeShapes Go.WideShapes Go.ChangeAt Go.RowKit Go.Joins

set_option maxRecDepth 100000 in
theorem tapeFails_lifted (os : Os) (started : os.Started) (H : Type) (enc : TypeId × Value → H) :
    ReturnsInHanded {} Try.checked os 5 .any (Rows.tapeFailsSpec.pre6 enc Try.prog Try.f5 Rows.tapeFailsRow.domain false) (Rows.tapeFailsSpec.post enc Try.prog Try.f5 false true false false) := by
  refine law_lifted os started H enc (by kernel_rfl) Try.func5
    (ChangeSpec.witness6 (enc := enc) (C := Try.checked) false ⟨#[], #[.int .u8 0, .slice none 0 0], []⟩ 8 (by kernel_rfl) (by kernel_rfl) (by kernel_rfl) (by kernel_rfl)) (by kernel_rfl) rfl rfl
    (fun ds h => by match ds, h with | [a, b], _ => rfl) ?_
  intro W base args ds p hval0 hA0 hlt hsz0
  have hval : ∀ (j : Nat) t v, Try.f5.params[j]? = some t → args[j]? = some v → Value.okWide Try.prog W .any base t v := hval0
  have hA := hA0
  have hsz := hsz0
  rw [Try.params5] at hA hval hsz
  obtain ⟨v0, v1, d0, d1, p0, p1, rfl, rfl, rfl, h0, h1⟩ := trodAll_two hA
  obtain ⟨i0, rfl, rfl, rfl, hw0⟩ := open_int Try.underlying5 (hval 0 5 v0 rfl rfl) h0
  obtain ⟨n0, rfl, hn0⟩ := nat_of_wfu8 hw0
  obtain ⟨l1, hr1, hz1⟩ := open_bytes (hval 1 31 v1 rfl rfl) h1
  have hl1 := hz1.reach hsz (j := 1) rfl rfl
  exact tapeFails_walk n0 hn0 l1 v1 W hr1 hl1

set_option maxRecDepth 100000 in
theorem tapeFails_holds : Rows.TapeFailsSaid :=
  OpenClaim.holds_of_wide 5 Try.f5 rfl rfl rfl rfl rfl rfl rfl ⟨rfl, rfl, rfl, rfl, rfl⟩ rfl rfl rfl rfl rfl (by kernel_rfl) Try.func5 (by kernel_rfl)
    (of_decide_eq_true (by kernel_rfl)) (by unfold Func.isWrapper; rw [if_neg (by decide +kernel)]; exact ⟨rfl, rfl⟩)
    (fun os started H enc _ => tapeFails_lifted os started H enc)

#print axioms tapeFails_holds
end Go.Proofs.Ythkhcobdcmclfaa

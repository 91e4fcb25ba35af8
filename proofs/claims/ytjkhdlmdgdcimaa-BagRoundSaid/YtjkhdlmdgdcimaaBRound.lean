/- BagRound is true for every input, and leaves its arguments as they were. No condition. -/
import Derived.Test.YtjkhdlmdgdcimaaBgOpen
import Derived.Deep.CondSized
import Derived.JoinedCond
import Derived.Test.YtjkhdlmdgdcimaaLawGR
namespace Go.Proofs.Ytjkhdlmdgdcimaa
open Go.ChangeShapes Go.WideShapes Go.ChangeAt Go.RowKit Go.Joins

set_option maxRecDepth 100000 in
theorem bagRound_lifted (os : Os) (started : os.Started) (H : Type) (enc : TypeId × Value → H) :
    ReturnsInHanded {} Try.checked os 7 .any (Rows.bagRoundSpec.pre6 enc Try.prog Try.f7 Rows.bagRoundRow.domain false) (Rows.bagRoundSpec.post enc Try.prog Try.f7 false true false false) := by
  refine law_lifted os started H enc (by kernel_rfl) Try.func7
    (ChangeSpec.witness6 (enc := enc) (C := Try.checked) false ⟨#[], #[.slice none 0 0, .int .u8 0], []⟩ 8 (by kernel_rfl) (by kernel_rfl) (by kernel_rfl) (by kernel_rfl)) (by kernel_rfl) rfl rfl
    (fun ds h => by match ds, h with | [a, b], _ => rfl) ?_
  intro W base args ds p hval0 hA0 hlt hsz0
  have hval : ∀ (j : Nat) t v, Try.f7.params[j]? = some t → args[j]? = some v → Value.okWide Try.prog W .any base t v := hval0
  have hA := hA0
  have hsz := hsz0
  rw [Try.params7] at hA hval hsz
  obtain ⟨v0, v1, d0, d1, p0, p1, rfl, rfl, rfl, h0, h1⟩ := trodAll_two hA
  obtain ⟨l0, hr0, hl0, hi0⟩ := open_rows (hval 0 46 v0 rfl rfl) h0 (weights_all hsz (j := 0) rfl rfl)
  obtain ⟨i1, rfl, rfl, rfl, hw1⟩ := open_int Try.underlying5 (hval 1 5 v1 rfl rfl) h1
  obtain ⟨n1, rfl, hn1⟩ := nat_of_wfu8 hw1
  exact bagRound_walk l0 v0 n1 W hr0 hl0 hi0

set_option maxRecDepth 100000 in
theorem bagRound_holds : Rows.BagRoundSaid :=
  OpenClaim.holds_of_wide 7 Try.f7 rfl rfl rfl rfl rfl rfl rfl ⟨rfl, rfl, rfl, rfl, rfl⟩ rfl rfl rfl rfl rfl (by kernel_rfl) Try.func7 (by kernel_rfl)
    (of_decide_eq_true (by kernel_rfl)) (by unfold Func.isWrapper; rw [if_neg (by decide +kernel)]; exact ⟨rfl, rfl⟩)
    (fun os started H enc _ => bagRound_lifted os started H enc)

#print axioms bagRound_holds
end Go.Proofs.Ytjkhdlmdgdcimaa

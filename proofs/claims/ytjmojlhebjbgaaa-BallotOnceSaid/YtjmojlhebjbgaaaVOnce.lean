/- BallotOnce is true for every input, and leaves its arguments as they were. No condition. -/
import Derived.Test.YtjmojlhebjbgaaaFal
import Derived.Deep.CondSized
import Derived.JoinedCond
import Derived.Test.YtjmojlhebjbgaaaLawVO
namespace Go.Proofs.Ytjmojlhebjbgaaa
open Go.ChangeShapes Go.WideShapes Go.ChangeAt Go.RowKit Go.Joins

set_option maxRecDepth 100000 in
theorem ballotOnce_lifted (os : Os) (started : os.Started) (H : Type) (enc : TypeId × Value → H) :
    ReturnsInHanded {} Try.checked os 8 .any (Rows.ballotOnceSpec.pre6 enc Try.prog Try.f8 Rows.ballotOnceRow.domain false) (Rows.ballotOnceSpec.post enc Try.prog Try.f8 false true false false) := by
  refine law_lifted os started H enc (by kernel_rfl) Try.func8
    (ChangeSpec.witness6 (enc := enc) (C := Try.checked) false ⟨#[], #[.int .u8 0, .slice none 0 0], []⟩ 8 (by kernel_rfl) (by kernel_rfl) (by kernel_rfl) (by kernel_rfl)) (by kernel_rfl) rfl rfl
    (fun ds h => by match ds, h with | [a, b], _ => rfl) ?_
  intro W base args ds p hval0 hA0 hlt hsz0
  have hval : ∀ (j : Nat) t v, Try.f8.params[j]? = some t → args[j]? = some v → Value.okWide Try.prog W .any base t v := hval0
  have hA := hA0
  have hsz := hsz0
  rw [Try.params8] at hA hval hsz
  obtain ⟨v0, v1, d0, d1, p0, p1, rfl, rfl, rfl, h0, h1⟩ := trodAll_two hA
  obtain ⟨i0, rfl, rfl, rfl, hw0⟩ := open_int Try.underlying5 (hval 0 5 v0 rfl rfl) h0
  obtain ⟨n0, rfl, hn0⟩ := nat_of_wfu8 hw0
  obtain ⟨l1, hr1, hf1, hl1⟩ := open_steps (hval 1 50 v1 rfl rfl) h1 (weights_all hsz (j := 1) rfl rfl)
  exact ballotOnce_walk n0 hn0 l1 hf1 v1 W hr1 hl1

set_option maxRecDepth 100000 in
theorem ballotOnce_holds : Rows.BallotOnceSaid :=
  OpenClaim.holds_of_wide 8 Try.f8 rfl rfl rfl rfl rfl rfl rfl ⟨rfl, rfl, rfl, rfl, rfl⟩ rfl rfl rfl rfl rfl (by kernel_rfl) Try.func8 (by kernel_rfl)
    (of_decide_eq_true (by kernel_rfl)) (by unfold Func.isWrapper; rw [if_neg (by decide +kernel)]; exact ⟨rfl, rfl⟩)
    (fun os started H enc _ => ballotOnce_lifted os started H enc)

#print axioms ballotOnce_holds
end Go.Proofs.Ytjmojlhebjbgaaa

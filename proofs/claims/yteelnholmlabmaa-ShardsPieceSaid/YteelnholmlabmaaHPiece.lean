/- ShardsPiece is true for every input, and leaves its arguments as they were. No condition. -/
import Derived.Test.YteelnholmlabmaaHOpen
import Derived.Deep.CondSized
import Derived.JoinedCond
import Derived.Carry
import Derived.Test.YteelnholmlabmaaLawHP
namespace Go.Proofs.Yteelnholmlabmaa
open Go.ChangeShapes Go.WideShapes Go.ChangeAt Go.RowKit Go.Joins

set_option maxRecDepth 100000 in
theorem shardsPiece_lifted (os : Os) (started : os.Started) (H : Type) (enc : TypeId × Value → H) :
    ReturnsInHanded {} Try.checked os 4 .any (Rows.shardsPieceSpec.pre6 enc Try.prog Try.f4 Rows.shardsPieceRow.domain false) (Rows.shardsPieceSpec.post enc Try.prog Try.f4 false true false false) := by
  refine law_lifted os started H enc (by kernel_rfl) Try.func4
    (ChangeSpec.witness6 (enc := enc) (C := Try.checked) false ⟨#[], #[.slice none 0 0, .int .i64 0], []⟩ 8 (by kernel_rfl) (by kernel_rfl) (by kernel_rfl) (by kernel_rfl)) (by kernel_rfl) rfl rfl
    (fun ds h => by match ds, h with | [a, b], _ => rfl) ?_
  intro W base args ds p hval0 hA0 hlt hsz0
  have hval : ∀ (j : Nat) t v, Try.f4.params[j]? = some t → args[j]? = some v → Value.okWide Try.prog W .any base t v := hval0
  have hA := hA0
  have hsz := hsz0
  rw [Try.params4] at hA hval hsz
  obtain ⟨v0, v1, d0, d1, p0, p1, rfl, rfl, rfl, h0, h1⟩ := trodAll_two hA
  obtain ⟨l0, hr0, hl0⟩ := open_bounds (hval 0 22 v0 rfl rfl) h0 (weights_all hsz (j := 0) rfl rfl)
  obtain ⟨i1, rfl, rfl, rfl, hw1⟩ := open_int Try.underlying3 (hval 1 3 v1 rfl rfl) h1
  have hb1 := int_of_wf hw1
  exact shardsPiece_walk l0 i1 _ W hr0 hl0 hb1

set_option maxRecDepth 100000 in
theorem shardsPiece_holds : Rows.ShardsPieceSaid :=
  OpenClaim.holds_of_wide 4 Try.f4 rfl rfl rfl rfl rfl rfl rfl ⟨rfl, rfl, rfl, rfl, rfl⟩ rfl rfl rfl rfl rfl (by kernel_rfl) Try.func4 (by kernel_rfl)
    (of_decide_eq_true (by kernel_rfl)) (by unfold Func.isWrapper; rw [if_neg (by decide +kernel)]; exact ⟨rfl, rfl⟩)
    (fun os started H enc _ => shardsPiece_lifted os started H enc)

#print axioms shardsPiece_holds
end Go.Proofs.Yteelnholmlabmaa

/- ShardsReads is true for every input, and leaves its arguments as they were. No condition. -/
import Derived.Test.YteelnholmlabmaaHOpen
import Derived.Deep.CondSized
import Derived.JoinedCond
import Derived.Carry
import Derived.Test.YteelnholmlabmaaLawHR
namespace Go.Proofs.Yteelnholmlabmaa
open Go.ChangeShapes Go.WideShapes Go.ChangeAt Go.RowKit Go.Joins

set_option maxRecDepth 100000 in
theorem shardsReads_lifted (os : Os) (started : os.Started) (H : Type) (enc : TypeId × Value → H) :
    ReturnsInHanded {} Try.checked os 9 .any (Rows.shardsReadsSpec.pre6 enc Try.prog Try.f9 Rows.shardsReadsRow.domain false) (Rows.shardsReadsSpec.post enc Try.prog Try.f9 false true false false) := by
  refine law_lifted os started H enc (by kernel_rfl) Try.func9
    (ChangeSpec.witness6 (enc := enc) (C := Try.checked) false ⟨#[], #[.slice none 0 0, .agg #[.int .i64 0, .slice none 0 0, .slice none 0 0], .string ⟨#[]⟩], []⟩ 8 (by kernel_rfl) (by kernel_rfl) (by kernel_rfl) (by kernel_rfl)) (by kernel_rfl) rfl rfl
    (fun ds h => by match ds, h with | [a, b, c], _ => rfl) ?_
  intro W base args ds p hval0 hA0 hlt hsz0
  have hval : ∀ (j : Nat) t v, Try.f9.params[j]? = some t → args[j]? = some v → Value.okWide Try.prog W .any base t v := hval0
  have hA := hA0
  have hsz := hsz0
  rw [Try.params9] at hA hval hsz
  obtain ⟨v0, v1, v2, d0, d1, d2, p0, p1, p2, rfl, rfl, rfl, h0, h1, h2⟩ := trodAll_three hA
  obtain ⟨l0, hr0, hl0⟩ := open_bounds (hval 0 22 v0 rfl rfl) h0 (weights_all hsz (j := 0) rfl rfl)
  obtain ⟨t1, x1, y1, rfl, hp1, hc1, hf1, hi1⟩ := open_txn (hval 1 45 v1 rfl rfl) h1 (weights_all hsz (j := 1) rfl rfl)
  obtain ⟨k2, rfl, rfl, rfl, hk2⟩ := Go.ChangeMaps.open_string Try.underlying9 (hval 2 9 v2 rfl rfl) h2
  have hl2 : k2.size < 4611686018427387904 := by
    have := (weights_all hsz (j := 2) rfl rfl) k2.data.toList.length (by simp [DataW.weights])
    rw [show reachBytes = 140737488351232 from rfl] at this
    have : k2.size ≤ 140737488351232 := by simpa using this
    omega
  exact shardsReads_walk l0 t1 k2 hl2 hf1 hi1 _ x1 y1 W hr0 hp1 hc1 hl0

set_option maxRecDepth 100000 in
theorem shardsReads_holds : Rows.ShardsReadsSaid :=
  OpenClaim.holds_of_wide 9 Try.f9 rfl rfl rfl rfl rfl rfl rfl ⟨rfl, rfl, rfl, rfl, rfl⟩ rfl rfl rfl rfl rfl (by kernel_rfl) Try.func9 (by kernel_rfl)
    (of_decide_eq_true (by kernel_rfl)) (by unfold Func.isWrapper; rw [if_neg (by decide +kernel)]; exact ⟨rfl, rfl⟩)
    (fun os started H enc _ => shardsReads_lifted os started H enc)

#print axioms shardsReads_holds
end Go.Proofs.Yteelnholmlabmaa

/- MarksSplit is true for every input, and leaves its arguments as they were. No condition. -/
import Derived.Test.YtcmpbhcldaogiaaFah
import Derived.Deep.CondSized
import Derived.JoinedCond
import Derived.Test.YtcmpbhcldaogiaaLawMS
namespace Go.Proofs.Ytcmpbhcldaogiaa
open Go.ChangeShapes Go.WideShapes Go.ChangeAt Go.RowKit Go.Joins

set_option maxRecDepth 100000 in
theorem marksSplit_lifted (os : Os) (started : os.Started) (H : Type) (enc : TypeId × Value → H) :
    ReturnsInHanded {} Try.checked os 4 .any (Rows.marksSplitSpec.pre6 enc Try.prog Try.f4 Rows.marksSplitRow.domain false) (Rows.marksSplitSpec.post enc Try.prog Try.f4 false true false false) := by
  refine law_lifted os started H enc (by kernel_rfl) Try.func4
    (ChangeSpec.witness6 (enc := enc) (C := Try.checked) false ⟨#[], #[.slice none 0 0, .agg #[.int .i64 0, .slice none 0 0, .slice none 0 0], .string ⟨#[]⟩], []⟩ 8 (by kernel_rfl) (by kernel_rfl) (by kernel_rfl) (by kernel_rfl)) (by kernel_rfl) rfl rfl
    (fun ds h => by match ds, h with | [a, b, c], _ => rfl) ?_
  intro W base args ds p hval0 hA0 hlt hsz0
  have hval : ∀ (j : Nat) t v, Try.f4.params[j]? = some t → args[j]? = some v → Value.okWide Try.prog W .any base t v := hval0
  have hA := hA0
  have hsz := hsz0
  rw [Try.params4] at hA hval hsz
  obtain ⟨v0, v1, v2, d0, d1, d2, p0, p1, p2, rfl, rfl, rfl, h0, h1, h2⟩ := trodAll_three hA
  obtain ⟨l0, hr0⟩ := open_txs (hval 0 40 v0 rfl rfl) h0 (weights_all hsz (j := 0) rfl rfl)
  obtain ⟨t1, x1, y1, rfl, hr1⟩ := open_mtxn (hval 1 32 v1 rfl rfl) h1 (weights_all hsz (j := 1) rfl rfl)
  obtain ⟨k2, rfl, rfl, rfl, hk2⟩ := Go.ChangeMaps.open_string Try.underlying9 (hval 2 9 v2 rfl rfl) h2
  exact marksSplit_walk l0 v0 t1 x1 y1 k2 W hr0 hr1

set_option maxRecDepth 100000 in
theorem marksSplit_holds : Rows.MarksSplitSaid :=
  OpenClaim.holds_of_wide 4 Try.f4 rfl rfl rfl rfl rfl rfl rfl ⟨rfl, rfl, rfl, rfl, rfl⟩ rfl rfl rfl rfl rfl (by kernel_rfl) Try.func4 (by kernel_rfl)
    (of_decide_eq_true (by kernel_rfl)) (by unfold Func.isWrapper; rw [if_neg (by decide +kernel)]; exact ⟨rfl, rfl⟩)
    (fun os started H enc _ => marksSplit_lifted os started H enc)

#print axioms marksSplit_holds
end Go.Proofs.Ytcmpbhcldaogiaa

/- FrameSpoiled is true for every input, and leaves its arguments as they were. No condition. -/
import Derived.Test.YtiijcikdlemndaaOpenF
import Derived.Deep.CondSized
import Derived.JoinedCond
import Derived.Test.YtiijcikdlemndaaLawSp
namespace Go.Proofs.Ytiijcikdlemndaa
open Go.ChangeShapes Go.WideShapes Go.ChangeAt Go.RowKit Go.Joins

set_option maxRecDepth 100000 in
theorem frameSpoiled_lifted (os : Os) (started : os.Started) (H : Type) (enc : TypeId × Value → H) :
    ReturnsInHanded {} Try.checked os 8 .any (Rows.frameSpoiledSpec.pre6 enc Try.prog Try.f8 Rows.frameSpoiledRow.domain false) (Rows.frameSpoiledSpec.post enc Try.prog Try.f8 false true false false) := by
  refine law_lifted os started H enc (by kernel_rfl) Try.func8
    (ChangeSpec.witness6 (enc := enc) (C := Try.checked) false ⟨#[], #[.agg #[.int .i64 0, .int .i64 0, .int .i64 0, .int .i64 0, .int .i64 0, .int .i64 0, .int .i64 0, .slice none 0 0], .int .u16 0, .int .u32 0], []⟩ 8 (by kernel_rfl) (by kernel_rfl) (by kernel_rfl) (by kernel_rfl)) (by kernel_rfl) rfl rfl
    (fun ds h => by match ds, h with | [a, b, c], _ => rfl) ?_
  intro W base args ds p hval0 hA0 hlt hsz0
  have hval : ∀ (j : Nat) t v, Try.f8.params[j]? = some t → args[j]? = some v → Value.okWide Try.prog W .any base t v := hval0
  have hA := hA0
  have hsz := hsz0
  rw [Try.params8] at hA hval hsz
  obtain ⟨v0, v1, v2, d0, d1, d2, p0, p1, p2, rfl, rfl, rfl, h0, h1, h2⟩ := trodAll_three hA
  obtain ⟨m0, x0, rfl, hr0, hf0, hl0⟩ := open_msg (hval 0 24 v0 rfl rfl) h0 (weights_all hsz (j := 0) rfl rfl)
  obtain ⟨i1, rfl, rfl, rfl, hw1⟩ := open_int Try.underlying58 (hval 1 58 v1 rfl rfl) h1
  obtain ⟨n1, rfl, hn1⟩ := nat_of_wfu16 hw1
  obtain ⟨i2, rfl, rfl, rfl, hw2⟩ := open_int Try.underlying59 (hval 2 59 v2 rfl rfl) h2
  obtain ⟨n2, rfl, hn2⟩ := nat_of_wfu32 hw2
  exact frameSpoiled_walk m0 hf0 x0 n1 n2 hn1 hn2 W hr0 hl0

set_option maxRecDepth 100000 in
theorem frameSpoiled_holds : Rows.FrameSpoiledSaid :=
  OpenClaim.holds_of_wide 8 Try.f8 rfl rfl rfl rfl rfl rfl rfl ⟨rfl, rfl, rfl, rfl, rfl⟩ rfl rfl rfl rfl rfl (by kernel_rfl) Try.func8 (by kernel_rfl)
    (of_decide_eq_true (by kernel_rfl)) (by unfold Func.isWrapper; rw [if_neg (by decide +kernel)]; exact ⟨rfl, rfl⟩)
    (fun os started H enc _ => frameSpoiled_lifted os started H enc)

#print axioms frameSpoiled_holds
end Go.Proofs.Ytiijcikdlemndaa

/- CodeNums is true for every input, and leaves its arguments as they were. No condition. -/
import Derived.Test.YtnjkceekiipobaaOpenB
import Derived.Test.YtnjkceekiipobaaInts
import Derived.Test.YtnjkceekiipobaaWf
import Derived.Carry
import Derived.Test.YtnjkceekiipobaaLawNums
namespace Go.Proofs.Ytnjkceekiipobaa
open Go.ChangeShapes Go.WideShapes Go.ChangeAt Go.RowKit Go.Joins

set_option maxRecDepth 100000 in
theorem codeNums_lifted (os : Os) (started : os.Started) (H : Type) (enc : TypeId × Value → H) :
    ReturnsInHanded {} Try.checked os 3 .any (Rows.codeNumsSpec.pre6 enc Try.prog Try.f3 Rows.codeNumsRow.domain false) (Rows.codeNumsSpec.post enc Try.prog Try.f3 false true false false) := by
  refine law_lifted os started H enc (by kernel_rfl) Try.func3
    (ChangeSpec.witness6 (enc := enc) (C := Try.checked) false ⟨#[], #[.slice none 0 0, .int .i64 0], []⟩ 8 (by kernel_rfl) (by kernel_rfl) (by kernel_rfl) (by kernel_rfl)) (by kernel_rfl) rfl rfl
    (fun ds h => by match ds, h with | [a, b], _ => rfl) ?_
  intro W base args ds p hval0 hA0 hlt hsz0
  have hval : ∀ (j : Nat) t v, Try.f3.params[j]? = some t → args[j]? = some v → Value.okWide Try.prog W .any base t v := hval0
  have hA := hA0
  have hsz := hsz0
  rw [Try.params3] at hA hval hsz
  obtain ⟨v0, v1, d0, d1, p0, p1, rfl, rfl, rfl, h0, h1⟩ := trodAll_two hA
  obtain ⟨l0, hr0, hz0⟩ := open_bytes (hval 0 22 v0 rfl rfl) h0
  obtain ⟨i1, rfl, rfl, rfl, hw1⟩ := open_int Try.underlying3 (hval 1 3 v1 rfl rfl) h1
  have hn1 := int_of_wf hw1
  have hs0 := hz0.reach hsz (j := 0) rfl rfl
  exact codeNums_walk l0 _ hn1 _ W hr0 hs0

theorem codeNums_holds : Rows.CodeNumsSaid :=
  OpenClaim.holds_of_wide 3 Try.f3 rfl rfl rfl rfl rfl rfl rfl ⟨rfl, rfl, rfl, rfl, rfl⟩ rfl rfl rfl rfl rfl (by kernel_rfl) Try.func3 (by kernel_rfl)
    (of_decide_eq_true (by kernel_rfl)) (by unfold Func.isWrapper; rw [if_neg (by decide +kernel)]; exact ⟨rfl, rfl⟩)
    (fun os started H enc _ => codeNums_lifted os started H enc)

#print axioms codeNums_holds
end Go.Proofs.Ytnjkceekiipobaa

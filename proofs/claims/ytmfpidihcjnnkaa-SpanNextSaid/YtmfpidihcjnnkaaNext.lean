/- SpanNext is true for every input, and leaves its arguments as they were. No condition. -/
import Derived.Test.YtmfpidihcjnnkaaOpen
import Derived.Test.YtmfpidihcjnnkaaLawNext
namespace Go.Proofs.Ytmfpidihcjnnkaa
open Go.ChangeShapes Go.WideShapes Go.ChangeAt Go.RowKit Go.Joins
open Go.ChangeMaps (open_string)

set_option maxRecDepth 100000 in
theorem spanNext_lifted (os : Os) (started : os.Started) (H : Type) (enc : TypeId × Value → H) :
    ReturnsInHanded {} Try.checked os 4 .any (Rows.spanNextSpec.pre6 enc Try.prog Try.f4 Rows.spanNextRow.domain false) (Rows.spanNextSpec.post enc Try.prog Try.f4 false true false false) := by
  refine law_lifted os started H enc (by kernel_rfl) Try.func4
    (ChangeSpec.witness6 (enc := enc) (C := Try.checked) false ⟨#[], #[.string ⟨#[]⟩, .string ⟨#[]⟩], []⟩ 8 (by kernel_rfl) (by kernel_rfl) (by kernel_rfl) (by kernel_rfl)) (by kernel_rfl) rfl rfl
    (fun ds h => by match ds, h with | [a, b], _ => rfl) ?_
  intro W base args ds p hval0 hA0 hlt hsz0
  have hval : ∀ (j : Nat) t v, Try.f4.params[j]? = some t → args[j]? = some v → Value.okWide Try.prog W .any base t v := hval0
  have hA := hA0
  have hsz := hsz0
  rw [Try.params4] at hA hval hsz
  obtain ⟨v0, v1, d0, d1, p0, p1, rfl, rfl, rfl, h0, h1⟩ := trodAll_two hA
  obtain ⟨k0, rfl, rfl, rfl, hk0⟩ := open_string Try.underlying9 (hval 0 9 v0 rfl rfl) h0
  have hs0 : k0.size ≤ reachBytes := by have := sized_string hsz (j := 0) rfl rfl; simpa using this
  obtain ⟨k1, rfl, rfl, rfl, hk1⟩ := open_string Try.underlying9 (hval 1 9 v1 rfl rfl) h1
  have hs1 : k1.size ≤ reachBytes := by have := sized_string hsz (j := 1) rfl rfl; simpa using this
  exact spanNext_walk k0 k1 W (by have := reachBytes_lt; omega)

theorem spanNext_holds : Rows.SpanNextSaid :=
  OpenClaim.holds_of_wide 4 Try.f4 rfl rfl rfl rfl rfl rfl rfl ⟨rfl, rfl, rfl, rfl, rfl⟩ rfl rfl rfl rfl rfl (by kernel_rfl) Try.func4 (by kernel_rfl)
    (of_decide_eq_true (by kernel_rfl)) (by unfold Func.isWrapper; rw [if_neg (by decide +kernel)]; exact ⟨rfl, rfl⟩)
    (fun os started H enc _ => spanNext_lifted os started H enc)

#print axioms spanNext_holds
end Go.Proofs.Ytmfpidihcjnnkaa

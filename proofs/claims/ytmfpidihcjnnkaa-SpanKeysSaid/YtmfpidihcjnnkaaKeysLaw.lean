/- SpanKeys is true for every input, and leaves its arguments as they were. No condition. -/
import Derived.Test.YtmfpidihcjnnkaaOpen
import Derived.Test.YtmfpidihcjnnkaaLawKeys
namespace Go.Proofs.Ytmfpidihcjnnkaa
open Go.ChangeShapes Go.WideShapes Go.ChangeAt Go.RowKit Go.Joins
open Go.ChangeMaps (open_string)

set_option maxRecDepth 100000 in
theorem spanKeys_lifted (os : Os) (started : os.Started) (H : Type) (enc : TypeId × Value → H) :
    ReturnsInHanded {} Try.checked os 9 .any (Rows.spanKeysSpec.pre6 enc Try.prog Try.f9 Rows.spanKeysRow.domain false) (Rows.spanKeysSpec.post enc Try.prog Try.f9 false true false false) := by
  refine law_lifted os started H enc (by kernel_rfl) Try.func9
    (ChangeSpec.witness6 (enc := enc) (C := Try.checked) false ⟨#[], #[.agg #[.string ⟨#[]⟩, .string ⟨#[]⟩], .slice none 0 0, .string ⟨#[]⟩], []⟩ 8 (by kernel_rfl) (by kernel_rfl) (by kernel_rfl) (by kernel_rfl)) (by kernel_rfl) rfl rfl
    (fun ds h => by match ds, h with | [a, b, c], _ => rfl) ?_
  intro W base args ds p hval0 hA0 hlt hsz0
  have hval : ∀ (j : Nat) t v, Try.f9.params[j]? = some t → args[j]? = some v → Value.okWide Try.prog W .any base t v := hval0
  have hA := hA0
  have hsz := hsz0
  rw [Try.params9] at hA hval hsz
  obtain ⟨v0, v1, v2, d0, d1, d2, p0, p1, p2, rfl, rfl, rfl, h0, h1, h2⟩ := trodAll_three hA
  obtain ⟨a0, b0, y0, z0, m0, rfl, rfl, rfl, hy0, hz0⟩ := open_agg2 Try.underlying23 (by kernel_rfl) span_cells (hval 0 23 v0 rfl rfl) h0
  obtain ⟨sa0, e0, _, _⟩ := DataW.trod_string Try.underlying9 hy0
  obtain ⟨sb0, f0, _, _⟩ := DataW.trod_string Try.underlying9 hz0
  simp at e0 f0
  subst e0 f0
  obtain ⟨l1, hl1⟩ := open_spans (hval 1 36 v1 rfl rfl) h1
  obtain ⟨k2, rfl, rfl, rfl, hk2⟩ := open_string Try.underlying9 (hval 2 9 v2 rfl rfl) h2
  have hs2 : k2.size ≤ reachBytes := by have := sized_string hsz (j := 2) rfl rfl; simpa using this
  exact spanKeys_walk (sa0, sb0) l1 _ k2 W hl1

theorem spanKeys_holds : Rows.SpanKeysSaid :=
  OpenClaim.holds_of_wide 9 Try.f9 rfl rfl rfl rfl rfl rfl rfl ⟨rfl, rfl, rfl, rfl, rfl⟩ rfl rfl rfl rfl rfl (by kernel_rfl) Try.func9 (by kernel_rfl)
    (of_decide_eq_true (by kernel_rfl)) (by unfold Func.isWrapper; rw [if_neg (by decide +kernel)]; exact ⟨rfl, rfl⟩)
    (fun os started H enc _ => spanKeys_lifted os started H enc)

#print axioms spanKeys_holds
end Go.Proofs.Ytmfpidihcjnnkaa

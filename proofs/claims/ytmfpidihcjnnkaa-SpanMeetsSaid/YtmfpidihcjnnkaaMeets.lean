/- SpanMeets is true for every input, and leaves its arguments as they were. No condition. -/
import Derived.Test.YtmfpidihcjnnkaaOpen
import Derived.Test.YtmfpidihcjnnkaaLawMeets
namespace Go.Proofs.Ytmfpidihcjnnkaa
open Go.ChangeShapes Go.WideShapes Go.ChangeAt Go.RowKit Go.Joins
open Go.ChangeMaps (open_string)

set_option maxRecDepth 100000 in
theorem spanMeets_lifted (os : Os) (started : os.Started) (H : Type) (enc : TypeId × Value → H) :
    ReturnsInHanded {} Try.checked os 6 .any (Rows.spanMeetsSpec.pre6 enc Try.prog Try.f6 Rows.spanMeetsRow.domain false) (Rows.spanMeetsSpec.post enc Try.prog Try.f6 false true false false) := by
  refine law_lifted os started H enc (by kernel_rfl) Try.func6
    (ChangeSpec.witness6 (enc := enc) (C := Try.checked) false ⟨#[], #[.agg #[.string ⟨#[]⟩, .string ⟨#[]⟩], .agg #[.string ⟨#[]⟩, .string ⟨#[]⟩], .string ⟨#[]⟩], []⟩ 8 (by kernel_rfl) (by kernel_rfl) (by kernel_rfl) (by kernel_rfl)) (by kernel_rfl) rfl rfl
    (fun ds h => by match ds, h with | [a, b, c], _ => rfl) ?_
  intro W base args ds p hval0 hA0 hlt hsz0
  have hval : ∀ (j : Nat) t v, Try.f6.params[j]? = some t → args[j]? = some v → Value.okWide Try.prog W .any base t v := hval0
  have hA := hA0
  have hsz := hsz0
  rw [Try.params6] at hA hval hsz
  obtain ⟨v0, v1, v2, d0, d1, d2, p0, p1, p2, rfl, rfl, rfl, h0, h1, h2⟩ := trodAll_three hA
  obtain ⟨a0, b0, y0, z0, m0, rfl, rfl, rfl, hy0, hz0⟩ := open_agg2 Try.underlying23 (by kernel_rfl) span_cells (hval 0 23 v0 rfl rfl) h0
  obtain ⟨sa0, e0, _, _⟩ := DataW.trod_string Try.underlying9 hy0
  obtain ⟨sb0, f0, _, _⟩ := DataW.trod_string Try.underlying9 hz0
  simp at e0 f0
  subst e0 f0
  obtain ⟨a1, b1, y1, z1, m1, rfl, rfl, rfl, hy1, hz1⟩ := open_agg2 Try.underlying23 (by kernel_rfl) span_cells (hval 1 23 v1 rfl rfl) h1
  obtain ⟨sa1, e1, _, _⟩ := DataW.trod_string Try.underlying9 hy1
  obtain ⟨sb1, f1, _, _⟩ := DataW.trod_string Try.underlying9 hz1
  simp at e1 f1
  subst e1 f1
  obtain ⟨k2, rfl, rfl, rfl, hk2⟩ := open_string Try.underlying9 (hval 2 9 v2 rfl rfl) h2
  have hs2 : k2.size ≤ reachBytes := by have := sized_string hsz (j := 2) rfl rfl; simpa using this
  exact spanMeets_walk (sa0, sb0) (sa1, sb1) k2 W

theorem spanMeets_holds : Rows.SpanMeetsSaid :=
  OpenClaim.holds_of_wide 6 Try.f6 rfl rfl rfl rfl rfl rfl rfl ⟨rfl, rfl, rfl, rfl, rfl⟩ rfl rfl rfl rfl rfl (by kernel_rfl) Try.func6 (by kernel_rfl)
    (of_decide_eq_true (by kernel_rfl)) (by unfold Func.isWrapper; rw [if_neg (by decide +kernel)]; exact ⟨rfl, rfl⟩)
    (fun os started H enc _ => spanMeets_lifted os started H enc)

#print axioms spanMeets_holds
end Go.Proofs.Ytmfpidihcjnnkaa

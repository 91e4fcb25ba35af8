/- The program's Least, told by whether all are changes. -/
import Derived.Test.YtdkdolcocblhkaaLeast
import Derived.Test.YtdkdolcocblhkaaLawApp
namespace Go.Proofs.Ytdkdolcocblhkaa
open Go.RowKit
attribute [local go_sem] less_eq same_eq le_eq ge_eq gt_eq

theorem least_len {l : List Chg} {G : List (K × K)} (hf : Fits G (goneP l)) : (G.map toGone ++ (applyP [] l).map toPut).length ≤ 3 * l.length := by
  have h1 := (gone_spans (hf.congr fun k => gone_eq l k)).1
  have h2 := applyP_length [] l
  simp at h2 ⊢
  omega
/-- the fewest changes, told by whether all are changes -/
theorem pleast_good (l : List Chg) (hs : ∀ c ∈ l, smallC c) (v : Value) (w : World) (hv : RdC w w.heap.size v l) (hl : l.length ≤ 900000) (h0 : allAns l = 0) :
    Calls Try.prog 23 #[v] w fun e w' => ∃ A G R c, e = .returned (.tuple #[.slice A R.length c, .int .i64 0]) ∧ RdC w' w'.heap.size (.slice A R.length c) R ∧ Below w.heap.size w w' ∧ R = G.map toGone ++ (applyP [] l).map toPut ∧ Fits G (goneP l) ∧ R.length < 4611686018427387904 :=
  (pleast_any l hs v w hv hl).mono fun e w' h => by
    obtain ⟨v', q, rfl, hb, h⟩ := h
    rcases h with ⟨h1, h2, rfl⟩ | ⟨_, rfl, G, ho, hf⟩
    · exact absurd (h1.trans h0) h2
    · have hr := ho.rd encC_len
      have hlen := least_len hf
      obtain ⟨A, c, rfl, _⟩ := Own.slice ho
      exact ⟨A, G, _, c, rfl, hr, hb, rfl, hf, by omega⟩
theorem pleast_bad (l : List Chg) (hs : ∀ c ∈ l, smallC c) (v : Value) (w : World) (hv : RdC w w.heap.size v l) (hl : l.length ≤ 900000) (h0 : allAns l ≠ 0) :
    Calls Try.prog 23 #[v] w fun e w' => e = .returned (.tuple #[.slice none 0 0, .int .i64 (allAns l)]) ∧ Below w.heap.size w w' :=
  (pleast_any l hs v w hv hl).mono fun e w' h => by
    obtain ⟨v', q, rfl, hb, h⟩ := h
    rcases h with ⟨rfl, h2, rfl⟩ | ⟨h1, rfl, G, ho, hf⟩
    · exact ⟨rfl, hb⟩
    · exact absurd h1 h0
end Go.Proofs.Ytdkdolcocblhkaa

/- The program's Least, told by whether all are changes. -/
import Derived.Test.YtdkdolcocblhkaaLeast
import Derived.Test.YtdkdolcocblhkaaLawApp
import Derived.Test.YtdkdolcocblhkaaSameM
namespace Go.Proofs.Ytdkdolcocblhkaa
open Go.RowKit
attribute [local go_sem] less_eq same_eq le_eq ge_eq gt_eq

theorem least_len {l : List Chg} {G : List (K × K)} (hf : Fits G (goneP l)) : (G.map toGone ++ (applyP [] l).map toPut).length ≤ 3 * l.length := by
  have h1 := (gone_spans (hf.congr fun k => gone_eq l k)).1
  have h2 := applyP_length [] l
  simp at h2 ⊢
  omega
/-- the fewest changes, told by whether all are changes -/
theorem pleast_good (l : List Chg) (hs : ∀ c ∈ l, smallC c) (v : Value) (w : World) (hv : RdC w w.heap.size v l) (hl : l.length ≤ 900000) (h0 : allAns l = 0) :
    Calls Try.prog 23 #[v] w fun e w' => ∃ A G R c, e = .returned (.tuple #[.slice A R.length c, .int .i64 0]) ∧ RdC w' w'.heap.size (.slice A R.length c) R ∧ Below w.heap.size w w' ∧ R = G.map toGone ++ (applyP [] l).map toPut ∧ Fits G (goneP l) ∧ R.length < 4611686018427387904 :=
  (pleast_any l hs v w hv hl).mono fun e w' h => by
    obtain ⟨v', q, rfl, hb, h⟩ := h
    rcases h with ⟨h1, h2, rfl⟩ | ⟨_, rfl, G, ho, hf⟩
    · exact absurd (h1.trans h0) h2
    · have hr := ho.rd encC_len
      have hlen := least_len hf
      obtain ⟨A, c, rfl, _⟩ := Own.slice ho
      exact ⟨A, G, _, c, rfl, hr, hb, rfl, hf, by omega⟩
theorem pleast_bad (l : List Chg) (hs : ∀ c ∈ l, smallC c) (v : Value) (w : World) (hv : RdC w w.heap.size v l) (hl : l.length ≤ 900000) (h0 : allAns l ≠ 0) :
    Calls Try.prog 23 #[v] w fun e w' => e = .returned (.tuple #[.slice none 0 0, .int .i64 (allAns l)]) ∧ Below w.heap.size w w' :=
  (pleast_any l hs v w hv hl).mono fun e w' h => by
    obtain ⟨v', q, rfl, hb, h⟩ := h
    rcases h with ⟨rfl, h2, rfl⟩ | ⟨h1, rfl, G, ho, hf⟩
    · exact ⟨rfl, hb⟩
    · exact absurd h1 h0
noncomputable def leastRes (cs : List Chg) : List Chg := if allAns cs = 0 then leastP cs else []
def LeastRd (L : List Chg) (q : Int) (w : World) (e : Ending) (w' : World) : Prop := ∃ A' c', e = .returned (.tuple #[.slice A' L.length c', .int .i64 q]) ∧ RdC w' w'.heap.size (.slice A' L.length c') L ∧ Below w.heap.size w w'
theorem pleast_rd (l : List Chg) (hs : ∀ c ∈ l, smallC c) (v : Value) (w : World) (hv : RdC w w.heap.size v l) (hl : l.length ≤ 900000) :
    Calls Try.prog 23 #[v] w (LeastRd (leastRes l) (allAns l) w) := by
  by_cases h0 : allAns l = 0
  · refine (pleast_good l hs v w hv hl h0).mono fun e w' h => ?_
    obtain ⟨A, G, R, c, rfl, hr, hb, hq, hf, _⟩ := h
    rw [leastP_eq hf] at hq
    subst hq
    rw [h0, leastRes, if_pos h0]
    exact ⟨A, c, rfl, hr, hb⟩
  · refine (pleast_bad l hs v w hv hl h0).mono fun e w' h => ?_
    obtain ⟨rfl, hb⟩ := h
    rw [leastRes, if_neg h0]
    exact ⟨none, 0, rfl, Rd.nil _ _, hb⟩
theorem small_nil : ∀ p ∈ ([] : List (K × K)), p.1.size < 4611686018427387904 ∧ p.2.size < 4611686018427387904 := by simp
theorem small_sound {l : List (K × K)} (h : soundP l = true) : ∀ p ∈ l, p.1.size < 4611686018427387904 ∧ p.2.size < 4611686018427387904 := fun p hp => by
  have := (soundP_spec h).2 p hp
  omega
theorem applyErr_bad {l : List (K × K)} {cs : List Chg} (h : allAns cs ≠ 0) : applyErr l cs = allAns cs := by unfold applyErr; rw [if_pos h]
theorem applyErr_wild {l : List (K × K)} {cs : List Chg} (h : allAns cs = 0) (h2 : ¬ soundP l = true) : applyErr l cs = 2 := by unfold applyErr; rw [if_neg (by simpa using h), if_neg h2]
theorem applyErr_good {l : List (K × K)} {cs : List Chg} (h : allAns cs = 0) (h2 : soundP l = true) : applyErr l cs = 0 := applyErr_zero.2 ⟨h, h2⟩
theorem applyRes_good {l : List (K × K)} {cs : List Chg} (h : allAns cs = 0) (h2 : soundP l = true) : applyRes l cs = applyP l cs := by unfold applyRes; rw [if_pos (applyErr_good h h2)]

end Go.Proofs.Ytdkdolcocblhkaa

/- Lists of lists of changes, as they came in; what a Past that goes on keeps. -/
import Derived.Test.YtpfhkijnaiopoaaPTwo
namespace Go.Proofs.Ytpfhkijnaiopoaa
open Go.RowKit

/-- one list of changes, as it came in -/
structure PCl where
  v : Value
  l : List Chg
def encPCl (a : PCl) : List Value := [a.v]
theorem RdCl.at {w : World} {B : Nat} {v : Value} {l : List PCl} (h : Rd encPCl 1 w B v l) : ∃ A c, v = .slice A l.length c ∧ l.length ≤ c ∧ ∀ i (_ : i < l.length), ∃ b o, A = some ⟨b, o, none⟩ ∧ b < B ∧ w.cell? ⟨b, o + i, none⟩ = some l[i].v := by
  obtain ⟨A, c, hv, hc, hi⟩ := h
  refine ⟨A, c, hv, hc, fun i hs => ?_⟩
  obtain ⟨b, o, hA, hB, h1⟩ := hi i hs
  have := h1 0 _ rfl
  simp only [Nat.mul_one, Nat.add_zero] at this
  exact ⟨b, o, hA, hB, this⟩
def bulkC (l : List PCl) : Nat := (l.map fun a => a.l.length).sum
theorem bulkC_drop (l : List PCl) (i : Nat) (h : i < l.length) : bulkC (l.drop i) = l[i].l.length + bulkC (l.drop (i + 1)) := by
  unfold bulkC
  rw [List.drop_eq_getElem_cons h, List.map_cons, List.sum_cons]

/-- a list that is sound, at a version behind the last -/
theorem add_on {p : Pa} {v : Int} {cs : List Chg} (h1 : p.last < v) (h2 : allAns cs = 0) : ∃ p', p.add v cs = (0, p') ∧ p'.last = v ∧ p'.first = p.first ∧ (∀ u, v ≤ u → p'.at_ u = applyP (p.at_ p.last) cs) ∧ (∀ u, u < v → p'.at_ u = p.at_ u) := by
  refine ⟨_, add_good (by omega) h2, rfl, rfl, fun u hu => ?_, fun u hu => ?_⟩
  · show atL (_ ++ _) u = _
    rw [atL_snoc, if_pos hu]
  · show atL (_ ++ _) u = _
    rw [atL_snoc, if_neg (by omega)]
    rfl
theorem forget_good {p : Pa} {k : Int} (h1 : k ≤ p.last) (h2 : p.first ≤ k) : ∃ p', p.forget k = (0, p') ∧ p'.last = p.last ∧ p'.first = k ∧ ∀ u, p'.at_ u = p.at_ u := by
  unfold Pa.forget
  rw [if_neg (by omega)]
  by_cases h : p.first < k
  · rw [if_pos h]
    exact ⟨_, rfl, rfl, rfl, fun _ => rfl⟩
  · rw [if_neg h]
    exact ⟨_, rfl, rfl, by omega, fun _ => rfl⟩
theorem forget_new {p : Pa} {k : Int} (h : p.last < k) : p.forget k = (8, p) := by
  unfold Pa.forget
  rw [if_pos h]
end Go.Proofs.Ytpfhkijnaiopoaa

/- A Past as a state: pure. -/
import Derived.Test.YtpfhkijnaiopoaaROne
import Derived.Test.YtpfhkijnaiopoaaRSound
namespace Go.Proofs.Ytpfhkijnaiopoaa

theorem oneGo_len (c : Chg) : ∀ (l : List (K × K)) (put : Bool), (oneGo c put l).length + (if put then 1 else 0) ≤ l.length + 1
  | [], put => by cases put <;> simp [oneGo]
  | p :: r, put => by
    have h := oneGo_len c r (put || decide (c.key ≤ p.1))
    rw [oneGo]
    cases put
    · by_cases hk : c.key ≤ p.1
      · simp only [Bool.not_false, Bool.true_and, hk, decide_true, if_true, Bool.false_or, List.length_append, List.length_cons, List.length_nil, Bool.false_eq_true, if_false] at h ⊢
        split <;> simp <;> omega
      · simp only [Bool.not_false, Bool.true_and, hk, decide_false, Bool.false_or, List.length_append, List.length_cons, List.length_nil, Bool.false_eq_true, if_false] at h ⊢
        split <;> simp <;> omega
    · simp only [Bool.not_true, Bool.false_and, Bool.true_or, if_true, List.length_append, List.length_cons, List.length_nil, Bool.false_eq_true, if_false] at h ⊢
      split <;> simp <;> omega
theorem oneP_len (l : List (K × K)) (c : Chg) : (oneP l c).length ≤ l.length + 1 := by
  have h := oneGo_len c l (!decide (c.kind = 1))
  unfold oneP
  omega
/-- pairs behind changes -/
def applyP (l : List (K × K)) (cs : List Chg) : List (K × K) := cs.foldl oneP l
theorem applyP_len (l : List (K × K)) : ∀ cs : List Chg, (applyP l cs).length ≤ l.length + cs.length
  | [] => by simp [applyP]
  | c :: r => by
    have h1 := applyP_len (oneP l c) r
    have h2 := oneP_len l c
    show (applyP (oneP l c) r).length ≤ _
    simp only [List.length_cons]
    omega
theorem applyP_take (l : List (K × K)) (cs : List Chg) (j : Nat) (h : j < cs.length) : applyP l (cs.take (j + 1)) = oneP (applyP l (cs.take j)) cs[j] := by
  unfold applyP
  rw [List.take_add_one, List.getElem?_eq_getElem h, Option.toList_some, List.foldl_append]
  rfl
theorem applyP_append (l : List (K × K)) (a b : List Chg) : applyP l (a ++ b) = applyP (applyP l a) b := by simp [applyP]

abbrev Prs := List (K × K)
/-- a Past: the pairs behind each version at which something was done, by rising versions -/
structure Pa where
  first : Int
  last : Int
  l : List (Int × Prs)
/-- the pairs at a version -/
def atL (l : List (Int × Prs)) (v : Int) : Prs := l.foldl (fun acc x => if x.1 ≤ v then x.2 else acc) []
theorem atL_take (l : List (Int × Prs)) (v : Int) (i : Nat) (h : i < l.length) : atL (l.take (i + 1)) v = if l[i].1 ≤ v then l[i].2 else atL (l.take i) v := by
  unfold atL
  rw [List.take_add_one, List.getElem?_eq_getElem h, Option.toList_some, List.foldl_append]
  rfl
theorem atL_snoc (l : List (Int × Prs)) (v u : Int) (ps : Prs) : atL (l ++ [(u, ps)]) v = if u ≤ v then ps else atL l v := by
  unfold atL
  rw [List.foldl_append]
  rfl
/-- the first pair of a key -/
def valOf (l : Prs) (k : K) : K × Bool := match l.find? (fun p => decide (p.1 = k)) with
  | some p => (p.2, true)
  | none => (⟨#[]⟩, false)
namespace Pa
def new : Pa := ⟨0, 0, []⟩
def from_ (v : Int) (ps : Prs) : Pa := ⟨v, v, [(v, ps)]⟩
def at_ (p : Pa) (v : Int) : Prs := atL p.l v
def known (p : Pa) (v : Int) : Int := if v < p.first then 7 else if p.last < v then 8 else 0
def add (p : Pa) (v : Int) (cs : List Chg) : Int × Pa :=
  if v ≤ p.last then (9, p) else if allAns cs ≠ 0 then (allAns cs, p) else (0, { p with last := v, l := p.l ++ [(v, applyP (p.at_ p.last) cs)] })
def get (p : Pa) (k : K) (v : Int) : (K × Bool) × Int := if p.known v ≠ 0 then ((⟨#[]⟩, false), p.known v) else (valOf (p.at_ v) k, 0)
def list (p : Pa) (s : K × K) (v most : Int) : Prs × Int :=
  if p.known v ≠ 0 then ([], p.known v) else if most < 0 then ([], 1) else (((p.at_ v).filter (fun x => hasB s x.1)).take most.toNat, 0)
def forget (p : Pa) (v : Int) : Int × Pa := if p.last < v then (8, p) else if p.first < v then (0, { p with first := v }) else (0, p)
def back (p : Pa) (v : Int) : Int × Pa := if p.known v ≠ 0 then (p.known v, p) else (0, { p with last := v, l := p.l.filter fun x => decide (x.1 ≤ v) })
end Pa
end Go.Proofs.Ytpfhkijnaiopoaa

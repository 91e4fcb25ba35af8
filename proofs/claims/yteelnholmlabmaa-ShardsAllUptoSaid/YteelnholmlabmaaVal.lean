/- What changes do to one key: pure. -/
import Derived.Test.YteelnholmlabmaaNextM
import Derived.Test.YteelnholmlabmaaPTx
import Derived.Test.YteelnholmlabmaaRApply
import Derived.Test.YteelnholmlabmaaRCut
import Derived.Test.YteelnholmlabmaaRSound
namespace Go.Proofs.Yteelnholmlabmaa

abbrev Prs := List (K × K)
/-- the first pair of a key -/
def valOf (l : Prs) (k : K) : K × Bool := match l.find? (fun p => decide (p.1 = k)) with
  | some p => (p.2, true)
  | none => (⟨#[]⟩, false)
def Rises (l : List (K × K)) : Prop := l.Pairwise (fun a b => a.1 < b.1)
theorem Rises.lt {l : List (K × K)} (h : Rises l) {i j : Nat} (hj : j < l.length) (hij : i < j) : l[i].1 < l[j].1 := List.pairwise_iff_getElem.1 h i j (by omega) hj hij
theorem key_next (a k : K) : (a ≤ k ∧ k < a ++ ⟨#[0]⟩) ↔ k = a := next_only a k
theorem has_cspan (c : Chg) (hc : c.kind ≠ 3) (k : K) : has (cspan c) k ↔ k = c.key := by
  unfold cspan has
  rw [if_neg hc]
  exact key_next c.key k
theorem hasB_iff (s : K × K) (k : K) : hasB s k = true ↔ has s k := by
  unfold hasB has
  simp
theorem mem_oneGo (c : Chg) (p : K × K) : ∀ (l : List (K × K)) (put : Bool), p ∈ oneGo c put l ↔ (p ∈ l ∧ ¬ has (cspan c) p.1) ∨ (put = false ∧ p = (c.key, c.val))
  | [], put => by cases put <;> simp [oneGo]
  | x :: r, put => by
    have ih1 := mem_oneGo c p r true
    have ih2 := mem_oneGo c p r (put || decide (c.key ≤ x.1))
    rw [oneGo, List.mem_append, List.mem_append, ih2]
    have hx := hasB_iff (cspan c) x.1
    cases put
    · by_cases hk : c.key ≤ x.1
      · by_cases hb : hasB (cspan c) x.1 = true
        · have := hx.1 hb
          simp [hk, hb]
          constructor
          · rintro (h | ⟨h1, h2⟩)
            · exact .inr h
            · exact .inl ⟨.inr h1, h2⟩
          · rintro (⟨h1 | h1, h2⟩ | h)
            · subst h1; exact absurd this h2
            · exact .inr ⟨h1, h2⟩
            · exact .inl h
        · have hn : ¬ has (cspan c) x.1 := fun h => hb (hx.2 h)
          simp [hk, hb]
          constructor
          · rintro (h | h | ⟨h1, h2⟩)
            · exact .inr h
            · subst h; exact .inl ⟨.inl rfl, hn⟩
            · exact .inl ⟨.inr h1, h2⟩
          · rintro (⟨h1 | h1, h2⟩ | h)
            · exact .inr (.inl h1)
            · exact .inr (.inr ⟨h1, h2⟩)
            · exact .inl h
      · by_cases hb : hasB (cspan c) x.1 = true
        · have := hx.1 hb
          simp [hk, hb]
          constructor
          · rintro (⟨h1, h2⟩ | h)
            · exact .inl ⟨.inr h1, h2⟩
            · exact .inr h
          · rintro (⟨h1 | h1, h2⟩ | h)
            · subst h1; exact absurd this h2
            · exact .inl ⟨h1, h2⟩
            · exact .inr h
        · have hn : ¬ has (cspan c) x.1 := fun h => hb (hx.2 h)
          simp [hk, hb]
          constructor
          · rintro (h | ⟨h1, h2⟩ | h)
            · subst h; exact .inl ⟨.inl rfl, hn⟩
            · exact .inl ⟨.inr h1, h2⟩
            · exact .inr h
          · rintro (⟨h1 | h1, h2⟩ | h)
            · exact .inl h1
            · exact .inr (.inl ⟨h1, h2⟩)
            · exact .inr (.inr h)
    · by_cases hb : hasB (cspan c) x.1 = true
      · have := hx.1 hb
        simp [hb]
        intro h2 h1
        subst h1; exact absurd this h2
      · have hn : ¬ has (cspan c) x.1 := fun h => hb (hx.2 h)
        simp [hb]
        constructor
        · rintro (h | ⟨h1, h2⟩)
          · subst h; exact ⟨.inl rfl, hn⟩
          · exact ⟨.inr h1, h2⟩
        · rintro ⟨h1 | h1, h2⟩
          · exact .inl h1
          · exact .inr ⟨h1, h2⟩
theorem mem_oneP (l : List (K × K)) (c : Chg) (p : K × K) : p ∈ oneP l c ↔ (p ∈ l ∧ ¬ has (cspan c) p.1) ∨ (c.kind = 1 ∧ p = (c.key, c.val)) := by
  unfold oneP
  rw [mem_oneGo]
  simp

theorem rises_cons {x : K × K} {r : List (K × K)} : Rises (x :: r) ↔ (∀ p ∈ r, x.1 < p.1) ∧ Rises r := List.pairwise_cons
theorem rises_append {a b : List (K × K)} : Rises (a ++ b) ↔ Rises a ∧ Rises b ∧ ∀ p ∈ a, ∀ q ∈ b, p.1 < q.1 := List.pairwise_append
theorem rises_oneGo (c : Chg) : ∀ (l : List (K × K)) (put : Bool), (put = false → c.kind = 1) → Rises l → Rises (oneGo c put l)
  | [], put, _, _ => by cases put <;> simp [oneGo, Rises]
  | x :: r, put, hk, h => by
    obtain ⟨h1, h2⟩ := rises_cons.1 h
    have hx := hasB_iff (cspan c) x.1
    rw [oneGo]
    cases put
    · have hk1 := hk rfl
      by_cases hkx : c.key ≤ x.1
      · have ih := rises_oneGo c r true (by simp) h2
        have hm := fun p => mem_oneGo c p r true
        simp only [Bool.not_false, Bool.true_and, hkx, decide_true, if_true, Bool.or_true]
        by_cases hb : hasB (cspan c) x.1 = true
        · simp only [hb, if_true, List.nil_append]
          refine rises_append.2 ⟨by simp [Rises], ih, fun p hp q hq => ?_⟩
          simp only [List.mem_singleton] at hp; subst hp
          have h3 := h1 q (by have := (hm q).1 hq; simp at this; exact this.1)
          simp only; grind
        · have hn : ¬ has (cspan c) x.1 := fun h => hb (hx.2 h)
          have hne : x.1 ≠ c.key := fun e => hn ((has_cspan c (by omega) x.1).2 e)
          simp only [hb]
          refine rises_append.2 ⟨by simp [Rises], rises_append.2 ⟨by simp [Rises], ih, fun p hp q hq => ?_⟩, fun p hp q hq => ?_⟩
          · simp only [Bool.false_eq_true, if_false, List.mem_singleton] at hp; subst hp
            exact h1 q (by have := (hm q).1 hq; simp at this; exact this.1)
          · simp only [List.mem_singleton] at hp; subst hp
            rcases List.mem_append.1 hq with hq | hq
            · simp only [Bool.false_eq_true, if_false, List.mem_singleton] at hq; subst hq
              simp only; grind
            · have h3 := h1 q (by have := (hm q).1 hq; simp at this; exact this.1)
              simp only; grind
      · have ih := rises_oneGo c r false (fun _ => hk1) h2
        have hm := fun p => mem_oneGo c p r false
        simp only [Bool.not_false, Bool.true_and, hkx, decide_false, Bool.false_eq_true, if_false, Bool.or_false, List.nil_append]
        refine rises_append.2 ⟨by split <;> simp [Rises], ih, fun p hp q hq => ?_⟩
        have hpx : p = x := by split at hp <;> simp at hp; exact hp
        subst hpx
        rcases (hm q).1 hq with ⟨h3, _⟩ | ⟨_, h3⟩
        · exact h1 q h3
        · rw [h3]; simp only; grind
    · have ih := rises_oneGo c r true (by simp) h2
      have hm := fun p => mem_oneGo c p r true
      simp only [Bool.not_true, Bool.false_and, Bool.false_eq_true, if_false, Bool.true_or, List.nil_append]
      refine rises_append.2 ⟨by split <;> simp [Rises], ih, fun p hp q hq => ?_⟩
      have hpx : p = x := by split at hp <;> simp at hp; exact hp
      subst hpx
      exact h1 q (by have := (hm q).1 hq; simp at this; exact this.1)
theorem rises_oneP {l : List (K × K)} (c : Chg) (h : Rises l) : Rises (oneP l c) := rises_oneGo c l _ (by simp) h

theorem soundP_spec {l : List (K × K)} (h : soundP l = true) : Rises l ∧ ∀ p ∈ l, p.1.size ≤ 16 ∧ p.2.size ≤ 64 := by
  have key : ∀ (l : List (K × K)) (o : Option K), okFrom o l = true → Rises l ∧ (∀ p ∈ l, p.1.size ≤ 16 ∧ p.2.size ≤ 64) ∧ ∀ q, o = some q → ∀ p ∈ l, q < p.1 := by
    intro l
    induction l with
    | nil => intro o _; exact ⟨.nil, by simp, by simp⟩
    | cons x r ih =>
      intro o h
      rw [okFrom] at h
      split at h
      · simp at h
      · rename_i hn
        obtain ⟨i1, i2, i3⟩ := ih _ h
        have i4 := i3 x.1 rfl
        refine ⟨rises_cons.2 ⟨i4, i1⟩, fun p hp => ?_, fun q hq p hp => ?_⟩
        · rcases List.mem_cons.1 hp with rfl | hp
          · exact ⟨by omega, by omega⟩
          · exact i2 p hp
        · have hqx : q < x.1 := by
            rcases Classical.em (x.1 ≤ q) with h5 | h5
            · exact absurd (.inr (.inr ⟨q, hq, h5⟩)) hn
            · grind
          rcases List.mem_cons.1 hp with rfl | hp
          · exact hqx
          · have := i4 p hp; grind
  obtain ⟨a, b, _⟩ := key l none h
  exact ⟨a, b⟩
theorem rises_applyP {l : List (K × K)} (h : Rises l) : ∀ cs : List Chg, Rises (applyP l cs) := by
  intro cs
  induction cs generalizing l with
  | nil => exact h
  | cons c r ih => exact ih (rises_oneP c h)
theorem key_one {P : Prs} (h : Rises P) {x y : K × K} (hx : x ∈ P) (hy : y ∈ P) (e : x.1 = y.1) : x = y := by
  obtain ⟨i, hi, rfl⟩ := List.mem_iff_getElem.1 hx
  obtain ⟨j, hj, rfl⟩ := List.mem_iff_getElem.1 hy
  rcases Nat.lt_trichotomy i j with k | k | k
  · have := h.lt hj k; rw [e] at this; grind
  · subst k; rfl
  · have := h.lt hi k; rw [e] at this; grind
theorem valOf_mem {P : Prs} (h : Rises P) {x : K × K} (hx : x ∈ P) : valOf P x.1 = (x.2, true) := by
  unfold valOf
  cases hf : P.find? (fun p => decide (p.1 = x.1)) with
  | none => have := List.find?_eq_none.1 hf x hx; simp at this
  | some y =>
    have h1 := List.mem_of_find?_eq_some hf
    have h2 := List.find?_some hf
    rw [key_one h h1 hx (by simpa using h2)]
theorem valOf_of {P : Prs} {k v : K} (h : valOf P k = (v, true)) : (k, v) ∈ P := by
  unfold valOf at h
  cases hf : P.find? (fun p => decide (p.1 = k)) with
  | none => rw [hf] at h; simp at h
  | some y =>
    rw [hf] at h
    have h1 := List.mem_of_find?_eq_some hf
    have h2 := List.find?_some hf
    simp at h h2
    rw [← h2, ← h]; exact h1
theorem valOf_none {P : Prs} {k : K} (h : (valOf P k).2 = false) : valOf P k = (⟨#[]⟩, false) ∧ ∀ x ∈ P, x.1 ≠ k := by
  unfold valOf at h ⊢
  cases hf : P.find? (fun p => decide (p.1 = k)) with
  | none => exact ⟨rfl, fun x hx => by have := List.find?_eq_none.1 hf x hx; simpa using this⟩
  | some y => rw [hf] at h; simp at h
theorem sound_of {l : List (K × K)} (h1 : Rises l) (h2 : ∀ p ∈ l, p.1.size ≤ 16 ∧ p.2.size ≤ 64) : soundP l = true := by
  have key : ∀ (l : List (K × K)) (o : Option K), Rises l → (∀ p ∈ l, p.1.size ≤ 16 ∧ p.2.size ≤ 64) → (∀ q, o = some q → ∀ p ∈ l, q < p.1) → okFrom o l = true := by
    intro l
    induction l with
    | nil => intro o _ _ _; rfl
    | cons x r ih =>
      intro o h1 h2 h3
      obtain ⟨i1, i2⟩ := rises_cons.1 h1
      have hx := h2 x (by simp)
      rw [okFrom, if_neg]
      · exact ih _ i2 (fun p hp => h2 p (by simp [hp])) fun q hq p hp => by
          injection hq with hq
          rw [← hq]; exact i1 p hp
      · rintro (h | h | ⟨q, hq, h⟩)
        · omega
        · omega
        · have := h3 q hq x (by simp)
          grind
  exact key l none h1 h2 (by simp)
theorem check_put {c : Chg} (h : checkAns c = 0) (hk : c.kind = 1) : c.key.size ≤ 16 ∧ c.val.size ≤ 64 := by
  unfold checkAns at h
  rw [if_pos hk] at h
  split at h
  · simp at h
  · omega
theorem sound_one {l : List (K × K)} (h : soundP l = true) {c : Chg} (hc : checkAns c = 0) : soundP (oneP l c) = true := by
  obtain ⟨h1, h2⟩ := soundP_spec h
  refine sound_of (rises_oneP c h1) fun p hp => ?_
  rcases (mem_oneP l c p).1 hp with ⟨h3, _⟩ | ⟨hk, rfl⟩
  · exact h2 p h3
  · exact check_put hc hk
theorem sound_apply : ∀ {cs : List Chg} {l : List (K × K)} (_ : soundP l = true) (_ : ∀ c ∈ cs, checkAns c = 0), soundP (applyP l cs) = true
  | [], _, h, _ => h
  | c :: r, l, h, hc => sound_apply (cs := r) (l := oneP l c) (sound_one h (hc c (by simp))) (fun c' h' => hc c' (List.mem_cons_of_mem _ h'))
theorem allAns_ok : ∀ {cs : List Chg}, (∀ c ∈ cs, checkAns c = 0) → allAns cs = 0
  | [], _ => rfl
  | c :: r, h => by
    unfold allAns
    rw [if_pos (h c (by simp))]
    exact allAns_ok fun c' h' => h c' (List.mem_cons_of_mem _ h')
/-- is a key one of those that a change is about -/
def namesB (c : Chg) (k : K) : Bool := if c.kind = 3 then hasB (c.key, c.val) k else decide (c.key = k)
/-- what a key has behind a change that is about it -/
def leftV (c : Chg) : K × Bool := if c.kind = 1 then (c.val, true) else (⟨#[]⟩, false)
theorem namesB_iff (c : Chg) (k : K) : namesB c k = true ↔ has (cspan c) k := by
  unfold namesB
  by_cases h3 : c.kind = 3
  · rw [if_pos h3, hasB_iff]
    unfold cspan
    rw [if_pos h3]
  · rw [if_neg h3, has_cspan c h3]
    simp [eq_comm]
theorem valOf_no {P : Prs} {k : K} (h : ∀ x ∈ P, x.1 ≠ k) : valOf P k = (⟨#[]⟩, false) := by
  unfold valOf
  rw [List.find?_eq_none.2 (fun x hx => by simpa using h x hx)]
theorem valOf_one {l : Prs} (h : Rises l) (c : Chg) (k : K) : valOf (oneP l c) k = if namesB c k then leftV c else valOf l k := by
  have hr := rises_oneP c h
  have hm := fun p => mem_oneP l c p
  by_cases hn : namesB c k = true
  · rw [if_pos hn]
    have hh := (namesB_iff c k).1 hn
    unfold leftV
    by_cases h1 : c.kind = 1
    · rw [if_pos h1]
      have e : k = c.key := (has_cspan c (by omega) k).1 hh
      rw [e]
      exact valOf_mem hr (x := (c.key, c.val)) ((hm _).2 (.inr ⟨h1, rfl⟩))
    · rw [if_neg h1]
      refine valOf_no fun x hx e => ?_
      rcases (hm x).1 hx with ⟨_, h2⟩ | ⟨h2, _⟩
      · exact h2 (by rw [e]; exact hh)
      · exact h1 h2
  · rw [if_neg hn]
    have hh : ¬ has (cspan c) k := fun e => hn ((namesB_iff c k).2 e)
    have hk : c.kind = 1 → k ≠ c.key := fun h1 e => hh ((has_cspan c (by omega) k).2 e)
    cases hv : (valOf l k).2 with
    | false =>
      obtain ⟨e1, e2⟩ := valOf_none hv
      rw [e1]
      refine valOf_no fun x hx e => ?_
      rcases (hm x).1 hx with ⟨h2, _⟩ | ⟨h2, h3⟩
      · exact e2 x h2 e
      · exact hk h2 (by rw [← e, h3])
    | true =>
      have e1 : valOf l k = ((valOf l k).1, true) := by rw [← hv]
      have h2 := valOf_of e1
      have h3 := valOf_mem hr (x := (k, (valOf l k).1)) ((hm _).2 (.inl ⟨h2, hh⟩))
      rw [e1]
      exact h3
/-- what changes make of a key's value -/
def effV (cs : List Chg) (k : K) (v : K × Bool) : K × Bool := cs.foldl (fun v c => if namesB c k then leftV c else v) v
theorem valOf_eff : ∀ (cs : List Chg) {l : Prs} (_ : Rises l) (k : K), valOf (applyP l cs) k = effV cs k (valOf l k)
  | [], _, _, _ => rfl
  | c :: r, l, h, k => by
    show valOf (applyP (oneP l c) r) k = effV r k (if namesB c k then leftV c else valOf l k)
    rw [valOf_eff r (rises_oneP c h) k, valOf_one h c k]
theorem rises_val_ext : ∀ {a b : Prs}, Rises a → Rises b → (∀ k, valOf a k = valOf b k) → a = b := by
  intro a b ha hb h
  have hmem : ∀ {a b : Prs}, Rises a → Rises b → (∀ k, valOf a k = valOf b k) → ∀ p, p ∈ a → p ∈ b := by
    intro a b ha hb h p hp
    have h1 := valOf_mem ha hp
    rw [h p.1] at h1
    exact valOf_of h1
  have key : ∀ {a b : Prs}, Rises a → Rises b → (∀ p, p ∈ a ↔ p ∈ b) → a = b := by
    intro a
    induction a with
    | nil =>
      intro b _ _ h
      cases b with
      | nil => rfl
      | cons y s => have := (h y).2 (by simp); simp at this
    | cons x r ih =>
      intro b ha hb h
      cases b with
      | nil => have := (h x).1 (by simp); simp at this
      | cons y s =>
        obtain ⟨a1, a2⟩ := rises_cons.1 ha
        obtain ⟨b1, b2⟩ := rises_cons.1 hb
        have hxy : x = y := by
          rcases List.mem_cons.1 ((h x).1 (by simp)) with e | e
          · exact e
          · rcases List.mem_cons.1 ((h y).2 (by simp)) with e' | e'
            · exact e'.symm
            · have := a1 y e'; have := b1 x e; grind
        subst hxy
        refine congrArg (x :: ·) (ih a2 b2 fun p => ?_)
        have hp := h p
        simp only [List.mem_cons] at hp
        constructor
        · intro hm
          rcases hp.1 (.inr hm) with e | e
          · subst e; have := a1 p hm; grind
          · exact e
        · intro hm
          rcases hp.2 (.inr hm) with e | e
          · subst e; have := b1 p hm; grind
          · exact e
  exact key ha hb fun p => ⟨hmem ha hb h p, hmem hb ha (fun k => (h k).symm) p⟩
theorem meet_has (s t : K × K) (k : K) : has (meet s t) k ↔ has s k ∧ has t k := by
  unfold meet has mx mn
  by_cases h : (if t.2 < s.2 then t.2 else s.2) ≤ (if s.1 < t.1 then t.1 else s.1)
  · rw [if_pos h]
    simp only
    constructor
    · rintro ⟨_, h2⟩; grind
    · rintro ⟨⟨a, b⟩, c, d⟩
      split at h <;> split at h <;> grind
  · rw [if_neg h]
    simp only
    constructor
    · rintro ⟨h1, h2⟩
      split at h1 <;> split at h2 <;> grind
    · rintro ⟨⟨a, b⟩, c, d⟩
      constructor
      · split <;> assumption
      · split <;> assumption
/-- a change cut to a span is about the keys of the span that it is about -/
theorem eff_cut1 (s : K × K) (c : Chg) (k : K) (v : K × Bool) : effV (cut1 s c) k v = if namesB c k && hasB s k then leftV c else v := by
  unfold cut1
  by_cases h3 : c.kind = 3
  · rw [if_pos h3]
    have hm := meet_has s (cspan c) k
    have hn := namesB_iff c k
    have hs := hasB_iff s k
    have hl : leftV c = (⟨#[]⟩, false) := by unfold leftV; rw [if_neg (by omega)]
    by_cases h : (meet s (cspan c)).1 < (meet s (cspan c)).2
    · rw [if_pos h]
      show (if namesB ⟨3, (meet s (cspan c)).1, (meet s (cspan c)).2⟩ k then leftV ⟨3, (meet s (cspan c)).1, (meet s (cspan c)).2⟩ else v) = _
      have h2 := namesB_iff ⟨3, (meet s (cspan c)).1, (meet s (cspan c)).2⟩ k
      have e : cspan ⟨3, (meet s (cspan c)).1, (meet s (cspan c)).2⟩ = meet s (cspan c) := by unfold cspan; rfl
      rw [e] at h2
      have hl2 : leftV ⟨3, (meet s (cspan c)).1, (meet s (cspan c)).2⟩ = (⟨#[]⟩, false) := by unfold leftV; rfl
      rw [hl, hl2]
      have e2 : namesB ⟨3, (meet s (cspan c)).1, (meet s (cspan c)).2⟩ k = (namesB c k && hasB s k) := by
        rw [Bool.eq_iff_iff, h2, hm, Bool.and_eq_true, hn, hs]
        exact And.comm
      rw [e2]
    · rw [if_neg h]
      have e2 : (namesB c k && hasB s k) = false := by
        rw [Bool.eq_false_iff]
        intro hh
        rw [Bool.and_eq_true, hn, hs] at hh
        have := hm.2 ⟨hh.2, hh.1⟩
        unfold has at this
        grind
      rw [e2]
      rfl
  · rw [if_neg h3]
    have hk : namesB c k = decide (c.key = k) := by unfold namesB; rw [if_neg h3]
    by_cases hb : hasB s c.key = true
    · rw [if_pos hb]
      show (if namesB c k then leftV c else v) = _
      by_cases hn : namesB c k = true
      · have e : c.key = k := by rw [hk] at hn; simpa using hn
        rw [← e, hb, e]
        simp
      · simp [hn]
    · rw [if_neg hb]
      show v = _
      by_cases hn : namesB c k = true
      · have e : c.key = k := by rw [hk] at hn; simpa using hn
        rw [← e]
        simp [hb]
      · simp [hn]
theorem eff_cut (s : K × K) (k : K) : ∀ (cs : List Chg) (v : K × Bool), effV (cutP s cs) k v = if hasB s k then effV cs k v else v
  | [], v => by simp [cutP, effV]
  | c :: r, v => by
    have e : effV (cutP s (c :: r)) k v = effV (cutP s r) k (effV (cut1 s c) k v) := by simp [cutP, effV]
    rw [e, eff_cut s k r, eff_cut1]
    by_cases hh : hasB s k = true
    · simp [hh, effV]
    · simp [hh]
end Go.Proofs.Yteelnholmlabmaa

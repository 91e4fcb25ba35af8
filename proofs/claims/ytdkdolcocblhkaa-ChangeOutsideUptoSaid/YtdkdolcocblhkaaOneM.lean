/- What a change does to rising pairs: membership, and the same as a part that is put in the place of another. -/
import Derived.Test.YtdkdolcocblhkaaRApply
import Derived.Test.YtdkdolcocblhkaaPlace
import Derived.Test.YtdkdolcocblhkaaNextM
namespace Go.Proofs.Ytdkdolcocblhkaa

theorem key_next (a k : K) : (a ≤ k ∧ k < a ++ ⟨#[0]⟩) ↔ k = a := next_only a k
theorem has_cspan (c : Chg) (hc : c.kind ≠ 3) (k : K) : has (cspan c) k ↔ k = c.key := by
  unfold cspan has
  rw [if_neg hc]
  exact key_next c.key k
theorem hasB_iff (s : K × K) (k : K) : hasB s k = true ↔ has s k := by
  unfold hasB has
  simp
theorem mem_oneGo (c : Chg) (p : K × K) : ∀ (l : List (K × K)) (put : Bool), p ∈ oneGo c put l ↔ (p ∈ l ∧ ¬ has (cspan c) p.1) ∨ (put = false ∧ p = (c.key, c.val))
  | [], put => by cases put <;> simp [oneGo]
  | x :: r, put => by
    have ih1 := mem_oneGo c p r true
    have ih2 := mem_oneGo c p r (put || decide (c.key ≤ x.1))
    rw [oneGo, List.mem_append, List.mem_append, ih2]
    have hx := hasB_iff (cspan c) x.1
    cases put
    · by_cases hk : c.key ≤ x.1
      · by_cases hb : hasB (cspan c) x.1 = true
        · have := hx.1 hb
          simp [hk, hb]
          constructor
          · rintro (h | ⟨h1, h2⟩)
            · exact .inr h
            · exact .inl ⟨.inr h1, h2⟩
          · rintro (⟨h1 | h1, h2⟩ | h)
            · subst h1; exact absurd this h2
            · exact .inr ⟨h1, h2⟩
            · exact .inl h
        · have hn : ¬ has (cspan c) x.1 := fun h => hb (hx.2 h)
          simp [hk, hb]
          constructor
          · rintro (h | h | ⟨h1, h2⟩)
            · exact .inr h
            · subst h; exact .inl ⟨.inl rfl, hn⟩
            · exact .inl ⟨.inr h1, h2⟩
          · rintro (⟨h1 | h1, h2⟩ | h)
            · exact .inr (.inl h1)
            · exact .inr (.inr ⟨h1, h2⟩)
            · exact .inl h
      · by_cases hb : hasB (cspan c) x.1 = true
        · have := hx.1 hb
          simp [hk, hb]
          constructor
          · rintro (⟨h1, h2⟩ | h)
            · exact .inl ⟨.inr h1, h2⟩
            · exact .inr h
          · rintro (⟨h1 | h1, h2⟩ | h)
            · subst h1; exact absurd this h2
            · exact .inl ⟨h1, h2⟩
            · exact .inr h
        · have hn : ¬ has (cspan c) x.1 := fun h => hb (hx.2 h)
          simp [hk, hb]
          constructor
          · rintro (h | ⟨h1, h2⟩ | h)
            · subst h; exact .inl ⟨.inl rfl, hn⟩
            · exact .inl ⟨.inr h1, h2⟩
            · exact .inr h
          · rintro (⟨h1 | h1, h2⟩ | h)
            · exact .inl h1
            · exact .inr (.inl ⟨h1, h2⟩)
            · exact .inr (.inr h)
    · by_cases hb : hasB (cspan c) x.1 = true
      · have := hx.1 hb
        simp [hb]
        intro h2 h1
        subst h1; exact absurd this h2
      · have hn : ¬ has (cspan c) x.1 := fun h => hb (hx.2 h)
        simp [hb]
        constructor
        · rintro (h | ⟨h1, h2⟩)
          · subst h; exact ⟨.inl rfl, hn⟩
          · exact ⟨.inr h1, h2⟩
        · rintro ⟨h1 | h1, h2⟩
          · exact .inl h1
          · exact .inr ⟨h1, h2⟩
theorem mem_oneP (l : List (K × K)) (c : Chg) (p : K × K) : p ∈ oneP l c ↔ (p ∈ l ∧ ¬ has (cspan c) p.1) ∨ (c.kind = 1 ∧ p = (c.key, c.val)) := by
  unfold oneP
  rw [mem_oneGo]
  simp

theorem rises_cons {x : K × K} {r : List (K × K)} : Rises (x :: r) ↔ (∀ p ∈ r, x.1 < p.1) ∧ Rises r := List.pairwise_cons
theorem rises_append {a b : List (K × K)} : Rises (a ++ b) ↔ Rises a ∧ Rises b ∧ ∀ p ∈ a, ∀ q ∈ b, p.1 < q.1 := List.pairwise_append
theorem rises_oneGo (c : Chg) : ∀ (l : List (K × K)) (put : Bool), (put = false → c.kind = 1) → Rises l → Rises (oneGo c put l)
  | [], put, _, _ => by cases put <;> simp [oneGo, Rises]
  | x :: r, put, hk, h => by
    obtain ⟨h1, h2⟩ := rises_cons.1 h
    have hx := hasB_iff (cspan c) x.1
    rw [oneGo]
    cases put
    · have hk1 := hk rfl
      by_cases hkx : c.key ≤ x.1
      · have ih := rises_oneGo c r true (by simp) h2
        have hm := fun p => mem_oneGo c p r true
        simp only [Bool.not_false, Bool.true_and, hkx, decide_true, if_true, Bool.or_true]
        by_cases hb : hasB (cspan c) x.1 = true
        · simp only [hb, if_true, List.nil_append]
          refine rises_append.2 ⟨by simp [Rises], ih, fun p hp q hq => ?_⟩
          simp only [List.mem_singleton] at hp; subst hp
          have h3 := h1 q (by have := (hm q).1 hq; simp at this; exact this.1)
          simp only; grind
        · have hn : ¬ has (cspan c) x.1 := fun h => hb (hx.2 h)
          have hne : x.1 ≠ c.key := fun e => hn ((has_cspan c (by omega) x.1).2 e)
          simp only [hb]
          refine rises_append.2 ⟨by simp [Rises], rises_append.2 ⟨by simp [Rises], ih, fun p hp q hq => ?_⟩, fun p hp q hq => ?_⟩
          · simp only [Bool.false_eq_true, if_false, List.mem_singleton] at hp; subst hp
            exact h1 q (by have := (hm q).1 hq; simp at this; exact this.1)
          · simp only [List.mem_singleton] at hp; subst hp
            rcases List.mem_append.1 hq with hq | hq
            · simp only [Bool.false_eq_true, if_false, List.mem_singleton] at hq; subst hq
              simp only; grind
            · have h3 := h1 q (by have := (hm q).1 hq; simp at this; exact this.1)
              simp only; grind
      · have ih := rises_oneGo c r false (fun _ => hk1) h2
        have hm := fun p => mem_oneGo c p r false
        simp only [Bool.not_false, Bool.true_and, hkx, decide_false, Bool.false_eq_true, if_false, Bool.or_false, List.nil_append]
        refine rises_append.2 ⟨by split <;> simp [Rises], ih, fun p hp q hq => ?_⟩
        have hpx : p = x := by split at hp <;> simp at hp; exact hp
        subst hpx
        rcases (hm q).1 hq with ⟨h3, _⟩ | ⟨_, h3⟩
        · exact h1 q h3
        · rw [h3]; simp only; grind
    · have ih := rises_oneGo c r true (by simp) h2
      have hm := fun p => mem_oneGo c p r true
      simp only [Bool.not_true, Bool.false_and, Bool.false_eq_true, if_false, Bool.true_or, List.nil_append]
      refine rises_append.2 ⟨by split <;> simp [Rises], ih, fun p hp q hq => ?_⟩
      have hpx : p = x := by split at hp <;> simp at hp; exact hp
      subst hpx
      exact h1 q (by have := (hm q).1 hq; simp at this; exact this.1)
theorem rises_oneP {l : List (K × K)} (c : Chg) (h : Rises l) : Rises (oneP l c) := rises_oneGo c l _ (by simp) h

theorem Rises.ext : ∀ {a b : List (K × K)}, Rises a → Rises b → (∀ p, p ∈ a ↔ p ∈ b) → a = b
  | [], [], _, _, _ => rfl
  | [], y :: s, _, _, h => by have := (h y).2 (by simp); simp at this
  | x :: r, [], _, _, h => by have := (h x).1 (by simp); simp at this
  | x :: r, y :: s, ha, hb, h => by
    obtain ⟨a1, a2⟩ := rises_cons.1 ha
    obtain ⟨b1, b2⟩ := rises_cons.1 hb
    have hxy : x = y := by
      rcases List.mem_cons.1 ((h x).1 (by simp)) with e | e
      · exact e
      · rcases List.mem_cons.1 ((h y).2 (by simp)) with e' | e'
        · exact e'.symm
        · have := a1 y e'; have := b1 x e; grind
    subst hxy
    refine congrArg (x :: ·) (Rises.ext a2 b2 fun p => ?_)
    have hp := h p
    simp only [List.mem_cons] at hp
    constructor
    · intro hm
      rcases hp.1 (.inr hm) with e | e
      · subst e; have := a1 p hm; grind
      · exact e
    · intro hm
      rcases hp.2 (.inr hm) with e | e
      · subst e; have := b1 p hm; grind
      · exact e

theorem rises_cut : ∀ {l : List (K × K)}, Rises l → ∀ k, l.take (pos l k) = l.filter (fun p => decide (p.1 < k)) ∧ l.drop (pos l k) = l.filter (fun p => !decide (p.1 < k))
  | [], _, k => by simp [pos]
  | x :: r, h, k => by
    obtain ⟨h1, h2⟩ := rises_cons.1 h
    obtain ⟨i1, i2⟩ := rises_cut h2 k
    by_cases hx : x.1 < k
    · have e : pos (x :: r) k = pos r k + 1 := by unfold pos; rw [List.countP_cons_of_pos (by simpa using hx)]
      rw [e, List.take_succ_cons, List.drop_succ_cons, i1, i2]
      simp [hx]
    · have hr : ∀ p ∈ r, ¬ p.1 < k := fun p hp => by have := h1 p hp; grind
      have e : pos (x :: r) k = 0 := by
        unfold pos
        rw [List.countP_eq_zero]
        intro p hp
        rcases List.mem_cons.1 hp with rfl | hp
        · simpa using hx
        · simpa using hr p hp
      rw [e, List.take_zero, List.drop_zero]
      constructor
      · symm; rw [List.filter_eq_nil_iff]
        intro p hp
        rcases List.mem_cons.1 hp with rfl | hp
        · simpa using hx
        · simpa using hr p hp
      · symm; rw [List.filter_eq_self]
        intro p hp
        rcases List.mem_cons.1 hp with rfl | hp
        · simpa using hx
        · simpa using hr p hp

/-- what a change puts in -/
def inOf (c : Chg) : List (K × K) := if c.kind = 1 then [(c.key, c.val)] else []
theorem cspan_le {c : Chg} (h : checkAns c = 0) : (cspan c).1 ≤ (cspan c).2 := by
  unfold cspan
  by_cases h3 : c.kind = 3
  · rw [if_pos h3]
    unfold checkAns at h
    rw [if_neg (by omega), if_neg (by omega), if_pos h3] at h
    split at h
    · simp at h
    · split at h
      · simp at h
      · simp only; grind
  · rw [if_neg h3]
    have := (key_next c.key c.key).2 rfl
    simp only; grind
theorem check_size {c : Chg} (h : checkAns c = 0) : c.key.size ≤ 17 ∧ c.val.size ≤ 64 := by
  unfold checkAns at h
  split at h
  · split at h
    · simp at h
    · omega
  · split at h
    · split at h
      · simp at h
      · omega
    · split at h
      · split at h
        · simp at h
        · omega
      · simp at h
theorem oneP_replace {l : List (K × K)} {c : Chg} (hl : Rises l) (hc : checkAns c = 0) : oneP l c = l.take (pos l (cspan c).1) ++ inOf c ++ l.drop (pos l (cspan c).2) := by
  have hle := cspan_le hc
  refine Rises.ext (rises_oneP c hl) ?_ fun p => ?_
  · rw [(rises_cut hl _).1, (rises_cut hl _).2]
    refine rises_append.2 ⟨rises_append.2 ⟨List.Pairwise.filter _ hl, by unfold inOf; split <;> simp [Rises], fun p hp q hq => ?_⟩, List.Pairwise.filter _ hl, fun p hp q hq => ?_⟩
    · simp at hp
      unfold inOf at hq
      split at hq
      · rename_i hk
        simp at hq; subst hq
        have hp2 := hp.2
        unfold cspan at hp2
        rw [if_neg (by omega)] at hp2
        exact hp2
      · simp at hq
    · simp at hq
      rcases List.mem_append.1 hp with hp | hp
      · simp at hp; have := hp.2; have := hq.2; grind
      · unfold inOf at hp
        split at hp
        · rename_i hk
          simp at hp; subst hp
          have hq2 := hq.2
          have := (key_next c.key c.key).2 rfl
          unfold cspan at hq2
          rw [if_neg (by omega)] at hq2
          simp only at hq2 ⊢; grind
        · simp at hp
  · rw [mem_oneP, List.mem_append, List.mem_append, (rises_cut hl _).1, (rises_cut hl _).2]
    simp only [List.mem_filter, decide_eq_true_eq, Bool.not_eq_true', decide_eq_false_iff_not]
    have hin : p ∈ inOf c ↔ (c.kind = 1 ∧ p = (c.key, c.val)) := by unfold inOf; split <;> simp_all
    rw [hin]
    unfold has
    constructor
    · rintro (⟨h1, h2⟩ | h)
      · by_cases h3 : p.1 < (cspan c).1
        · exact .inl (.inl ⟨h1, h3⟩)
        · exact .inr ⟨h1, fun h4 => h2 ⟨by grind, h4⟩⟩
      · exact .inl (.inr h)
    · rintro ((⟨h1, h2⟩ | h) | ⟨h1, h2⟩)
      · exact .inl ⟨h1, fun h3 => by grind⟩
      · exact .inr h
      · exact .inl ⟨h1, fun h3 => h2 h3.2⟩
theorem pos_mono {l : List (K × K)} {a b : K} (h : a ≤ b) : pos l a ≤ pos l b := by
  unfold pos
  refine List.countP_mono_left fun p _ hp => ?_
  simp at hp ⊢
  grind
theorem soundP_spec {l : List (K × K)} (h : soundP l = true) : Rises l ∧ ∀ p ∈ l, p.1.size ≤ 16 ∧ p.2.size ≤ 64 := by
  have key : ∀ (l : List (K × K)) (o : Option K), okFrom o l = true → Rises l ∧ (∀ p ∈ l, p.1.size ≤ 16 ∧ p.2.size ≤ 64) ∧ ∀ q, o = some q → ∀ p ∈ l, q < p.1 := by
    intro l
    induction l with
    | nil => intro o _; exact ⟨.nil, by simp, by simp⟩
    | cons x r ih =>
      intro o h
      rw [okFrom] at h
      split at h
      · simp at h
      · rename_i hn
        obtain ⟨i1, i2, i3⟩ := ih _ h
        have i4 := i3 x.1 rfl
        refine ⟨rises_cons.2 ⟨i4, i1⟩, fun p hp => ?_, fun q hq p hp => ?_⟩
        · rcases List.mem_cons.1 hp with rfl | hp
          · exact ⟨by omega, by omega⟩
          · exact i2 p hp
        · have hqx : q < x.1 := by
            rcases Classical.em (x.1 ≤ q) with h5 | h5
            · exact absurd (.inr (.inr ⟨q, hq, h5⟩)) hn
            · grind
          rcases List.mem_cons.1 hp with rfl | hp
          · exact hqx
          · have := i4 p hp; grind
  obtain ⟨a, b, _⟩ := key l none h
  exact ⟨a, b⟩
theorem allAns_zero : ∀ {cs : List Chg}, allAns cs = 0 ↔ ∀ c ∈ cs, checkAns c = 0
  | [] => by simp [allAns]
  | c :: r => by
    rw [allAns]
    by_cases h : checkAns c = 0
    · rw [if_pos h, allAns_zero]; simp [h]
    · rw [if_neg h]; simp [h]
theorem rises_applyP {l : List (K × K)} (h : Rises l) : ∀ cs : List Chg, Rises (applyP l cs) := by
  intro cs
  induction cs generalizing l with
  | nil => exact h
  | cons c r ih => exact ih (rises_oneP c h)
end Go.Proofs.Ytdkdolcocblhkaa

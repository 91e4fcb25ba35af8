/- What a change does to rising pairs, as a part that is put in the place of another. -/
import Derived.Test.YtpfhkijnaiopoaaPRi
import Derived.Test.YtpfhkijnaiopoaaPlace
namespace Go.Proofs.Ytpfhkijnaiopoaa

theorem Rises.ext : ∀ {a b : List (K × K)}, Rises a → Rises b → (∀ p, p ∈ a ↔ p ∈ b) → a = b
  | [], [], _, _, _ => rfl
  | [], y :: s, _, _, h => by have := (h y).2 (by simp); simp at this
  | x :: r, [], _, _, h => by have := (h x).1 (by simp); simp at this
  | x :: r, y :: s, ha, hb, h => by
    obtain ⟨a1, a2⟩ := rises_cons.1 ha
    obtain ⟨b1, b2⟩ := rises_cons.1 hb
    have hxy : x = y := by
      rcases List.mem_cons.1 ((h x).1 (by simp)) with e | e
      · exact e
      · rcases List.mem_cons.1 ((h y).2 (by simp)) with e' | e'
        · exact e'.symm
        · have := a1 y e'; have := b1 x e; grind
    subst hxy
    refine congrArg (x :: ·) (Rises.ext a2 b2 fun p => ?_)
    have hp := h p
    simp only [List.mem_cons] at hp
    constructor
    · intro hm
      rcases hp.1 (.inr hm) with e | e
      · subst e; have := a1 p hm; grind
      · exact e
    · intro hm
      rcases hp.2 (.inr hm) with e | e
      · subst e; have := b1 p hm; grind
      · exact e

theorem rises_cut : ∀ {l : List (K × K)}, Rises l → ∀ k, l.take (pos l k) = l.filter (fun p => decide (p.1 < k)) ∧ l.drop (pos l k) = l.filter (fun p => !decide (p.1 < k))
  | [], _, k => by simp [pos]
  | x :: r, h, k => by
    obtain ⟨h1, h2⟩ := rises_cons.1 h
    obtain ⟨i1, i2⟩ := rises_cut h2 k
    by_cases hx : x.1 < k
    · have e : pos (x :: r) k = pos r k + 1 := by unfold pos; rw [List.countP_cons_of_pos (by simpa using hx)]
      rw [e, List.take_succ_cons, List.drop_succ_cons, i1, i2]
      simp [hx]
    · have hr : ∀ p ∈ r, ¬ p.1 < k := fun p hp => by have := h1 p hp; grind
      have e : pos (x :: r) k = 0 := by
        unfold pos
        rw [List.countP_eq_zero]
        intro p hp
        rcases List.mem_cons.1 hp with rfl | hp
        · simpa using hx
        · simpa using hr p hp
      rw [e, List.take_zero, List.drop_zero]
      constructor
      · symm; rw [List.filter_eq_nil_iff]
        intro p hp
        rcases List.mem_cons.1 hp with rfl | hp
        · simpa using hx
        · simpa using hr p hp
      · symm; rw [List.filter_eq_self]
        intro p hp
        rcases List.mem_cons.1 hp with rfl | hp
        · simpa using hx
        · simpa using hr p hp

/-- what a change puts in -/
def inOf (c : Chg) : List (K × K) := if c.kind = 1 then [(c.key, c.val)] else []
theorem cspan_le {c : Chg} (h : checkAns c = 0) : (cspan c).1 ≤ (cspan c).2 := by
  unfold cspan
  by_cases h3 : c.kind = 3
  · rw [if_pos h3]
    unfold checkAns at h
    rw [if_neg (by omega), if_neg (by omega), if_pos h3] at h
    split at h
    · simp at h
    · split at h
      · simp at h
      · simp only; grind
  · rw [if_neg h3]
    have := (key_next c.key c.key).2 rfl
    simp only; grind
theorem check_size {c : Chg} (h : checkAns c = 0) : c.key.size ≤ 17 ∧ c.val.size ≤ 64 := by
  unfold checkAns at h
  split at h
  · split at h
    · simp at h
    · omega
  · split at h
    · split at h
      · simp at h
      · omega
    · split at h
      · split at h
        · simp at h
        · omega
      · simp at h
theorem oneP_replace {l : List (K × K)} {c : Chg} (hl : Rises l) (hc : checkAns c = 0) : oneP l c = l.take (pos l (cspan c).1) ++ inOf c ++ l.drop (pos l (cspan c).2) := by
  have hle := cspan_le hc
  refine Rises.ext (rises_oneP c hl) ?_ fun p => ?_
  · rw [(rises_cut hl _).1, (rises_cut hl _).2]
    refine rises_append.2 ⟨rises_append.2 ⟨List.Pairwise.filter _ hl, by unfold inOf; split <;> simp [Rises], fun p hp q hq => ?_⟩, List.Pairwise.filter _ hl, fun p hp q hq => ?_⟩
    · simp at hp
      unfold inOf at hq
      split at hq
      · rename_i hk
        simp at hq; subst hq
        have hp2 := hp.2
        unfold cspan at hp2
        rw [if_neg (by omega)] at hp2
        exact hp2
      · simp at hq
    · simp at hq
      rcases List.mem_append.1 hp with hp | hp
      · simp at hp; have := hp.2; have := hq.2; grind
      · unfold inOf at hp
        split at hp
        · rename_i hk
          simp at hp; subst hp
          have hq2 := hq.2
          have := (key_next c.key c.key).2 rfl
          unfold cspan at hq2
          rw [if_neg (by omega)] at hq2
          simp only at hq2 ⊢; grind
        · simp at hp
  · rw [mem_oneP, List.mem_append, List.mem_append, (rises_cut hl _).1, (rises_cut hl _).2]
    simp only [List.mem_filter, decide_eq_true_eq, Bool.not_eq_true', decide_eq_false_iff_not]
    have hin : p ∈ inOf c ↔ (c.kind = 1 ∧ p = (c.key, c.val)) := by unfold inOf; split <;> simp_all
    rw [hin]
    unfold has
    constructor
    · rintro (⟨h1, h2⟩ | h)
      · by_cases h3 : p.1 < (cspan c).1
        · exact .inl (.inl ⟨h1, h3⟩)
        · exact .inr ⟨h1, fun h4 => h2 ⟨by grind, h4⟩⟩
      · exact .inl (.inr h)
    · rintro ((⟨h1, h2⟩ | h) | ⟨h1, h2⟩)
      · exact .inl ⟨h1, fun h3 => by grind⟩
      · exact .inr h
      · exact .inl ⟨h1, fun h3 => h2 h3.2⟩
theorem pos_mono {l : List (K × K)} {a b : K} (h : a ≤ b) : pos l a ≤ pos l b := by
  unfold pos
  refine List.countP_mono_left fun p _ hp => ?_
  simp at hp ⊢
  grind
theorem allAns_zero : ∀ {cs : List Chg}, allAns cs = 0 ↔ ∀ c ∈ cs, checkAns c = 0
  | [] => by simp [allAns]
  | c :: r => by
    rw [allAns]
    by_cases h : checkAns c = 0
    · rw [if_pos h, allAns_zero]; simp [h]
    · rw [if_neg h]; simp [h]
end Go.Proofs.Ytpfhkijnaiopoaa

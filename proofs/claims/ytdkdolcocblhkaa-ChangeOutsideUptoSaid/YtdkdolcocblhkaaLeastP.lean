/- What keys have no value behind changes, told by the pairs that the changes make of none; how long their ends are. -/
import Derived.Test.YtdkdolcocblhkaaMiss
import Derived.Test.YtdkdolcocblhkaaAfter
namespace Go.Proofs.Ytdkdolcocblhkaa
open Go.RowKit

theorem mem_applyP {p : K × K} : ∀ {cs : List Chg} {l : List (K × K)}, p ∈ applyP l cs → p ∈ l ∨ ∃ c ∈ cs, c.kind = 1 ∧ p = (c.key, c.val)
  | [], l, h => .inl h
  | c :: r, l, h => by
    rcases mem_applyP (cs := r) (l := oneP l c) h with h1 | ⟨d, hd, h1⟩
    · rcases (mem_oneP l c p).1 h1 with ⟨h2, _⟩ | h2
      · exact .inl h2
      · exact .inr ⟨c, by simp, h2⟩
    · exact .inr ⟨d, by simp [hd], h1⟩
theorem keys_oneP (l : List (K × K)) (c : Chg) (k : K) : k ∈ (oneP l c).map (·.1) ↔ (k ∈ l.map (·.1) ∧ ¬ has (cspan c) k) ∨ (c.kind = 1 ∧ k = c.key) := by
  simp only [List.mem_map]
  constructor
  · rintro ⟨p, hp, rfl⟩
    rcases (mem_oneP l c p).1 hp with ⟨h1, h2⟩ | ⟨h1, rfl⟩
    · exact .inl ⟨⟨p, h1, rfl⟩, h2⟩
    · exact .inr ⟨h1, rfl⟩
  · rintro (⟨⟨p, h1, rfl⟩, h2⟩ | ⟨h1, rfl⟩)
    · exact ⟨p, (mem_oneP l c p).2 (.inl ⟨h1, h2⟩), rfl⟩
    · exact ⟨(c.key, c.val), (mem_oneP l c _).2 (.inr ⟨h1, rfl⟩), rfl⟩
theorem gone_eq (cs : List Chg) : ∀ k, goneP cs k ↔ mem (cs.map cspan) k ∧ k ∉ (applyP [] cs).map (·.1) := by
  have key : ∀ n (cs : List Chg), cs.length = n → ∀ k, goneP cs k ↔ mem (cs.map cspan) k ∧ k ∉ (applyP [] cs).map (·.1) := by
    intro n
    induction n with
    | zero => intro cs h k; rw [List.eq_nil_of_length_eq_zero h]; simp [goneP, mem]
    | succ n ih =>
      intro cs h k
      obtain ⟨r, c, rfl⟩ : ∃ r c, cs = r ++ [c] := by
        rcases List.eq_nil_or_concat cs with rfl | ⟨r, c, rfl⟩
        · simp at h
        · exact ⟨r, c, List.concat_eq_append⟩
      have hr := ih r (by simpa using h) k
      rw [goneP_snoc, applyP_snoc, keys_oneP, List.map_append, mem_append, gstep, hr]
      have hs : mem [cspan c] k ↔ has (cspan c) k := by simp [mem_cons, mem_nil]
      simp only [List.map_cons, List.map_nil, hs]
      by_cases hk : c.kind = 1
      · have hh := has_cspan c (by omega) k
        rw [if_pos hk, hh]
        simp only [hk, true_and]
        constructor
        · rintro ⟨⟨h1, h2⟩, h3⟩
          exact ⟨.inl h1, fun h4 => h4.elim (fun h5 => h2 h5.1) h3⟩
        · rintro ⟨h1, h2⟩
          have h3 : ¬ k = c.key := fun h4 => h2 (.inr h4)
          exact ⟨⟨h1.resolve_right h3, fun h4 => h2 (.inl ⟨h4, h3⟩)⟩, h3⟩
      · rw [if_neg hk]
        simp only [hk, false_and, or_false]
        constructor
        · rintro (⟨h1, h2⟩ | h1)
          · exact ⟨.inl h1, fun h4 => h2 h4.1⟩
          · exact ⟨.inr h1, fun h4 => h4.2 h1⟩
        · rintro ⟨h1, h2⟩
          by_cases h3 : has (cspan c) k
          · exact .inr h3
          · exact .inl ⟨h1.resolve_right h3, fun h4 => h2 ⟨h4, h3⟩⟩
  exact key cs.length cs rfl

theorem next_size (a : K) : (a ++ ⟨#[0]⟩ : K).size = a.size + 1 := by rw [ByteArray.size_append]; rfl
theorem cspan_17 {c : Chg} (h : checkAns c = 0) : (cspan c).1.size ≤ 17 ∧ (cspan c).2.size ≤ 17 := by
  unfold checkAns at h
  unfold cspan
  by_cases h1 : c.kind = 1
  · rw [if_pos h1] at h
    rw [if_neg (by omega)]
    split at h
    · simp at h
    · simp only [next_size]; omega
  rw [if_neg h1] at h
  by_cases h2 : c.kind = 2
  · rw [if_pos h2] at h
    rw [if_neg (by omega)]
    split at h
    · simp at h
    · simp only [next_size]; omega
  rw [if_neg h2] at h
  by_cases h3 : c.kind = 3
  · rw [if_pos h3] at h
    rw [if_pos h3]
    split at h
    · simp at h
    · simp only; omega
  · rw [if_neg h3] at h; simp at h
theorem ends_17 {cs : List Chg} (h : ∀ c ∈ cs, checkAns c = 0) : ∀ x ∈ flatK (cs.map cspan ++ onesOf (applyP [] cs)), x.size ≤ 17 := by
  intro x hx
  obtain ⟨s, hs, h1⟩ := flatK_mem.1 hx
  rcases List.mem_append.1 hs with hs | hs
  · obtain ⟨c, hc, rfl⟩ := List.mem_map.1 hs
    have := cspan_17 (h c hc)
    rcases h1 with rfl | rfl
    · exact this.1
    · exact this.2
  · obtain ⟨p, hp, rfl⟩ := List.mem_map.1 hs
    rcases mem_applyP hp with h2 | ⟨c, hc, hk, rfl⟩
    · simp at h2
    · have h3 := h c hc
      unfold checkAns at h3
      rw [if_pos hk] at h3
      split at h3
      · simp at h3
      · rcases h1 with rfl | rfl
        · simp only; omega
        · simp only [next_size]; omega
/-- the change that the program makes of a span -/
def toEr (s : K × K) : Chg := if s.2 = s.1 ++ ⟨#[0]⟩ then ⟨2, s.1, ⟨#[]⟩⟩ else ⟨3, s.1, s.2⟩
theorem toEr_eq {s : K × K} (h : s.2.size ≤ 17) : toEr s = toGone s := by
  unfold toEr toGone
  by_cases he : s.2 = s.1 ++ ⟨#[0]⟩
  · have h2 : s.1.size + 1 ≤ 17 := by rw [← next_size, ← he]; exact h
    rw [if_pos he, if_pos ⟨he, by omega⟩]
  · rw [if_neg he, if_neg (fun h => he h.1)]
/-- the spans of keys without values: how many, and how long their ends -/
theorem gone_spans {cs : List Chg} {G : List (K × K)} (h : Fits G (fun k => mem (cs.map cspan) k ∧ k ∉ (applyP [] cs).map (·.1))) :
    G.length ≤ cs.length + (applyP [] cs).length ∧ ((∀ c ∈ cs, checkAns c = 0) → ∀ s ∈ G, s.1.size ≤ 17 ∧ s.2.size ≤ 17) := by
  have h2 : Fits G (fun k => mem (cs.map cspan) k ∧ ¬ mem (onesOf (applyP [] cs)) k) := h.congr fun k => by rw [mem_ones]
  have h3 := fits_ends h2 (· ∈ flatK (cs.map cspan ++ onesOf (applyP [] cs))) fun t ht => ⟨flatK_mem.2 ⟨t, ht, .inl rfl⟩, flatK_mem.2 ⟨t, ht, .inr rfl⟩⟩
  have h4 := fits_len h.1 _ h3
  rw [flatK_len, List.length_append, List.length_map] at h4
  refine ⟨by simp only [onesOf, List.length_map] at h4; omega, fun hc s hs => ⟨ends_17 hc _ (h3 s hs).1, ends_17 hc _ (h3 s hs).2⟩⟩
theorem named_len {cs : List Chg} {J : List (K × K)} (h : Fits J (fun k => mem (cs.map cspan) k)) : J.length ≤ cs.length := by
  have h2 : Fits J (fun k => mem (cs.map cspan) k ∧ ¬ mem [] k) := h.congr fun k => by simp [mem_nil]
  have h3 := fits_ends h2 (· ∈ flatK (cs.map cspan)) fun t ht => by
    rw [List.append_nil] at ht
    exact ⟨flatK_mem.2 ⟨t, ht, .inl rfl⟩, flatK_mem.2 ⟨t, ht, .inr rfl⟩⟩
  have h4 := fits_len h.1 _ h3
  rw [flatK_len, List.length_map] at h4
  omega
end Go.Proofs.Ytdkdolcocblhkaa

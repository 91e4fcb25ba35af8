/- A transaction's reads cut at a key: pure. -/
import Derived.Test.YtcmpbhcldaogiaaFah
namespace Go.Proofs.Ytcmpbhcldaogiaa

def splL (a : K) (s : K × K) : List (K × K) := if s.2 ≤ a then [s] else if a ≤ s.1 then [] else [(s.1, a)]
def splH (a : K) (s : K × K) : List (K × K) := if s.2 ≤ a then [] else if a ≤ s.1 then [s] else [(a, s.2)]
def lowR (a : K) (l : List (K × K)) : List (K × K) := l.flatMap (splL a)
def highR (a : K) (l : List (K × K)) : List (K × K) := l.flatMap (splH a)
theorem lowR_take (a : K) (l : List (K × K)) (i : Nat) (h : i < l.length) : lowR a (l.take (i + 1)) = lowR a (l.take i) ++ splL a l[i] := by
  unfold lowR
  rw [List.take_add_one, List.getElem?_eq_getElem h, Option.toList_some, List.flatMap_append]
  simp
theorem highR_take (a : K) (l : List (K × K)) (i : Nat) (h : i < l.length) : highR a (l.take (i + 1)) = highR a (l.take i) ++ splH a l[i] := by
  unfold highR
  rw [List.take_add_one, List.getElem?_eq_getElem h, Option.toList_some, List.flatMap_append]
  simp
theorem splL_len (a : K) (s : K × K) : (splL a s).length ≤ 1 := by unfold splL; split; simp; split <;> simp
theorem splH_len (a : K) (s : K × K) : (splH a s).length ≤ 1 := by unfold splH; split; simp; split <;> simp
theorem lowR_len (a : K) : ∀ l : List (K × K), (lowR a l).length ≤ l.length
  | [] => by simp [lowR]
  | s :: l => by
    have := lowR_len a l
    have := splL_len a s
    unfold lowR at *
    simp only [List.flatMap_cons, List.length_append, List.length_cons]
    omega
theorem highR_len (a : K) : ∀ l : List (K × K), (highR a l).length ≤ l.length
  | [] => by simp [highR]
  | s :: l => by
    have := highR_len a l
    have := splH_len a s
    unfold highR at *
    simp only [List.flatMap_cons, List.length_append, List.length_cons]
    omega
theorem spl_has (a : K) (s : K × K) (k : K) : has s k ↔ (∃ u ∈ splL a s, has u k) ∨ ∃ u ∈ splH a s, has u k := by
  unfold splL splH
  by_cases h1 : s.2 ≤ a
  · rw [if_pos h1, if_pos h1]; simp
  · rw [if_neg h1, if_neg h1]
    by_cases h2 : a ≤ s.1
    · rw [if_pos h2, if_pos h2]; simp
    · rw [if_neg h2, if_neg h2]
      simp only [List.mem_cons, List.not_mem_nil, or_false, exists_eq_left]
      unfold has
      simp only
      constructor
      · rintro ⟨h3, h4⟩
        by_cases h5 : k < a
        · exact .inl ⟨h3, h5⟩
        · exact .inr ⟨by grind, h4⟩
      · rintro (⟨h3, h4⟩ | ⟨h3, h4⟩)
        · exact ⟨h3, by grind⟩
        · exact ⟨by grind, h4⟩
theorem spl_ok {a : K} (ha : a.size ≤ 16) {s : K × K} (h : okSpan s) : (∀ u ∈ splL a s, okSpan u) ∧ ∀ u ∈ splH a s, okSpan u := by
  obtain ⟨h1, h2, h3⟩ := h
  unfold splL splH
  by_cases e1 : s.2 ≤ a
  · rw [if_pos e1, if_pos e1]
    exact ⟨fun u hu => by rw [List.mem_singleton] at hu; subst hu; exact ⟨h1, h2, h3⟩, by simp⟩
  · rw [if_neg e1, if_neg e1]
    by_cases e2 : a ≤ s.1
    · rw [if_pos e2, if_pos e2]
      exact ⟨by simp, fun u hu => by rw [List.mem_singleton] at hu; subst hu; exact ⟨h1, h2, h3⟩⟩
    · rw [if_neg e2, if_neg e2]
      refine ⟨fun u hu => ?_, fun u hu => ?_⟩
      · rw [List.mem_singleton] at hu; subst hu
        exact ⟨h1, by simp only; omega, by simp only; grind⟩
      · rw [List.mem_singleton] at hu; subst hu
        exact ⟨by simp only; omega, h2, by simp only; grind⟩
def lowT (a : K) (t : Txn) : Txn := ⟨t.read, lowR a t.reads, []⟩
def highT (a : K) (t : Txn) : Txn := ⟨t.read, highR a t.reads, []⟩
theorem low_sound {a : K} (ha : a.size ≤ 16) {t : Txn} (h : soundT t) : soundT (lowT a t) ∧ soundT (highT a t) := by
  obtain ⟨h1, h2, h3, h4, h5⟩ := h
  refine ⟨⟨h1, Nat.le_trans (lowR_len a _) h2, fun u hu => ?_, by simp [lowT], rfl⟩, ⟨h1, Nat.le_trans (highR_len a _) h2, fun u hu => ?_, by simp [highT], rfl⟩⟩
  · obtain ⟨s, hs, hu⟩ := List.mem_flatMap.1 hu
    exact (spl_ok ha (h3 s hs)).1 u hu
  · obtain ⟨s, hs, hu⟩ := List.mem_flatMap.1 hu
    exact (spl_ok ha (h3 s hs)).2 u hu
theorem sound_fit {t : Txn} (h : soundT t) (hc : t.chgs = []) : fitT t := by
  obtain ⟨h1, h2, h3, h4, h5⟩ := h
  refine ⟨by omega, fun s hs => ?_, by omega, by rw [hc]; simp⟩
  have := h3 s hs
  exact ⟨by have := this.1; omega, by have := this.2.1; omega⟩
theorem clash_split (a : K) (m : Mk) (t : Txn) : clash m t ↔ clash m (lowT a t) ∨ clash m (highT a t) := by
  unfold clash lowT highT
  constructor
  · rintro ⟨s, hs, k, hk, r⟩
    rcases (spl_has a s k).1 hk with ⟨u, hu, huk⟩ | ⟨u, hu, huk⟩
    · exact .inl ⟨u, List.mem_flatMap.2 ⟨s, hs, hu⟩, k, huk, r⟩
    · exact .inr ⟨u, List.mem_flatMap.2 ⟨s, hs, hu⟩, k, huk, r⟩
  · rintro (⟨u, hu, k, hk, r⟩ | ⟨u, hu, k, hk, r⟩)
    · obtain ⟨s, hs, hu⟩ := List.mem_flatMap.1 hu
      exact ⟨s, hs, k, (spl_has a s k).2 (.inl ⟨u, hu, hk⟩), r⟩
    · obtain ⟨s, hs, hu⟩ := List.mem_flatMap.1 hu
      exact ⟨s, hs, k, (spl_has a s k).2 (.inr ⟨u, hu, hk⟩), r⟩
theorem verd_one {m : Mk} {t : Txn} (h : m.floor ≤ t.read) : verd m t = 1 ↔ ¬ clash m t := by
  unfold verd
  rw [if_neg (by rintro ⟨_, h2⟩; omega)]
  split
  · rename_i hc
    simp [hc]
  · rename_i hc
    simp [hc]
theorem verd_split {a : K} {m : Mk} {t : Txn} (h : m.floor ≤ t.read) : verd m t = 1 ↔ verd m (lowT a t) = 1 ∧ verd m (highT a t) = 1 := by
  rw [verd_one h, verd_one (t := lowT a t) h, verd_one (t := highT a t) h, clash_split a]
  exact not_or
theorem judge1_same (m : Mk) (v : Int) (t : Txn) (h : t.chgs = []) : judge1 m v t = m := by
  unfold judge1
  split
  · unfold wrote
    have hk : ∀ k, ¬ keysOf t k := fun k hk => by
      unfold keysOf at hk
      rw [h] at hk
      exact mem_nil k hk
    rw [if_neg (fun ⟨k, hk'⟩ => hk k hk')]
    cases m
    simp only [Mk.mk.injEq, true_and]
    funext k
    rw [if_neg (hk k)]
  · rfl
/-- all three judgements -/
theorem split_pure {bl : List Txn} {a : K} {t : Txn} (ha : a.size ≤ 16) (hs : soundT t) (he : jerr (mnew 0) 5 bl = 0) :
    jerr (jnext (mnew 0) 5 bl) 9 [t] = 0 ∧ jout (jnext (mnew 0) 5 bl) 9 [t] = [verd (jnext (mnew 0) 5 bl) t] ∧
    jerr (jnext (mnew 0) 5 bl) 9 [lowT a t] = 0 ∧ jout (jnext (mnew 0) 5 bl) 9 [lowT a t] = [verd (jnext (mnew 0) 5 bl) (lowT a t)] ∧ jnext (jnext (mnew 0) 5 bl) 9 [lowT a t] = jnext (mnew 0) 5 bl ∧
    jerr (jnext (mnew 0) 5 bl) 10 [highT a t] = 0 ∧ jout (jnext (mnew 0) 5 bl) 10 [highT a t] = [verd (jnext (mnew 0) 5 bl) (highT a t)] ∧
    (verd (jnext (mnew 0) 5 bl) t = 1 ↔ verd (jnext (mnew 0) 5 bl) (lowT a t) = 1 ∧ verd (jnext (mnew 0) 5 bl) (highT a t) = 1) := by
  obtain ⟨h1, h2, h3⟩ := jnext_low (Mk.Ok.new (v := 0) (by omega)) he (by omega)
  have hf : (jnext (mnew 0) 5 bl).floor = 0 := h3
  obtain ⟨hl, hh⟩ := low_sound ha hs
  have e1 := jerr_one (m := jnext (mnew 0) 5 bl) (v := 9) (by omega) (by omega) hs
  have e2 := jerr_one (m := jnext (mnew 0) 5 bl) (v := 9) (by omega) (by omega) hl
  have e3 := jerr_one (m := jnext (mnew 0) 5 bl) (v := 10) (by omega) (by omega) hh
  refine ⟨e1, (jone e1).1, e2, (jone e2).1, ?_, e3, (jone e3).1, verd_split (by rw [hf]; exact hs.1)⟩
  rw [(jone e2).2]
  exact judge1_same _ _ _ rfl
end Go.Proofs.Ytcmpbhcldaogiaa

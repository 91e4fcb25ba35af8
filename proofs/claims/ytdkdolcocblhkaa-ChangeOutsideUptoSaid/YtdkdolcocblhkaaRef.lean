/- What the reference builds are the fewest spans of just those keys: plain. -/
import Derived.Test.YtdkdolcocblhkaaBuild
namespace Go.Proofs.Ytdkdolcocblhkaa

theorem lead_le (s : K) : ∀ l : List K, lead s l ≤ l.length
  | [] => Nat.le_refl _
  | x :: r => by rw [lead]; split <;> simp [lead_le s r]
theorem lead_below (s : K) : ∀ (l : List K) (x : K), x ∈ l.take (lead s l) → x < s
  | [], x, h => by simp at h
  | y :: r, x, h => by
    rw [lead] at h
    split at h
    · rename_i hy
      simp only [List.take_succ_cons, List.mem_cons] at h
      rcases h with rfl | h
      · exact hy
      · exact lead_below s r x h
    · simp at h
theorem lead_above (s : K) : ∀ (l : List K), l.Pairwise (· < ·) → ∀ x ∈ l.drop (lead s l), s ≤ x
  | [], _, x, h => by simp at h
  | y :: r, hp, x, h => by
    rw [List.pairwise_cons] at hp
    rw [lead] at h
    split at h
    · exact lead_above s r hp.2 x (by simpa using h)
    · rename_i hy
      simp only [List.drop_zero, List.mem_cons] at h
      rcases h with rfl | h
      · grind
      · have := hp.1 x h; grind
theorem ins_ok (l : List K) (s : K) (hp : l.Pairwise (· < ·)) : (ins l s).Pairwise (· < ·) ∧ ∀ x, x ∈ ins l s ↔ x ∈ l ∨ x = s := by
  have e0 := List.take_append_drop (lead s l) l
  unfold ins
  split
  · rename_i h
    have hs : s ∈ l := List.mem_of_getElem? h
    exact ⟨hp, fun x => ⟨.inl, fun h => by rcases h with h | rfl; · exact h
                                           · exact hs⟩⟩
  · rename_i h
    have hne : ∀ x ∈ l.drop (lead s l), s < x := by
      intro x hx
      have h1 := lead_above s l hp x hx
      have h2 : x ≠ s := by
        rintro rfl
        rcases hd : l.drop (lead x l) with _ | ⟨y, r⟩
        · rw [hd] at hx; cases hx
        · have hy : l[lead x l]? = some y := by rw [← List.head?_drop, hd]; rfl
          rw [hd] at hx
          rcases List.mem_cons.1 hx with rfl | hx
          · exact h hy
          · have hpd : (y :: r).Pairwise (· < ·) := by rw [← hd]; exact hp.sublist (List.drop_sublist _ _)
            have h3 := (List.pairwise_cons.1 hpd).1 x hx
            have h4 := lead_above x l hp y (by rw [hd]; simp)
            grind
      grind
    constructor
    · rw [List.pairwise_append]
      refine ⟨hp.sublist (List.take_sublist _ _), List.pairwise_cons.2 ⟨hne, hp.sublist (List.drop_sublist _ _)⟩, fun x hx y hy => ?_⟩
      have h1 := lead_below s l x hx
      rcases List.mem_cons.1 hy with rfl | hy
      · exact h1
      · have := hne y hy; grind
    · intro x
      rw [List.mem_append, List.mem_cons]
      constructor
      · rintro (h1 | rfl | h1)
        · exact .inl (List.mem_of_mem_take h1)
        · exact .inr rfl
        · exact .inl (List.mem_of_mem_drop h1)
      · rintro (h1 | rfl)
        · rw [← e0, List.mem_append] at h1
          rcases h1 with h1 | h1
          · exact .inl h1
          · exact .inr (.inr h1)
        · exact .inr (.inl rfl)
theorem ends_ok : ∀ (l : List (K × K)) (E : List K), E.Pairwise (· < ·) → (l.foldl ends2 E).Pairwise (· < ·) ∧ ∀ x, x ∈ l.foldl ends2 E ↔ x ∈ E ∨ ∃ s ∈ l, x = s.1 ∨ x = s.2
  | [], E, h => ⟨h, fun x => by simp⟩
  | s :: r, E, h => by
    obtain ⟨a1, a2⟩ := ins_ok E s.1 h
    obtain ⟨b1, b2⟩ := ins_ok (ins E s.1) s.2 a1
    obtain ⟨c1, c2⟩ := ends_ok r (ends2 E s) b1
    refine ⟨c1, fun x => ?_⟩
    rw [List.foldl_cons, c2, show ends2 E s = ins (ins E s.1) s.2 from rfl, b2, a2]
    simp only [List.mem_cons, exists_eq_or_imp]
    constructor
    · intro h; rcases h with ((h | h) | h) | h
      · exact .inl h
      · exact .inr (.inl (.inl h))
      · exact .inr (.inl (.inr h))
      · exact .inr (.inr h)
    · intro h; rcases h with h | (h | h) | h
      · exact .inl (.inl (.inl h))
      · exact .inl (.inl (.inr h))
      · exact .inl (.inr h)
      · exact .inr h

theorem any_mem (l : List (K × K)) (k : K) : (l.any fun s => hasB s k) = true ↔ mem l k := by
  simp [List.any_eq_true, mem, has, hasB]
/-- nothing turns between two ends that follow each other -/
theorem any_same (l : List (K × K)) (a b k : K) (he : ∀ s ∈ l, (s.1 ≤ a ∨ b ≤ s.1) ∧ (s.2 ≤ a ∨ b ≤ s.2)) (h1 : a ≤ k) (h2 : k < b) : (l.any fun s => hasB s k) = (l.any fun s => hasB s a) := by
  rw [Bool.eq_iff_iff, any_mem, any_mem]
  constructor
  · rintro ⟨s, hs, h3, h4⟩
    have := he s hs
    exact ⟨s, hs, by unfold has; grind⟩
  · rintro ⟨s, hs, h3, h4⟩
    have := he s hs
    exact ⟨s, hs, by unfold has; grind⟩

theorem bgo_ok (hv gn : List (K × K)) : ∀ (r : List K) (a : K) (out : List (K × K)), (a :: r).Pairwise (· < ·) → (∀ s ∈ hv ++ gn, (s.1 ≤ a ∨ s.1 ∈ r) ∧ (s.2 ≤ a ∨ s.2 ∈ r)) → Normal out → (∀ s ∈ out, s.2 ≤ a) →
    (∀ k, mem out k ↔ k < a ∧ mem hv k ∧ ¬ mem gn k) → Normal (bgo hv gn out (a :: r)) ∧ ∀ k, mem (bgo hv gn out (a :: r)) k ↔ mem hv k ∧ ¬ mem gn k
  | [], a, out, _, he, hn, _, hm => by
    refine ⟨hn, fun k => ?_⟩
    rw [bgo, hm]
    constructor
    · rintro ⟨_, h⟩; exact h
    · intro h
      refine ⟨?_, h⟩
      obtain ⟨⟨s, hs, h1, h2⟩, _⟩ := h
      have := (he s (by simp [hs])).2
      simp at this
      grind
  | b :: r, a, out, hp, he, hn, hlast, hm => by
    rw [bgo]
    have hab : a < b := (List.pairwise_cons.1 hp).1 b (by simp)
    have hbr := (List.pairwise_cons.1 (List.pairwise_cons.1 hp).2).1
    have hgap : ∀ s ∈ hv ++ gn, (s.1 ≤ a ∨ b ≤ s.1) ∧ (s.2 ≤ a ∨ b ≤ s.2) := by
      intro s hs
      obtain ⟨h1, h2⟩ := he s hs
      constructor
      · rcases h1 with h1 | h1
        · exact .inl h1
        · rcases List.mem_cons.1 h1 with h1 | h1
          · exact .inr (by rw [h1]; exact Std.IsPreorder.le_refl _)
          · have := hbr _ h1; exact .inr (by grind)
      · rcases h2 with h2 | h2
        · exact .inl h2
        · rcases List.mem_cons.1 h2 with h2 | h2
          · exact .inr (by rw [h2]; exact Std.IsPreorder.le_refl _)
          · have := hbr _ h2; exact .inr (by grind)
    have he' : ∀ s ∈ hv ++ gn, (s.1 ≤ b ∨ s.1 ∈ r) ∧ (s.2 ≤ b ∨ s.2 ∈ r) := by
      intro s hs
      obtain ⟨h1, h2⟩ := he s hs
      simp only [List.mem_cons] at h1 h2
      constructor
      · rcases h1 with h1 | h1 | h1
        · exact .inl (by grind)
        · exact .inl (by rw [h1]; exact Std.IsPreorder.le_refl _)
        · exact .inr h1
      · rcases h2 with h2 | h2 | h2
        · exact .inl (by grind)
        · exact .inl (by rw [h2]; exact Std.IsPreorder.le_refl _)
        · exact .inr h2
    have hH : ∀ k, a ≤ k → k < b → (mem hv k ↔ mem hv a) := fun k h1 h2 => by rw [← any_mem, ← any_mem, any_same hv a b k (fun s hs => hgap s (by simp [hs])) h1 h2]
    have hG : ∀ k, a ≤ k → k < b → (mem gn k ↔ mem gn a) := fun k h1 h2 => by rw [← any_mem, ← any_mem, any_same gn a b k (fun s hs => hgap s (by simp [hs])) h1 h2]
    by_cases hc : (hv.any fun s => hasB s a) = false ∨ (gn.any fun s => hasB s a) = true
    · rw [bstep_out hv gn out a b hc]
      refine bgo_ok hv gn r b out (List.pairwise_cons.1 hp).2 he' hn (fun s hs => by have := hlast s hs; grind) fun k => ?_
      have hno : ¬ (mem hv a ∧ ¬ mem gn a) := by
        rw [← any_mem, ← any_mem]
        rcases hc with h | h <;> simp [h]
      rw [hm k]
      constructor
      · rintro ⟨h1, h2⟩; exact ⟨by grind, h2⟩
      · rintro ⟨h1, h2⟩
        refine ⟨?_, h2⟩
        rcases Std.le_total (a := a) (b := k) with h3 | h3
        · exact absurd ⟨(hH k h3 h1).1 h2.1, fun h => h2.2 ((hG k h3 h1).2 h)⟩ hno
        · by_cases h4 : k = a
          · subst h4; exact absurd h2 hno
          · grind
    · have hh : (hv.any fun s => hasB s a) = true := by
        cases h : (hv.any fun s => hasB s a)
        · exact absurd (.inl h) hc
        · rfl
      have hg : (gn.any fun s => hasB s a) = false := by
        cases h : (gn.any fun s => hasB s a)
        · rfl
        · exact absurd (.inr h) hc
      have hin : mem hv a ∧ ¬ mem gn a := ⟨(any_mem _ _).1 hh, fun h => by rw [(any_mem _ _).2 h] at hg; cases hg⟩
      have hkey : ∀ k, (k < b ∧ mem hv k ∧ ¬ mem gn k) ↔ (mem out k ∨ (a ≤ k ∧ k < b)) := fun k => by
        rw [hm k]
        constructor
        · rintro ⟨h1, h2⟩
          rcases Std.le_total (a := a) (b := k) with h3 | h3
          · exact .inr ⟨h3, h1⟩
          · by_cases h4 : k = a
            · exact .inr ⟨by rw [h4]; exact Std.IsPreorder.le_refl _, h1⟩
            · exact .inl ⟨by grind, h2⟩
        · rintro (⟨h1, h2⟩ | ⟨h1, h2⟩)
          · exact ⟨by grind, h2⟩
          · exact ⟨h2, (hH k h1 h2).2 hin.1, fun h => hin.2 ((hG k h1 h2).1 h)⟩
      rcases List.eq_nil_or_concat out with rfl | ⟨p, l, rfl⟩
      · rw [bstep_new hv gn a b hh hg]
        refine bgo_ok hv gn r b _ (List.pairwise_cons.1 hp).2 he' ⟨hab, by simp, trivial⟩ (by simp) fun k => ?_
        rw [hkey k]
        simp [mem, has]
      · rw [List.concat_eq_append] at *
        rw [bstep_snoc hv gn p l a b hh hg]
        obtain ⟨n1, n2, n3⟩ := normal_append.1 hn
        have hl0 : l.2 ≤ a := hlast l (by simp)
        have hl1 : l.1 < l.2 := n2.1
        by_cases hla : l.2 = a
        · rw [if_pos hla]
          refine bgo_ok hv gn r b _ (List.pairwise_cons.1 hp).2 he' (normal_append.2 ⟨n1, ⟨by show l.1 < b; grind, by simp, trivial⟩, fun u hu t ht => ?_⟩) (fun s hs => ?_) fun k => ?_
          · simp only [List.mem_singleton] at ht; subst ht; exact n3 u hu l (by simp)
          · rcases List.mem_append.1 hs with hs | hs
            · have := hlast s (by simp [hs]); grind
            · simp only [List.mem_singleton] at hs; subst hs; exact Std.IsPreorder.le_refl _
          · rw [hkey k]
            simp only [mem_append, mem_cons, mem_nil, or_false, has]
            have e : (l.1 ≤ k ∧ k < l.2 ∨ a ≤ k ∧ k < b) ↔ (l.1 ≤ k ∧ k < b) := by grind
            constructor
            · rintro (h | h)
              · exact .inl (.inl h)
              · rcases e.2 h with h | h
                · exact .inl (.inr h)
                · exact .inr h
            · rintro ((h | h) | h)
              · exact .inl h
              · exact .inr (e.1 (.inl h))
              · exact .inr (e.1 (.inr h))
        · rw [if_neg hla]
          refine bgo_ok hv gn r b _ (List.pairwise_cons.1 hp).2 he' (normal_append.2 ⟨hn, ⟨hab, by simp, trivial⟩, fun u hu t ht => ?_⟩) (fun s hs => ?_) fun k => ?_
          · simp only [List.mem_singleton] at ht; subst ht
            rcases List.mem_append.1 hu with hu | hu
            · have := n3 u hu l (by simp); show u.2 < a; grind
            · simp only [List.mem_singleton] at hu; subst hu; show u.2 < a; grind
          · rcases List.mem_append.1 hs with hs | hs
            · have := hlast s hs; grind
            · simp only [List.mem_singleton] at hs; subst hs; exact Std.IsPreorder.le_refl _
          · rw [hkey k]
            simp only [mem_append, mem_cons, mem_nil, or_false, has]
theorem build_ok (hv gn : List (K × K)) : Normal (bgo hv gn [] ((hv ++ gn).foldl ends2 [])) ∧ ∀ k, mem (bgo hv gn [] ((hv ++ gn).foldl ends2 [])) k ↔ mem hv k ∧ ¬ mem gn k := by
  obtain ⟨h1, h2⟩ := ends_ok (hv ++ gn) [] .nil
  rcases hE : (hv ++ gn).foldl ends2 [] with _ | ⟨a, r⟩
  · refine ⟨trivial, fun k => ?_⟩
    rw [bgo]
    refine ⟨fun h => absurd h (mem_nil k), fun h => ?_⟩
    obtain ⟨⟨s, hs, _⟩, _⟩ := h
    have := (h2 s.1).2 (.inr ⟨s, by simp [hs], .inl rfl⟩)
    rw [hE] at this; cases this
  · rw [hE] at h1 h2
    have hall : ∀ s ∈ hv ++ gn, (s.1 = a ∨ s.1 ∈ r) ∧ (s.2 = a ∨ s.2 ∈ r) := fun s hs =>
      ⟨List.mem_cons.1 ((h2 s.1).2 (.inr ⟨s, hs, .inl rfl⟩)), List.mem_cons.1 ((h2 s.2).2 (.inr ⟨s, hs, .inr rfl⟩))⟩
    refine bgo_ok hv gn r a [] h1 (fun s hs => ?_) trivial (by simp) fun k => ?_
    · obtain ⟨q1, q2⟩ := hall s hs
      exact ⟨q1.imp (fun h => by rw [h]; exact Std.IsPreorder.le_refl _) id, q2.imp (fun h => by rw [h]; exact Std.IsPreorder.le_refl _) id⟩
    · refine ⟨fun h => absurd h (mem_nil k), fun h => ?_⟩
      obtain ⟨hk, ⟨s, hs, h3, _⟩, _⟩ := h
      have hge : a ≤ s.1 := by
        rcases (hall s (by simp [hs])).1 with h | h
        · rw [h]; exact Std.IsPreorder.le_refl _
        · have := (List.pairwise_cons.1 h1).1 _ h; grind
      grind
end Go.Proofs.Ytdkdolcocblhkaa

/- What changes do, told by membership; the fewest changes do the same. -/
import Derived.Test.YtdkdolcocblhkaaLeastP
namespace Go.Proofs.Ytdkdolcocblhkaa

theorem mem_apply (l : List (K × K)) (cs : List Chg) (p : K × K) : p ∈ applyP l cs ↔ (p ∈ l ∧ ¬ mem (cs.map cspan) p.1) ∨ p ∈ applyP [] cs := by
  have key : ∀ n (cs : List Chg), cs.length = n → ∀ p, p ∈ applyP l cs ↔ (p ∈ l ∧ ¬ mem (cs.map cspan) p.1) ∨ p ∈ applyP [] cs := by
    intro n
    induction n with
    | zero => intro cs h p; rw [List.eq_nil_of_length_eq_zero h]; simp [applyP, mem]
    | succ n ih =>
      intro cs h p
      have hne : cs ≠ [] := by intro h0; rw [h0] at h; simp at h
      obtain ⟨ds, c, rfl⟩ : ∃ ds c, cs = ds ++ [c] := ⟨cs.dropLast, cs.getLast hne, (List.dropLast_concat_getLast hne).symm⟩
      have hl : ds.length = n := by simp at h; exact h
      rw [applyP_snoc, applyP_snoc, mem_oneP, mem_oneP, ih ds hl p, List.map_append, mem_append]
      have e : mem (List.map cspan [c]) p.1 ↔ has (cspan c) p.1 := by simp [mem]
      rw [e]
      constructor
      · rintro (⟨⟨h1, h2⟩ | h1, h3⟩ | h1)
        · exact .inl ⟨h1, fun h => h.elim h2 h3⟩
        · exact .inr (.inl ⟨h1, h3⟩)
        · exact .inr (.inr h1)
      · rintro (⟨h1, h2⟩ | ⟨h1, h3⟩ | h1)
        · exact .inl ⟨.inl ⟨h1, fun h => h2 (.inl h)⟩, fun h => h2 (.inr h)⟩
        · exact .inl ⟨.inr h1, h3⟩
        · exact .inr h1
  exact key _ cs rfl p

theorem rises_puts (cs : List Chg) : Rises (applyP [] cs) := rises_applyP .nil cs
/-- what stands at last is named -/
theorem put_named {cs : List Chg} {k : K} (h : k ∈ (applyP [] cs).map (·.1)) : mem (cs.map cspan) k := by
  obtain ⟨p, hp, rfl⟩ := List.mem_map.1 h
  rcases mem_applyP hp with h0 | ⟨c, hc, hk, rfl⟩
  · simp at h0
  · exact ⟨cspan c, List.mem_map_of_mem hc, (has_cspan c (by omega) _).2 rfl⟩
theorem cspan_gone (s : K × K) : cspan (toGone s) = s := by
  unfold toGone
  by_cases h : s.2 = s.1 ++ ⟨#[0]⟩ ∧ s.1.size ≤ 16
  · rw [if_pos h]
    unfold cspan
    rw [if_neg (by simp)]
    exact Prod.ext rfl h.1.symm
  · rw [if_neg h]
    unfold cspan
    rw [if_pos rfl]
theorem cspan_put (p : K × K) : cspan (toPut p) = (p.1, p.1 ++ ⟨#[0]⟩) := by
  unfold toPut cspan
  rw [if_neg (by simp)]
theorem least_spans (G K1 : List (K × K)) (k : K) : mem ((G.map toGone ++ K1.map toPut).map cspan) k ↔ mem G k ∨ k ∈ K1.map (·.1) := by
  rw [List.map_append, mem_append, List.map_map, List.map_map]
  have e1 : cspan ∘ toGone = id := funext cspan_gone
  have e2 : cspan ∘ toPut = fun p => (p.1, p.1 ++ ⟨#[0]⟩) := funext cspan_put
  rw [e1, e2, List.map_id, ← mem_ones]
  rfl
theorem gone_kind (s : K × K) : (toGone s).kind ≠ 1 := by
  unfold toGone
  split <;> simp
theorem puts_mem (K1 : List (K × K)) : ∀ (l : List (K × K)), Rises K1 → ∀ p, p ∈ applyP l (K1.map toPut) ↔ (p ∈ l ∧ p.1 ∉ K1.map (·.1)) ∨ p ∈ K1 := by
  induction K1 with
  | nil => intro l _ p; simp [applyP]
  | cons x r ih =>
    intro l hr p
    obtain ⟨h1, h2⟩ := rises_cons.1 hr
    have e : applyP l ((x :: r).map toPut) = applyP (oneP l (toPut x)) (r.map toPut) := rfl
    rw [e, ih _ h2 p, mem_oneP, cspan_put]
    have hh : has (x.1, x.1 ++ ⟨#[0]⟩) p.1 ↔ p.1 = x.1 := by
      have := has_cspan (toPut x) (by simp [toPut]) p.1
      rwa [cspan_put] at this
    rw [hh]
    have hx : x.1 ∉ r.map (·.1) := by
      intro h
      obtain ⟨q, hq, he⟩ := List.mem_map.1 h
      have := h1 q hq
      rw [he] at this
      grind
    simp only [List.map_cons, List.mem_cons, not_or]
    constructor
    · rintro (⟨⟨h3, h4⟩ | ⟨_, h3⟩, h5⟩ | h3)
      · exact .inl ⟨h3, h4, h5⟩
      · exact .inr (.inl h3)
      · exact .inr (.inr h3)
    · rintro (⟨h3, h4, h5⟩ | h3 | h3)
      · exact .inl ⟨.inl ⟨h3, h4⟩, h5⟩
      · exact .inl ⟨.inr ⟨rfl, h3⟩, by rw [h3]; exact hx⟩
      · exact .inr h3
theorem applyP_append (l : List (K × K)) (a b : List Chg) : applyP l (a ++ b) = applyP (applyP l a) b := by simp [applyP]
/-- done to nothing, the fewest changes leave what all leave -/
theorem least_nil (G K1 : List (K × K)) (hr : Rises K1) : applyP [] (G.map toGone ++ K1.map toPut) = K1 := by
  refine Rises.ext (rises_puts _) hr fun p => ?_
  rw [applyP_append, puts_mem K1 _ hr]
  have h0 : applyP [] (G.map toGone) = [] := by
    rw [List.eq_nil_iff_forall_not_mem]
    intro q hq
    rcases mem_applyP hq with h | ⟨c, hc, hk, _⟩
    · simp at h
    · obtain ⟨s, _, rfl⟩ := List.mem_map.1 hc
      exact gone_kind s hk
  rw [h0]
  simp
theorem least_mem {cs : List Chg} {G : List (K × K)} (hf : Fits G (goneP cs)) (k : K) : mem ((G.map toGone ++ (applyP [] cs).map toPut).map cspan) k ↔ mem (cs.map cspan) k := by
  rw [least_spans, hf.2 k, gone_eq]
  constructor
  · rintro (⟨h, _⟩ | h)
    · exact h
    · exact put_named h
  · intro h
    by_cases hk : k ∈ (applyP [] cs).map (·.1)
    · exact .inr hk
    · exact .inl ⟨h, hk⟩
/-- the fewest changes do the same to any sound pairs -/
theorem least_apply {l : List (K × K)} (hl : Rises l) {cs : List Chg} {G : List (K × K)} (hf : Fits G (goneP cs)) : applyP l (G.map toGone ++ (applyP [] cs).map toPut) = applyP l cs := by
  refine Rises.ext (rises_applyP hl _) (rises_applyP hl _) fun p => ?_
  rw [mem_apply l (_ ++ _), mem_apply l cs, least_mem hf, least_nil G _ (rises_puts cs)]
/-- the fewest of the fewest are these -/
theorem least_again {cs : List Chg} {G G' : List (K × K)} (hf : Fits G (goneP cs)) (hf' : Fits G' (goneP (G.map toGone ++ (applyP [] cs).map toPut))) : G' = G := by
  refine (hf'.congr fun k => ?_).eq hf
  rw [gone_eq, gone_eq, least_mem hf, least_nil G _ (rises_puts cs)]
theorem least_check {cs : List Chg} {G : List (K × K)} (hf : Fits G (goneP cs)) (h0 : allAns cs = 0) : allAns (G.map toGone ++ (applyP [] cs).map toPut) = 0 := by
  have hc := allAns_zero.1 h0
  have hs := (gone_spans (hf.congr fun k => gone_eq cs k)).2 hc
  have hlt : ∀ s ∈ G, s.1 < s.2 := by
    have key : ∀ (l : List (K × K)), Normal l → ∀ s ∈ l, s.1 < s.2 := by
      intro l
      induction l with
      | nil => intro _ s h; simp at h
      | cons x r ih =>
        intro hn s h
        rcases List.mem_cons.1 h with rfl | h
        · exact hn.1
        · exact ih hn.2.2 s h
    exact key G hf.1
  refine allAns_zero.2 fun c h => ?_
  rcases List.mem_append.1 h with h | h
  · obtain ⟨s, hs1, rfl⟩ := List.mem_map.1 h
    have h17 := hs s hs1
    have hl := hlt s hs1
    unfold toGone
    by_cases h2 : s.2 = s.1 ++ ⟨#[0]⟩ ∧ s.1.size ≤ 16
    · rw [if_pos h2]
      unfold checkAns
      have : (⟨#[]⟩ : K).size = 0 := rfl
      simp only
      rw [if_neg (by decide), if_pos trivial, if_neg (by rw [this]; omega)]
    · rw [if_neg h2]
      unfold checkAns
      simp only
      rw [if_neg (by decide), if_neg (by decide), if_pos trivial, if_neg (by omega), if_neg (by grind)]
  · obtain ⟨p, hp, rfl⟩ := List.mem_map.1 h
    rcases mem_applyP hp with h | ⟨c, hcc, hk, rfl⟩
    · simp at h
    · have := hc c hcc
      unfold checkAns at this
      rw [if_pos hk] at this
      unfold toPut checkAns
      simp only
      rw [if_pos trivial]
      exact this
/-- done again nothing is other -/
theorem apply_again {l : List (K × K)} (hl : Rises l) (cs : List Chg) : applyP (applyP l cs) cs = applyP l cs := by
  refine Rises.ext (rises_applyP (rises_applyP hl _) _) (rises_applyP hl _) fun p => ?_
  rw [mem_apply (applyP l cs) cs, mem_apply l cs]
  constructor
  · rintro (⟨h, _⟩ | h)
    · exact h
    · exact .inr h
  · rintro (⟨h1, h2⟩ | h)
    · exact .inl ⟨.inl ⟨h1, h2⟩, h2⟩
    · exact .inr h
theorem sound_of {l : List (K × K)} (h1 : Rises l) (h2 : ∀ p ∈ l, p.1.size ≤ 16 ∧ p.2.size ≤ 64) : soundP l = true := by
  have key : ∀ (l : List (K × K)) (o : Option K), Rises l → (∀ p ∈ l, p.1.size ≤ 16 ∧ p.2.size ≤ 64) → (∀ q, o = some q → ∀ p ∈ l, q < p.1) → okFrom o l = true := by
    intro l
    induction l with
    | nil => intro o _ _ _; rfl
    | cons x r ih =>
      intro o h1 h2 h3
      obtain ⟨i1, i2⟩ := rises_cons.1 h1
      have hx := h2 x (by simp)
      rw [okFrom, if_neg]
      · exact ih _ i2 (fun p hp => h2 p (by simp [hp])) fun q hq p hp => by
          injection hq with hq
          rw [← hq]; exact i1 p hp
      · rintro (h | h | ⟨q, hq, h⟩)
        · omega
        · omega
        · have := h3 q hq x (by simp)
          grind
  exact key l none h1 h2 (by simp)
theorem sound_apply {l : List (K × K)} (h : soundP l = true) {cs : List Chg} (hc : allAns cs = 0) : soundP (applyP l cs) = true := by
  obtain ⟨h1, h2⟩ := soundP_spec h
  refine sound_of (rises_applyP h1 cs) fun p hp => ?_
  rcases mem_applyP hp with hp | ⟨c, hcc, hk, rfl⟩
  · exact h2 p hp
  · have := allAns_zero.1 hc c hcc
    unfold checkAns at this
    rw [if_pos hk] at this
    split at this
    · simp at this
    · simp only; omega
theorem sound_nil : soundP [] = true := rfl
/-- two changes that name no key both may be done in either order -/
theorem swap_apply {l : List (K × K)} (hl : Rises l) (x y : Chg) (h : ∀ k, has (cspan x) k → ¬ has (cspan y) k) : applyP l [x, y] = applyP l [y, x] := by
  refine Rises.ext (rises_applyP hl _) (rises_applyP hl _) fun p => ?_
  show p ∈ oneP (oneP l x) y ↔ p ∈ oneP (oneP l y) x
  simp only [mem_oneP]
  have hx : x.kind = 1 ∧ p = (x.key, x.val) → ¬ has (cspan y) p.1 := by
    rintro ⟨hk, rfl⟩
    exact h _ ((has_cspan x (by omega) _).2 rfl)
  have hy : y.kind = 1 ∧ p = (y.key, y.val) → ¬ has (cspan x) p.1 := by
    rintro ⟨hk, rfl⟩ h2
    exact h _ h2 ((has_cspan y (by omega) _).2 rfl)
  constructor
  · rintro (⟨⟨h1, h2⟩ | h1, h3⟩ | h1)
    · exact .inl ⟨.inl ⟨h1, h3⟩, h2⟩
    · exact .inr h1
    · exact .inl ⟨.inr h1, hy h1⟩
  · rintro (⟨⟨h1, h2⟩ | h1, h3⟩ | h1)
    · exact .inl ⟨.inl ⟨h1, h3⟩, h2⟩
    · exact .inr h1
    · exact .inl ⟨.inr h1, hx h1⟩
theorem gone_exists (cs : List Chg) : ∃ G, Fits G (goneP cs) :=
  ⟨_, Fits.congr (P := fun k => mem (cs.map cspan) k ∧ ¬ mem (onesOf (applyP [] cs)) k) (build_ok (cs.map cspan) (onesOf (applyP [] cs))) fun k => by rw [gone_eq, mem_ones]⟩
noncomputable def goneL (cs : List Chg) : List (K × K) := (gone_exists cs).choose
theorem goneL_fits (cs : List Chg) : Fits (goneL cs) (goneP cs) := (gone_exists cs).choose_spec
/-- the fewest changes that do the same -/
noncomputable def leastP (cs : List Chg) : List Chg := (goneL cs).map toGone ++ (applyP [] cs).map toPut
theorem leastP_eq {cs : List Chg} {G : List (K × K)} (h : Fits G (goneP cs)) : G.map toGone ++ (applyP [] cs).map toPut = leastP cs := by rw [leastP, h.eq (goneL_fits cs)]
theorem leastP_check {cs : List Chg} (h : allAns cs = 0) : allAns (leastP cs) = 0 := least_check (goneL_fits cs) h
theorem leastP_apply {l : List (K × K)} (hl : Rises l) (cs : List Chg) : applyP l (leastP cs) = applyP l cs := least_apply hl (goneL_fits cs)
theorem leastP_nil (cs : List Chg) : applyP [] (leastP cs) = applyP [] cs := least_nil _ _ (rises_puts cs)
theorem leastP_again (cs : List Chg) : leastP (leastP cs) = leastP cs := by
  have h := least_again (G' := goneL (leastP cs)) (goneL_fits cs) (goneL_fits (leastP cs))
  rw [leastP, h, leastP_nil, leastP_eq (goneL_fits cs)]
theorem leastP_len (cs : List Chg) : (leastP cs).length ≤ 3 * cs.length := by
  have h1 := (gone_spans ((goneL_fits cs).congr fun k => gone_eq cs k)).1
  have h2 := applyP_length [] cs
  simp [leastP] at h2 ⊢
  omega
theorem least_low (G K1 : List (K × K)) (i : Nat) (h : i < (G.map toGone ++ K1.map toPut).length) (h2 : i < G.length) : (G.map toGone ++ K1.map toPut)[i].kind ≠ 1 := by
  rw [List.getElem_append_left (by simpa using h2), List.getElem_map]
  exact gone_kind _
theorem least_high (G K1 : List (K × K)) (i : Nat) (h : i < (G.map toGone ++ K1.map toPut).length) (h2 : G.length ≤ i) : ∃ h3 : i - G.length < K1.length, (G.map toGone ++ K1.map toPut)[i] = toPut K1[i - G.length] := by
  refine ⟨by simp at h; omega, ?_⟩
  rw [List.getElem_append_right (by simpa using h2), List.getElem_map]
  simp
theorem small_check {c : Chg} (h : checkAns c = 0) : smallC c := by
  have := check_size h
  exact ⟨by omega, by omega⟩
theorem small_all {cs : List Chg} (h : allAns cs = 0) : ∀ c ∈ cs, smallC c := fun c hc => small_check (allAns_zero.1 h c hc)
end Go.Proofs.Ytdkdolcocblhkaa

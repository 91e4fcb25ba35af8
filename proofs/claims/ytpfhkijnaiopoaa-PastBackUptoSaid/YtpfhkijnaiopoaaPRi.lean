/- Keys that rise; what a Past answers about one key. -/
import Derived.Test.YtpfhkijnaiopoaaPa
import Derived.Test.YtpfhkijnaiopoaaKeys
namespace Go.Proofs.Ytpfhkijnaiopoaa

theorem lists_gt : ∀ l : List UInt8, l < l ++ [0]
  | [] => by decide
  | a :: l => by
    have := lists_gt l
    exact List.Lex.cons this
theorem lists_gap : ∀ l m : List UInt8, m ≤ l ∨ l ++ [0] ≤ m
  | [], [] => .inl (by decide)
  | [], b :: m => .inr (by
      show ¬ (b :: m : List UInt8) < [0]
      intro h
      cases h with
      | rel h => exact absurd h (by simp [UInt8.lt_iff_toNat_lt])
      | cons h => cases h)
  | a :: l, [] => .inl (by show ¬ (a :: l : List UInt8) < []; intro h; cases h)
  | a :: l, b :: m => by
    rcases Nat.lt_trichotomy b.toNat a.toNat with h | h | h
    · exact .inl (Std.le_of_lt (List.Lex.rel (UInt8.lt_iff_toNat_lt.2 h)))
    · obtain rfl : b = a := UInt8.toNat_inj.1 h
      rcases lists_gap l m with h1 | h1
      · refine .inl ?_
        show ¬ (b :: l : List UInt8) < b :: m
        intro h2
        cases h2 with
        | rel h => exact absurd h (by simp)
        | cons h => exact h1 h
      · refine .inr ?_
        show ¬ (b :: m : List UInt8) < b :: (l ++ [0])
        intro h2
        cases h2 with
        | rel h => exact absurd h (by simp)
        | cons h => exact h1 h
    · exact .inr (Std.le_of_lt (List.Lex.rel (UInt8.lt_iff_toNat_lt.2 h)))
theorem next_data (k : K) : (k ++ ⟨#[0]⟩ : K).data.toList = k.data.toList ++ [0] := by simp
theorem next_gt (k : K) : k < k ++ ⟨#[0]⟩ := by
  show k.data.toList < (k ++ ⟨#[0]⟩ : K).data.toList
  rw [next_data]; exact lists_gt _
theorem next_gap (k m : K) : m ≤ k ∨ k ++ ⟨#[0]⟩ ≤ m := by
  show m.data.toList ≤ k.data.toList ∨ (k ++ ⟨#[0]⟩ : K).data.toList ≤ m.data.toList
  rw [next_data]; exact lists_gap _ _

theorem next_only (a k : K) : (a ≤ k ∧ k < a ++ ⟨#[0]⟩) ↔ k = a := by
  have h1 := next_gt a
  have h2 := next_gap a k
  constructor
  · rintro ⟨h3, h4⟩
    rcases h2 with h | h <;> grind
  · rintro rfl
    exact ⟨Std.IsPreorder.le_refl _, h1⟩
def Rises (l : List (K × K)) : Prop := l.Pairwise (fun a b => a.1 < b.1)
theorem Rises.lt {l : List (K × K)} (h : Rises l) {i j : Nat} (hj : j < l.length) (hij : i < j) : l[i].1 < l[j].1 := List.pairwise_iff_getElem.1 h i j (by omega) hj hij
theorem key_next (a k : K) : (a ≤ k ∧ k < a ++ ⟨#[0]⟩) ↔ k = a := next_only a k
theorem has_cspan (c : Chg) (hc : c.kind ≠ 3) (k : K) : has (cspan c) k ↔ k = c.key := by
  unfold cspan has
  rw [if_neg hc]
  exact key_next c.key k
theorem hasB_iff (s : K × K) (k : K) : hasB s k = true ↔ has s k := by
  unfold hasB has
  simp
theorem mem_oneGo (c : Chg) (p : K × K) : ∀ (l : List (K × K)) (put : Bool), p ∈ oneGo c put l ↔ (p ∈ l ∧ ¬ has (cspan c) p.1) ∨ (put = false ∧ p = (c.key, c.val))
  | [], put => by cases put <;> simp [oneGo]
  | x :: r, put => by
    have ih1 := mem_oneGo c p r true
    have ih2 := mem_oneGo c p r (put || decide (c.key ≤ x.1))
    rw [oneGo, List.mem_append, List.mem_append, ih2]
    have hx := hasB_iff (cspan c) x.1
    cases put
    · by_cases hk : c.key ≤ x.1
      · by_cases hb : hasB (cspan c) x.1 = true
        · have := hx.1 hb
          simp [hk, hb]
          constructor
          · rintro (h | ⟨h1, h2⟩)
            · exact .inr h
            · exact .inl ⟨.inr h1, h2⟩
          · rintro (⟨h1 | h1, h2⟩ | h)
            · subst h1; exact absurd this h2
            · exact .inr ⟨h1, h2⟩
            · exact .inl h
        · have hn : ¬ has (cspan c) x.1 := fun h => hb (hx.2 h)
          simp [hk, hb]
          constructor
          · rintro (h | h | ⟨h1, h2⟩)
            · exact .inr h
            · subst h; exact .inl ⟨.inl rfl, hn⟩
            · exact .inl ⟨.inr h1, h2⟩
          · rintro (⟨h1 | h1, h2⟩ | h)
            · exact .inr (.inl h1)
            · exact .inr (.inr ⟨h1, h2⟩)
            · exact .inl h
      · by_cases hb : hasB (cspan c) x.1 = true
        · have := hx.1 hb
          simp [hk, hb]
          constructor
          · rintro (⟨h1, h2⟩ | h)
            · exact .inl ⟨.inr h1, h2⟩
            · exact .inr h
          · rintro (⟨h1 | h1, h2⟩ | h)
            · subst h1; exact absurd this h2
            · exact .inl ⟨h1, h2⟩
            · exact .inr h
        · have hn : ¬ has (cspan c) x.1 := fun h => hb (hx.2 h)
          simp [hk, hb]
          constructor
          · rintro (h | ⟨h1, h2⟩ | h)
            · subst h; exact .inl ⟨.inl rfl, hn⟩
            · exact .inl ⟨.inr h1, h2⟩
            · exact .inr h
          · rintro (⟨h1 | h1, h2⟩ | h)
            · exact .inl h1
            · exact .inr (.inl ⟨h1, h2⟩)
            · exact .inr (.inr h)
    · by_cases hb : hasB (cspan c) x.1 = true
      · have := hx.1 hb
        simp [hb]
        intro h2 h1
        subst h1; exact absurd this h2
      · have hn : ¬ has (cspan c) x.1 := fun h => hb (hx.2 h)
        simp [hb]
        constructor
        · rintro (h | ⟨h1, h2⟩)
          · subst h; exact ⟨.inl rfl, hn⟩
          · exact ⟨.inr h1, h2⟩
        · rintro ⟨h1 | h1, h2⟩
          · exact .inl h1
          · exact .inr ⟨h1, h2⟩
theorem mem_oneP (l : List (K × K)) (c : Chg) (p : K × K) : p ∈ oneP l c ↔ (p ∈ l ∧ ¬ has (cspan c) p.1) ∨ (c.kind = 1 ∧ p = (c.key, c.val)) := by
  unfold oneP
  rw [mem_oneGo]
  simp

theorem rises_cons {x : K × K} {r : List (K × K)} : Rises (x :: r) ↔ (∀ p ∈ r, x.1 < p.1) ∧ Rises r := List.pairwise_cons
theorem rises_append {a b : List (K × K)} : Rises (a ++ b) ↔ Rises a ∧ Rises b ∧ ∀ p ∈ a, ∀ q ∈ b, p.1 < q.1 := List.pairwise_append
theorem rises_oneGo (c : Chg) : ∀ (l : List (K × K)) (put : Bool), (put = false → c.kind = 1) → Rises l → Rises (oneGo c put l)
  | [], put, _, _ => by cases put <;> simp [oneGo, Rises]
  | x :: r, put, hk, h => by
    obtain ⟨h1, h2⟩ := rises_cons.1 h
    have hx := hasB_iff (cspan c) x.1
    rw [oneGo]
    cases put
    · have hk1 := hk rfl
      by_cases hkx : c.key ≤ x.1
      · have ih := rises_oneGo c r true (by simp) h2
        have hm := fun p => mem_oneGo c p r true
        simp only [Bool.not_false, Bool.true_and, hkx, decide_true, if_true, Bool.or_true]
        by_cases hb : hasB (cspan c) x.1 = true
        · simp only [hb, if_true, List.nil_append]
          refine rises_append.2 ⟨by simp [Rises], ih, fun p hp q hq => ?_⟩
          simp only [List.mem_singleton] at hp; subst hp
          have h3 := h1 q (by have := (hm q).1 hq; simp at this; exact this.1)
          simp only; grind
        · have hn : ¬ has (cspan c) x.1 := fun h => hb (hx.2 h)
          have hne : x.1 ≠ c.key := fun e => hn ((has_cspan c (by omega) x.1).2 e)
          simp only [hb]
          refine rises_append.2 ⟨by simp [Rises], rises_append.2 ⟨by simp [Rises], ih, fun p hp q hq => ?_⟩, fun p hp q hq => ?_⟩
          · simp only [Bool.false_eq_true, if_false, List.mem_singleton] at hp; subst hp
            exact h1 q (by have := (hm q).1 hq; simp at this; exact this.1)
          · simp only [List.mem_singleton] at hp; subst hp
            rcases List.mem_append.1 hq with hq | hq
            · simp only [Bool.false_eq_true, if_false, List.mem_singleton] at hq; subst hq
              simp only; grind
            · have h3 := h1 q (by have := (hm q).1 hq; simp at this; exact this.1)
              simp only; grind
      · have ih := rises_oneGo c r false (fun _ => hk1) h2
        have hm := fun p => mem_oneGo c p r false
        simp only [Bool.not_false, Bool.true_and, hkx, decide_false, Bool.false_eq_true, if_false, Bool.or_false, List.nil_append]
        refine rises_append.2 ⟨by split <;> simp [Rises], ih, fun p hp q hq => ?_⟩
        have hpx : p = x := by split at hp <;> simp at hp; exact hp
        subst hpx
        rcases (hm q).1 hq with ⟨h3, _⟩ | ⟨_, h3⟩
        · exact h1 q h3
        · rw [h3]; simp only; grind
    · have ih := rises_oneGo c r true (by simp) h2
      have hm := fun p => mem_oneGo c p r true
      simp only [Bool.not_true, Bool.false_and, Bool.false_eq_true, if_false, Bool.true_or, List.nil_append]
      refine rises_append.2 ⟨by split <;> simp [Rises], ih, fun p hp q hq => ?_⟩
      have hpx : p = x := by split at hp <;> simp at hp; exact hp
      subst hpx
      exact h1 q (by have := (hm q).1 hq; simp at this; exact this.1)
theorem rises_oneP {l : List (K × K)} (c : Chg) (h : Rises l) : Rises (oneP l c) := rises_oneGo c l _ (by simp) h

theorem soundP_spec {l : List (K × K)} (h : soundP l = true) : Rises l ∧ ∀ p ∈ l, p.1.size ≤ 16 ∧ p.2.size ≤ 64 := by
  have key : ∀ (l : List (K × K)) (o : Option K), okFrom o l = true → Rises l ∧ (∀ p ∈ l, p.1.size ≤ 16 ∧ p.2.size ≤ 64) ∧ ∀ q, o = some q → ∀ p ∈ l, q < p.1 := by
    intro l
    induction l with
    | nil => intro o _; exact ⟨.nil, by simp, by simp⟩
    | cons x r ih =>
      intro o h
      rw [okFrom] at h
      split at h
      · simp at h
      · rename_i hn
        obtain ⟨i1, i2, i3⟩ := ih _ h
        have i4 := i3 x.1 rfl
        refine ⟨rises_cons.2 ⟨i4, i1⟩, fun p hp => ?_, fun q hq p hp => ?_⟩
        · rcases List.mem_cons.1 hp with rfl | hp
          · exact ⟨by omega, by omega⟩
          · exact i2 p hp
        · have hqx : q < x.1 := by
            rcases Classical.em (x.1 ≤ q) with h5 | h5
            · exact absurd (.inr (.inr ⟨q, hq, h5⟩)) hn
            · grind
          rcases List.mem_cons.1 hp with rfl | hp
          · exact hqx
          · have := i4 p hp; grind
  obtain ⟨a, b, _⟩ := key l none h
  exact ⟨a, b⟩
theorem rises_applyP {l : List (K × K)} (h : Rises l) : ∀ cs : List Chg, Rises (applyP l cs) := by
  intro cs
  induction cs generalizing l with
  | nil => exact h
  | cons c r ih => exact ih (rises_oneP c h)
theorem rises_atL : ∀ {l : List (Int × Prs)} (_ : ∀ x ∈ l, Rises x.2) (v : Int), Rises (atL l v) := by
  intro l h v
  have key : ∀ (l : List (Int × Prs)) (acc : Prs), Rises acc → (∀ x ∈ l, Rises x.2) → Rises (l.foldl (fun acc x => if x.1 ≤ v then x.2 else acc) acc) := by
    intro l
    induction l with
    | nil => intro acc h _; exact h
    | cons x r ih =>
      intro acc ha hl
      rw [List.foldl_cons]
      refine ih _ ?_ (fun y hy => hl y (List.mem_cons_of_mem _ hy))
      split
      · exact hl x (by simp)
      · exact ha
  exact key l [] .nil h
theorem key_one {P : Prs} (h : Rises P) {x y : K × K} (hx : x ∈ P) (hy : y ∈ P) (e : x.1 = y.1) : x = y := by
  obtain ⟨i, hi, rfl⟩ := List.mem_iff_getElem.1 hx
  obtain ⟨j, hj, rfl⟩ := List.mem_iff_getElem.1 hy
  rcases Nat.lt_trichotomy i j with k | k | k
  · have := h.lt hj k; rw [e] at this; grind
  · subst k; rfl
  · have := h.lt hi k; rw [e] at this; grind
theorem valOf_mem {P : Prs} (h : Rises P) {x : K × K} (hx : x ∈ P) : valOf P x.1 = (x.2, true) := by
  unfold valOf
  cases hf : P.find? (fun p => decide (p.1 = x.1)) with
  | none => have := List.find?_eq_none.1 hf x hx; simp at this
  | some y =>
    have h1 := List.mem_of_find?_eq_some hf
    have h2 := List.find?_some hf
    rw [key_one h h1 hx (by simpa using h2)]
theorem valOf_of {P : Prs} {k v : K} (h : valOf P k = (v, true)) : (k, v) ∈ P := by
  unfold valOf at h
  cases hf : P.find? (fun p => decide (p.1 = k)) with
  | none => rw [hf] at h; simp at h
  | some y =>
    rw [hf] at h
    have h1 := List.mem_of_find?_eq_some hf
    have h2 := List.find?_some hf
    simp at h h2
    rw [← h2, ← h]; exact h1
theorem valOf_none {P : Prs} {k : K} (h : (valOf P k).2 = false) : valOf P k = (⟨#[]⟩, false) ∧ ∀ x ∈ P, x.1 ≠ k := by
  unfold valOf at h ⊢
  cases hf : P.find? (fun p => decide (p.1 = k)) with
  | none => exact ⟨rfl, fun x hx => by have := List.find?_eq_none.1 hf x hx; simpa using this⟩
  | some y => rw [hf] at h; simp at h
/-- the entry of a key and its value -/
def isKV (k v : K) (x : K × K) : Bool := decide (x.1 = k) && decide (x.2 = v)
open Classical in
theorem count_kv : ∀ {P : Prs} (_ : Rises P) (k v : K), P.countP (isKV k v) = if (k, v) ∈ P then 1 else 0
  | [], _, k, v => by simp
  | x :: r, h, k, v => by
    obtain ⟨h1, h2⟩ := rises_cons.1 h
    have ih := count_kv h2 k v
    rw [List.countP_cons, ih]
    by_cases hx : x = (k, v)
    · subst hx
      have hn : (k, v) ∉ r := fun hm => by have := h1 _ hm; simp only at this; grind
      simp [isKV, hn]
    · have he : isKV k v x = false := by
        unfold isKV
        rcases Classical.em (x.1 = k) with e1 | e1
        · rcases Classical.em (x.2 = v) with e2 | e2
          · exact absurd (by rw [← e1, ← e2]) hx
          · simp [e2]
        · simp [e1]
      have hx' : ¬ ((k, v) = x) := fun e => hx e.symm
      simp [he, List.mem_cons, hx']
open Classical in
/-- how often the entry of a key stands in a span: what PastKeys asks -/
theorem found_kv {P : Prs} (h : Rises P) (s : K × K) (k v : K) (b : Bool) (hv : valOf P k = (v, b)) : (P.filter (fun x => hasB s x.1)).countP (isKV k v) = if b && hasB s k then 1 else 0 := by
  have hq : Rises (P.filter (fun x => hasB s x.1)) := List.Pairwise.filter _ h
  rw [count_kv hq]
  have hm : (k, v) ∈ P.filter (fun x => hasB s x.1) ↔ (b && hasB s k) = true := by
    rw [List.mem_filter]
    cases b
    · obtain ⟨_, h2⟩ := valOf_none (by rw [hv])
      simp only [Bool.false_and, Bool.false_eq_true, iff_false, not_and]
      intro hm
      exact absurd rfl (h2 _ hm)
    · have := valOf_of hv
      simp [this]
  by_cases hb : (b && hasB s k) = true
  · rw [if_pos hb, if_pos (hm.2 hb)]
  · rw [if_neg hb, if_neg (fun e => hb (hm.1 e))]
theorem found_cases {P : Prs} (h : Rises P) (s : K × K) (k v : K) (b : Bool) (hv : valOf P k = (v, b)) : (b = true ∧ hasB s k = true ∧ (P.filter (fun x => hasB s x.1)).countP (isKV k v) = 1) ∨ (b = true ∧ hasB s k = false ∧ (P.filter (fun x => hasB s x.1)).countP (isKV k v) = 0) ∨ (b = false ∧ (P.filter (fun x => hasB s x.1)).countP (isKV k v) = 0) := by
  have h1 := found_kv h s k v b hv
  cases b
  · exact .inr (.inr ⟨rfl, by simpa using h1⟩)
  · cases hs : hasB s k
    · exact .inr (.inl ⟨rfl, rfl, by rw [hs] at h1; simpa using h1⟩)
    · exact .inl ⟨rfl, rfl, by rw [hs] at h1; simpa using h1⟩
theorem count_step (k v : K) (Q : Prs) (i : Nat) (h : i < Q.length) : (Q.take (i + 1)).countP (isKV k v) = (Q.take i).countP (isKV k v) + (if isKV k v Q[i] = true then 1 else 0) := by
  rw [List.take_add_one, List.getElem?_eq_getElem h, Option.toList_some, List.countP_append, List.countP_singleton]
theorem get_good {p : Pa} {k : K} {v : Int} (h1 : ¬ v < p.first) (h2 : ¬ p.last < v) : p.get k v = (valOf (p.at_ v) k, 0) := by
  have hk : p.known v = 0 := by unfold Pa.known; rw [if_neg h1, if_neg h2]
  unfold Pa.get
  rw [hk, if_neg (by simp)]
theorem atL_all {R : K × K → Prop} : ∀ {l : List (Int × Prs)} (_ : ∀ x ∈ l, ∀ p ∈ x.2, R p) (v : Int), ∀ p ∈ atL l v, R p := by
  intro l h v
  have key : ∀ (l : List (Int × Prs)) (acc : Prs), (∀ p ∈ acc, R p) → (∀ x ∈ l, ∀ p ∈ x.2, R p) → ∀ p ∈ l.foldl (fun acc x => if x.1 ≤ v then x.2 else acc) acc, R p := by
    intro l
    induction l with
    | nil => intro acc h _; exact h
    | cons x r ih =>
      intro acc ha hl
      rw [List.foldl_cons]
      refine ih _ ?_ (fun y hy => hl y (List.mem_cons_of_mem _ hy))
      split
      · exact hl x (by simp)
      · exact ha
  exact key l [] (by simp) h
theorem all_applyP {R : K × K → Prop} : ∀ {cs : List Chg} {l : Prs} (_ : ∀ p ∈ l, R p) (_ : ∀ c ∈ cs, R (c.key, c.val)), ∀ p ∈ applyP l cs, R p
  | [], _, h, _ => h
  | c :: r, l, h, hc => all_applyP (cs := r) (l := oneP l c) (fun p hp => by
      rcases (mem_oneP l c p).1 hp with ⟨h1, _⟩ | ⟨_, h1⟩
      · exact h p h1
      · rw [h1]; exact hc c (by simp)) (fun c' h' => hc c' (List.mem_cons_of_mem _ h'))
end Go.Proofs.Ytpfhkijnaiopoaa

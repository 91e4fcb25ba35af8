/- Councils that promise and take: no two states are ever taken by majorities; pure. The law's ballots, vows and states, as the pure councils have them. The reference's small functions: numbers and changes behind bytes; whether a transaction, a batch, a state is sound. The reference's reader: numbers, texts, changes. Numbers held against numbers, as the reference does. The reference: whether a batch, a state is sound; the same of the same. The reference of ballots: Less (Promise, Take, Best, Same are to follow). What councils share: new memory, moved memory, steps. Rows of bytes: a slice of slices, read and owned; which blocks they do not lie in. -/
import Derived.Test.YthoheikbpihflaaFaf
import Derived.Test.YthoheikbpihflaaFae
import Derived.Test.YthoheikbpihflaaFab
import Derived.Test.YthoheikbpihflaaFad
import Derived.Test.YthoheikbpihflaaFag
namespace Go.Proofs.Ythoheikbpihflaa

/-- what each council has promised (0: nothing), at which ballot it took (0: none), what; what each ballot was told, what it proposes (0: not yet), who was asked, who took -/
structure Px where
  p : Nat → Nat
  a : Nat → Nat
  t : Nat → Nat
  told : Nat → List (Nat × Nat)
  mine : Nat → Nat
  asked : Nat → Nat → Bool
  took : Nat → Nat → Bool
/-- so many of the first n -/
def cnt (n : Nat) (q : Nat → Bool) : Nat := (List.range n).countP q
theorem cnt_zero (q : Nat → Bool) : cnt 0 q = 0 := rfl
theorem cnt_succ (n : Nat) (q : Nat → Bool) : cnt (n + 1) q = cnt n q + if q n then 1 else 0 := by
  unfold cnt
  rw [List.range_succ, List.countP_append]
  by_cases h : q n <;> simp [h]
theorem cnt_congr {n : Nat} {q r : Nat → Bool} (h : ∀ i, i < n → q i = r i) : cnt n q = cnt n r := by
  unfold cnt
  exact List.countP_congr fun i hi => by rw [h i (List.mem_range.1 hi)]
theorem cnt_mono {n : Nat} {q r : Nat → Bool} (h : ∀ i, i < n → q i = true → r i = true) : cnt n q ≤ cnt n r := by
  unfold cnt
  exact List.countP_mono_left fun i hi => h i (List.mem_range.1 hi)
theorem cnt_set {n : Nat} {q : Nat → Bool} {c : Nat} (hc : c < n) (hq : q c = false) : cnt n (fun i => if i = c then true else q i) = cnt n q + 1 := by
  induction n with
  | zero => omega
  | succ n ih =>
    rw [cnt_succ, cnt_succ]
    by_cases e : c = n
    · subst e
      rw [cnt_congr (r := q) (fun i hi => by rw [if_neg (by omega)])]
      simp [hq]
    · rw [ih (by omega), if_neg (by omega : ¬ n = c)]
      omega
/-- two majorities have one in common -/
theorem cnt_meet {n : Nat} {q r : Nat → Bool} (h1 : n < 2 * cnt n q) (h2 : n < 2 * cnt n r) : ∃ c, c < n ∧ q c = true ∧ r c = true := by
  have key : ∀ m, (∀ c, c < m → ¬ (q c = true ∧ r c = true)) → cnt m q + cnt m r ≤ m := by
    intro m
    induction m with
    | zero => intro _; simp [cnt_zero]
    | succ m ih =>
      intro h
      have := ih (fun c hc => h c (by omega))
      have hm := h m (by omega)
      rw [cnt_succ, cnt_succ]
      by_cases e1 : q m = true <;> by_cases e2 : r m = true
      · exact absurd ⟨e1, e2⟩ hm
      all_goals simp [e1, e2]; omega
  refine Classical.byContradiction fun hno => ?_
  have := key n (fun c hc h => hno ⟨c, hc, h⟩)
  omega

/-- what Best answers: what was taken at the greatest ballot, of equal ones the first -/
def best : List (Nat × Nat) → Nat × Nat → Nat × Nat
  | [], b => b
  | x :: l, b => best l (if b.1 < x.1 then x else b)
def bestT (l : List (Nat × Nat)) : Nat := (best l (0, 0)).2
theorem best_spec : ∀ (l : List (Nat × Nat)) (b : Nat × Nat), b.1 ≤ (best l b).1 ∧ (∀ x ∈ l, x.1 ≤ (best l b).1) ∧ (best l b = b ∨ best l b ∈ l)
  | [], b => ⟨Nat.le_refl _, by simp, .inl rfl⟩
  | y :: l, b => by
    have ih := best_spec l (if b.1 < y.1 then y else b)
    have e : best (y :: l) b = best l (if b.1 < y.1 then y else b) := rfl
    rw [e]
    generalize best l (if b.1 < y.1 then y else b) = z at ih ⊢
    obtain ⟨h1, h2, h3⟩ := ih
    by_cases hy : b.1 < y.1
    · rw [if_pos hy] at h1 h3
      refine ⟨by omega, fun x hx => ?_, ?_⟩
      · rcases List.mem_cons.1 hx with rfl | hx
        · exact h1
        · exact h2 x hx
      · rcases h3 with h3 | h3
        · exact .inr (by simp [h3])
        · exact .inr (by simp [h3])
    · rw [if_neg hy] at h1 h3
      refine ⟨h1, fun x hx => ?_, ?_⟩
      · rcases List.mem_cons.1 hx with rfl | hx
        · omega
        · exact h2 x hx
      · rcases h3 with h3 | h3
        · exact .inl h3
        · exact .inr (by simp [h3])

/-- council c has promised ballot k (numbered k + 1) -/
def Px.promise (s : Px) (c k : Nat) : Px := { s with p := fun i => if i = c then k + 1 else s.p i }
/-- ballot k is told of council c's vow -/
def Px.tell (s : Px) (c k : Nat) : Px := { s with
  told := fun i => if i = k then s.told k ++ [(s.a c, s.t c)] else s.told i
  asked := fun i j => if i = k ∧ j = c then true else s.asked i j }
/-- ballot k has its state -/
def Px.fix (s : Px) (k x : Nat) : Px := { s with mine := fun i => if i = k then x else s.mine i }
/-- council c takes what ballot k proposes -/
def Px.take (s : Px) (c k : Nat) : Px := { s with
  p := fun i => if i = c then k + 1 else s.p i
  a := fun i => if i = c then k + 1 else s.a i
  t := fun i => if i = c then s.mine k else s.t i
  took := fun i j => if i = k ∧ j = c then true else s.took i j }
/-- it has not taken at ballot j, and never will -/
def Px.shut (s : Px) (j c : Nat) : Bool := decide (j + 1 < s.p c) && !s.took j c
structure Px.Ok (s : Px) (n : Nat) : Prop where
  /-- what a council took some ballot proposed, and it is told to have taken it -/
  at_ : ∀ c, s.a c ≤ s.p c ∧ (s.a c = 0 → s.t c = 0) ∧ ∀ j, s.a c = j + 1 → s.mine j ≠ 0 ∧ s.t c = s.mine j
  kept : ∀ j c, s.took j c = true → j + 1 ≤ s.a c ∧ s.mine j ≠ 0
  ask : ∀ k c, s.asked k c = true → k + 1 ≤ s.p c
  len : ∀ k, (s.told k).length = cnt n (s.asked k)
  /-- what a ballot was told: it names what some elder ballot proposed -/
  said : ∀ k x, x ∈ s.told k → x.1 ≤ k ∧ (x.1 = 0 → x.2 = 0) ∧ ∀ j, x.1 = j + 1 → s.mine j ≠ 0 ∧ x.2 = s.mine j
  /-- who was asked took nothing between what it told and the ballot -/
  gap : ∀ k c, s.asked k c = true → ∃ x ∈ s.told k, ∀ j, x.1 ≤ j → j < k → s.took j c = false
  none_ : ∀ k, n < 2 * cnt n (s.asked k) → s.mine k ≠ 0
  safe : ∀ k j, s.mine k ≠ 0 → j < k → (s.mine j ≠ 0 ∧ s.mine j = s.mine k) ∨ n < 2 * cnt n (s.shut j)
def Px.new : Px := ⟨fun _ => 0, fun _ => 0, fun _ => 0, fun _ => [], fun _ => 0, fun _ _ => false, fun _ _ => false⟩
theorem Px.Ok.new (n : Nat) : Px.new.Ok n := by
  refine ⟨fun c => ⟨Nat.le_refl _, fun _ => rfl, fun j h => (by cases h)⟩, fun j c h => (by cases h), fun k c h => (by cases h), fun k => ?_, fun k x h => (by cases h), fun k c h => (by cases h), fun k h => ?_, fun k j h => absurd rfl h⟩
  · have : cnt n (Px.new.asked k) = 0 := by
      unfold cnt
      exact List.countP_eq_zero.2 fun i _ h => by cases h
    rw [this]; rfl
  · have : cnt n (Px.new.asked k) = 0 := by
      unfold cnt
      exact List.countP_eq_zero.2 fun i _ h => by cases h
    omega
theorem shut_mono {s s' : Px} {n j : Nat} (hp : ∀ c, s.p c ≤ s'.p c) (ht : ∀ c, s'.took j c = true → s.took j c = true ∨ s.p c ≤ j + 1) (h : n < 2 * cnt n (s.shut j)) : n < 2 * cnt n (s'.shut j) := by
  have : cnt n (s.shut j) ≤ cnt n (s'.shut j) := cnt_mono fun c _ hc => by
    unfold Px.shut at hc ⊢
    simp only [Bool.and_eq_true, decide_eq_true_eq, Bool.not_eq_true'] at hc ⊢
    refine ⟨by have := hp c; omega, ?_⟩
    cases e : s'.took j c with
    | false => rfl
    | true =>
      rcases ht c e with h1 | h1
      · rw [hc.2] at h1; cases h1
      · omega
  omega
/-- a promise, given -/
theorem Px.Ok.promise {s : Px} {n c k : Nat} (h : s.Ok n) (hk : s.p c < k + 1) : (s.promise c k).Ok n := by
  have hp : ∀ i, s.p i ≤ (s.promise c k).p i := fun i => by
    unfold Px.promise; simp only; split
    · rename_i e; subst e; omega
    · exact Nat.le_refl _
  refine ⟨fun i => ⟨Nat.le_trans (h.at_ i).1 (hp i), (h.at_ i).2⟩, h.kept, fun i j hij => Nat.le_trans (h.ask i j hij) (hp j), h.len, h.said, h.gap, h.none_, fun i j hi hj => ?_⟩
  rcases h.safe i j hi hj with h1 | h1
  · exact .inl h1
  · exact .inr (shut_mono hp (fun c hc => .inl hc) h1)
/-- the ballot is told of it, and has no majority yet -/
theorem Px.Ok.tell {s : Px} {n c k : Nat} (h : s.Ok n) (hc : c < n) (hp : s.p c = k + 1) (ha : s.a c ≤ k) (hq : s.asked k c = false) (hm : ¬ n < 2 * ((s.told k).length + 1)) : (s.tell c k).Ok n := by
  have hcnt : cnt n ((s.tell c k).asked k) = cnt n (s.asked k) + 1 := by
    rw [← cnt_set hc hq]
    refine cnt_congr fun i _ => ?_
    unfold Px.tell; simp
  have hcnt2 : ∀ i, i ≠ k → cnt n ((s.tell c k).asked i) = cnt n (s.asked i) := fun i hi => cnt_congr fun j _ => by unfold Px.tell; simp [hi]
  have htold : ∀ i x, x ∈ (s.tell c k).told i → x ∈ s.told i ∨ (i = k ∧ x = (s.a c, s.t c)) := fun i x hx => by
    unfold Px.tell at hx; simp only at hx
    split at hx
    · rename_i e; subst e
      rcases List.mem_append.1 hx with hx | hx
      · exact .inl hx
      · exact .inr ⟨rfl, by simpa using hx⟩
    · exact .inl hx
  refine ⟨h.at_, h.kept, fun i j hij => ?_, fun i => ?_, fun i x hx => ?_, fun i j hij => ?_, fun i hi => ?_, h.safe⟩
  · unfold Px.tell at hij; simp only at hij
    split at hij
    · rename_i e; obtain ⟨rfl, rfl⟩ := e
      show _ ≤ s.p j
      omega
    · exact h.ask i j hij
  · by_cases e : i = k
    · subst e
      rw [hcnt, ← h.len]
      unfold Px.tell; simp
    · rw [hcnt2 i e, ← h.len]
      unfold Px.tell; simp [e]
  · rcases htold i x hx with h1 | ⟨rfl, rfl⟩
    · exact h.said i x h1
    · exact ⟨ha, (h.at_ c).2⟩
  · have hsub : ∀ x, x ∈ s.told i → x ∈ (s.tell c k).told i := fun x hx => by
      unfold Px.tell; simp only; split
      · rename_i e; subst e; simp [hx]
      · exact hx
    by_cases e : i = k ∧ j = c
    · obtain ⟨rfl, rfl⟩ := e
      refine ⟨(s.a j, s.t j), by unfold Px.tell; simp, fun l hl hlk => ?_⟩
      cases ht : s.took l j with
      | false => exact ht
      | true => have := (h.kept l j ht).1; simp only at hl; omega
    · have hij' : s.asked i j = true := by unfold Px.tell at hij; simp only [if_neg e] at hij; exact hij
      obtain ⟨x, hx, hg⟩ := h.gap i j hij'
      exact ⟨x, hsub x hx, hg⟩
  · by_cases e : i = k
    · subst e
      rw [hcnt, ← h.len] at hi
      exact absurd hi hm
    · rw [hcnt2 i e] at hi
      exact h.none_ i hi
/-- the ballot is told of it, and has a majority: it proposes what Best says, or its own -/
theorem Px.Ok.fix {s : Px} {n c k : Nat} (h : s.Ok n) (hc : c < n) (hp : s.p c = k + 1) (ha : s.a c ≤ k) (hq : s.asked k c = false) (h0 : s.mine k = 0) (hm : n < 2 * ((s.told k).length + 1)) :
    ((s.tell c k).fix k (if bestT (s.told k ++ [(s.a c, s.t c)]) = 0 then k + 1 else bestT (s.told k ++ [(s.a c, s.t c)]))).Ok n := by
  obtain ⟨x, hx⟩ : ∃ x, x = if bestT (s.told k ++ [(s.a c, s.t c)]) = 0 then k + 1 else bestT (s.told k ++ [(s.a c, s.t c)]) := ⟨_, rfl⟩
  rw [← hx]
  have hx0 : x ≠ 0 := by rw [hx]; split <;> omega
  have hcnt : cnt n ((s.tell c k).asked k) = cnt n (s.asked k) + 1 := by
    rw [← cnt_set hc hq]
    refine cnt_congr fun i _ => ?_
    unfold Px.tell; simp
  have hcnt2 : ∀ i, i ≠ k → cnt n ((s.tell c k).asked i) = cnt n (s.asked i) := fun i hi => cnt_congr fun j _ => by unfold Px.tell; simp [hi]
  have htoldk : (s.tell c k).told k = s.told k ++ [(s.a c, s.t c)] := by unfold Px.tell; simp
  have htold : ∀ i x, x ∈ (s.tell c k).told i → x ∈ s.told i ∨ (i = k ∧ x = (s.a c, s.t c)) := fun i x hx => by
    unfold Px.tell at hx; simp only at hx
    split at hx
    · rename_i e; subst e
      rcases List.mem_append.1 hx with hx | hx
      · exact .inl hx
      · exact .inr ⟨rfl, by simpa using hx⟩
    · exact .inl hx
  have hmine : ∀ j, ((s.tell c k).fix k x).mine j = if j = k then x else s.mine j := fun j => rfl
  have hmk : ∀ j y, s.mine j ≠ 0 ∧ y = s.mine j → ((s.tell c k).fix k x).mine j ≠ 0 ∧ y = ((s.tell c k).fix k x).mine j := fun j y hj => by
    have e : ¬ j = k := fun e => hj.1 (by rw [e]; exact h0)
    rw [hmine, if_neg e]
    exact hj
  have hsaid : ∀ i y, y ∈ (s.tell c k).told i → y.1 ≤ i ∧ (y.1 = 0 → y.2 = 0) ∧ ∀ j, y.1 = j + 1 → s.mine j ≠ 0 ∧ y.2 = s.mine j := fun i y hy => by
    rcases htold i y hy with h1 | ⟨rfl, rfl⟩
    · exact h.said i y h1
    · exact ⟨ha, (h.at_ c).2⟩
  have hasked : ∀ i j, (s.tell c k).asked i j = true → i + 1 ≤ s.p j := fun i j hij => by
    unfold Px.tell at hij; simp only at hij
    split at hij
    · rename_i e; obtain ⟨rfl, rfl⟩ := e; omega
    · exact h.ask i j hij
  have hgap : ∀ i j, (s.tell c k).asked i j = true → ∃ y ∈ (s.tell c k).told i, ∀ l, y.1 ≤ l → l < i → s.took l j = false := fun i j hij => by
    have hsub : ∀ y, y ∈ s.told i → y ∈ (s.tell c k).told i := fun y hy => by
      unfold Px.tell; simp only; split
      · rename_i e; subst e; simp [hy]
      · exact hy
    by_cases e : i = k ∧ j = c
    · obtain ⟨rfl, rfl⟩ := e
      refine ⟨(s.a j, s.t j), by unfold Px.tell; simp, fun l hl hlk => ?_⟩
      cases ht : s.took l j with
      | false => rfl
      | true => have := (h.kept l j ht).1; simp only at hl; omega
    · have hij' : s.asked i j = true := by unfold Px.tell at hij; simp only [if_neg e] at hij; exact hij
      obtain ⟨y, hy, hg⟩ := h.gap i j hij'
      exact ⟨y, hsub y hy, hg⟩
  refine ⟨fun i => ⟨(h.at_ i).1, (h.at_ i).2.1, fun j hj => hmk j _ ((h.at_ i).2.2 j hj)⟩, fun j i hj => ⟨(h.kept j i hj).1, ?_⟩, hasked, fun i => ?_, fun i y hy => ?_, hgap, fun i hi => ?_, fun i j hi hj => ?_⟩
  · rw [hmine]
    split
    · exact hx0
    · exact (h.kept j i hj).2
  · show ((s.tell c k).told i).length = cnt n ((s.tell c k).asked i)
    by_cases e : i = k
    · subst e
      rw [hcnt, ← h.len, htoldk]; simp
    · rw [hcnt2 i e, ← h.len]
      unfold Px.tell; simp [e]
  · obtain ⟨h1, h2, h3⟩ := hsaid i y hy
    exact ⟨h1, h2, fun j hj => hmk j _ (h3 j hj)⟩
  · rw [hmine]
    split
    · exact hx0
    · rename_i e
      refine h.none_ i ?_
      rw [← hcnt2 i e]
      exact hi
  · have hshut : ((s.tell c k).fix k x).shut j = s.shut j := rfl
    rw [hshut, hmine, hmine]
    by_cases e : i = k
    · subst e
      rw [if_pos rfl, if_neg (by omega : ¬ j = i)]
      obtain ⟨h1, h2, h3⟩ := best_spec (s.told i ++ [(s.a c, s.t c)]) (0, 0)
      have hbt : bestT (s.told i ++ [(s.a c, s.t c)]) = (best (s.told i ++ [(s.a c, s.t c)]) (0, 0)).2 := rfl
      rw [hbt] at hx
      generalize best (s.told i ++ [(s.a c, s.t c)]) (0, 0) = z at h1 h2 h3 hx
      have hall : z.1 ≤ j → n < 2 * cnt n (s.shut j) := fun hz => by
        have hle : cnt n ((s.tell c i).asked i) ≤ cnt n (s.shut j) := cnt_mono fun d _ hd => by
          obtain ⟨y, hy, hg⟩ := hgap i d hd
          rw [htoldk] at hy
          have := h2 y hy
          have := hasked i d hd
          unfold Px.shut
          rw [hg j (by omega) hj]
          simp
          omega
        rw [hcnt, ← h.len] at hle
        omega
      by_cases hz : z.1 = 0
      · exact .inr (hall (by omega))
      · obtain ⟨i0, hi0⟩ : ∃ i0, z.1 = i0 + 1 := ⟨z.1 - 1, by omega⟩
        have hzT : z ∈ (s.tell c i).told i := by
          rw [htoldk]
          rcases h3 with h3 | h3
          · rw [h3] at hz; simp at hz
          · exact h3
        obtain ⟨g1, _, g3⟩ := hsaid i z hzT
        obtain ⟨g4, g5⟩ := g3 i0 hi0
        have hxe : x = s.mine i0 := by rw [hx, g5, if_neg g4]
        by_cases hji : j = i0
        · subst hji
          exact .inl ⟨g4, hxe.symm⟩
        · by_cases hlt : i0 < j
          · exact .inr (hall (by omega))
          · rcases h.safe i0 j g4 (by omega) with h5 | h5
            · exact .inl ⟨h5.1, by rw [hxe]; exact h5.2⟩
            · exact .inr h5
    · rw [hmine, if_neg e] at hi
      rw [if_neg e]
      rcases h.safe i j hi hj with h5 | h5
      · have hjk : ¬ j = k := fun e => h5.1 (by rw [e]; exact h0)
        rw [if_neg hjk]
        exact .inl h5
      · exact .inr h5
/-- a state, taken -/
theorem Px.Ok.take {s : Px} {n c k : Nat} (h : s.Ok n) (hp : s.p c ≤ k + 1) (hm : s.mine k ≠ 0) : (s.take c k).Ok n := by
  have hpm : ∀ i, s.p i ≤ (s.take c k).p i := fun i => by
    unfold Px.take; simp only; split
    · rename_i e; subst e; exact hp
    · exact Nat.le_refl _
  have htook : ∀ j d, (s.take c k).took j d = true → s.took j d = true ∨ (j = k ∧ d = c) := fun j d hd => by
    unfold Px.take at hd; simp only at hd
    split at hd
    · rename_i e; exact .inr e
    · exact .inl hd
  have ham : ∀ i, s.a i ≤ (s.take c k).a i := fun i => by
    unfold Px.take; simp only; split
    · rename_i e; subst e; have := (h.at_ i).1; omega
    · exact Nat.le_refl _
  refine ⟨fun i => ?_, fun j d hd => ?_, fun i j hij => Nat.le_trans (h.ask i j hij) (hpm j), h.len, h.said, fun i d hd => ?_, h.none_, fun i j hi hj => ?_⟩
  · by_cases e : i = c
    · subst e
      unfold Px.take
      simp only [if_true]
      refine ⟨Nat.le_refl _, fun h => by omega, fun j hj => ?_⟩
      obtain rfl : k = j := by omega
      exact ⟨hm, rfl⟩
    · unfold Px.take
      simp only [if_neg e]
      exact h.at_ i
  · rcases htook j d hd with h1 | ⟨rfl, rfl⟩
    · exact ⟨Nat.le_trans (h.kept j d h1).1 (ham d), (h.kept j d h1).2⟩
    · refine ⟨?_, hm⟩
      unfold Px.take; simp
  · obtain ⟨y, hy, hg⟩ := h.gap i d hd
    refine ⟨y, hy, fun l hl hli => ?_⟩
    cases ht : (s.take c k).took l d with
    | false => rfl
    | true =>
      rcases htook l d ht with h1 | ⟨rfl, rfl⟩
      · rw [hg l hl hli] at h1; cases h1
      · have := h.ask i d hd; omega
  · rcases h.safe i j hi hj with h1 | h1
    · exact .inl h1
    · refine .inr (shut_mono hpm (fun d hd => ?_) h1)
      rcases htook j d hd with h2 | ⟨rfl, rfl⟩
      · exact .inl h2
      · exact .inr hp
/-- no two states are taken by majorities -/
theorem Px.Ok.one {s : Px} {n i j : Nat} (h : s.Ok n) (hi : n < 2 * cnt n (s.took i)) (hj : n < 2 * cnt n (s.took j)) : s.mine i = s.mine j := by
  have key : ∀ i j, j < i → n < 2 * cnt n (s.took i) → n < 2 * cnt n (s.took j) → s.mine i = s.mine j := fun i j hlt hi hj => by
    obtain ⟨c, _, hc, _⟩ := cnt_meet hi hi
    rcases h.safe i j (h.kept i c hc).2 hlt with h1 | h1
    · exact h1.2.symm
    · obtain ⟨d, _, hd1, hd2⟩ := cnt_meet hj h1
      unfold Px.shut at hd2
      rw [hd1] at hd2
      simp at hd2
  rcases Nat.lt_trichotomy i j with h1 | h1 | h1
  · exact (key j i h1 hj hi).symm
  · rw [h1]
  · exact key i j h1 hi hj

/-! ### the law's steps -/
/-- council c is asked for a promise by ballot k -/
def Px.askS (s : Px) (n c k : Nat) : Px :=
  if s.p c < k + 1 then
    (if s.asked k c = false ∧ s.mine k = 0 then
      (if n < 2 * ((s.told k).length + 1) then ((s.promise c k).tell c k).fix k (if bestT (s.told k ++ [(s.a c, s.t c)]) = 0 then k + 1 else bestT (s.told k ++ [(s.a c, s.t c)]))
        else (s.promise c k).tell c k)
      else s.promise c k)
    else s
/-- council c is given what ballot k proposes -/
def Px.takeS (s : Px) (c k : Nat) : Px := if k + 1 < s.p c then s else s.take c k
theorem Px.Ok.askS {s : Px} {n c k : Nat} (h : s.Ok n) (hc : c < n) : (s.askS n c k).Ok n := by
  unfold Px.askS
  by_cases hp : s.p c < k + 1
  · rw [if_pos hp]
    have h1 := h.promise hp
    have e1 : (s.promise c k).p c = k + 1 := by unfold Px.promise; simp
    have e2 : (s.promise c k).a c ≤ k := by have := (h.at_ c).1; show s.a c ≤ k; omega
    by_cases hq : s.asked k c = false ∧ s.mine k = 0
    · rw [if_pos hq]
      by_cases hm : n < 2 * ((s.told k).length + 1)
      · rw [if_pos hm]
        exact h1.fix hc e1 e2 hq.1 hq.2 hm
      · rw [if_neg hm]
        exact h1.tell hc e1 e2 hq.1 hm
    · rw [if_neg hq]
      exact h1
  · rw [if_neg hp]
    exact h
theorem Px.Ok.takeS {s : Px} {n c k : Nat} (h : s.Ok n) (hm : s.mine k ≠ 0) : (s.takeS c k).Ok n := by
  unfold Px.takeS
  by_cases hp : k + 1 < s.p c
  · rw [if_pos hp]; exact h
  · rw [if_neg hp]; exact h.take (by omega) hm
/-- what was chosen, a majority took -/
def Px.Chose (s : Px) (n x : Nat) : Prop := x = 0 ∨ ∃ j, n < 2 * cnt n (s.took j) ∧ s.mine j = x
theorem Px.Chose.askS {s : Px} {n x c k : Nat} (h : s.Chose n x) (hok : s.Ok n) : (s.askS n c k).Chose n x := by
  rcases h with h | ⟨j, h1, h2⟩
  · exact .inl h
  · refine .inr ⟨j, ?_, ?_⟩
    · have e : (s.askS n c k).took = s.took := by unfold Px.askS Px.promise Px.tell Px.fix; repeat (split <;> try rfl)
      rw [e]; exact h1
    · obtain ⟨d, _, hd, _⟩ := cnt_meet h1 h1
      have hm := (hok.kept j d hd).2
      rw [← h2]
      have key : ∀ y, s.mine k = 0 → (((s.promise c k).tell c k).fix k y).mine j = s.mine j := fun y h0 => by
        have e : ¬ j = k := fun e => hm (by rw [e]; exact h0)
        unfold Px.fix
        simp only
        rw [if_neg e]
        rfl
      unfold Px.askS
      by_cases hp : s.p c < k + 1
      · rw [if_pos hp]
        by_cases hq : s.asked k c = false ∧ s.mine k = 0
        · rw [if_pos hq]
          by_cases hM : n < 2 * ((s.told k).length + 1)
          · rw [if_pos hM]; exact key _ hq.2
          · rw [if_neg hM]; rfl
        · rw [if_neg hq]; rfl
      · rw [if_neg hp]
theorem Px.Chose.takeS {s : Px} {n x c k : Nat} (h : s.Chose n x) : (s.takeS c k).Chose n x := by
  rcases h with h | ⟨j, h1, h2⟩
  · exact .inl h
  · refine .inr ⟨j, ?_, ?_⟩
    · have : cnt n (s.took j) ≤ cnt n ((s.takeS c k).took j) := cnt_mono fun d _ hd => by
        unfold Px.takeS
        split
        · exact hd
        · unfold Px.take; simp only; split
          · rfl
          · exact hd
      omega
    · unfold Px.takeS
      split
      · exact h2
      · exact h2
/-- who has a majority proposes what was chosen -/
theorem Px.Chose.same {s : Px} {n x k : Nat} (h : s.Chose n x) (hok : s.Ok n) (hk : n < 2 * cnt n (s.took k)) : x = 0 ∨ x = s.mine k := by
  rcases h with h | ⟨j, h1, h2⟩
  · exact .inl h
  · right; rw [← h2]; exact hok.one h1 hk
theorem Px.Chose.now {s : Px} {n k : Nat} (hk : n < 2 * cnt n (s.took k)) : s.Chose n (s.mine k) := .inr ⟨k, hk, rfl⟩
end Go.Proofs.Ythoheikbpihflaa
namespace Go.Proofs.Ythoheikbpihflaa

/-- the ballot of number i (0: none) -/
def balOf (i : Nat) : Bal := if i = 0 then (0, 0) else ((i : Int), (((i - 1) % 2 : Nat) : Int))
/-- the state of number t (0: none) -/
def staOf (t : Nat) : Sta := ⟨t, t, 0, []⟩
def vowOf (p a t : Nat) : Vw := ⟨balOf p, balOf a, staOf t⟩
theorem balOf_fst (i : Nat) : (balOf i).1 = (i : Int) := by
  unfold balOf
  split
  · rename_i e; subst e; rfl
  · rfl
theorem balOf_snd (i : Nat) : 0 ≤ (balOf i).2 ∧ (balOf i).2 ≤ 1 := by
  unfold balOf
  split
  · exact ⟨Int.le_refl _, by decide⟩
  · show (0 : Int) ≤ (((i - 1) % 2 : Nat) : Int) ∧ (((i - 1) % 2 : Nat) : Int) ≤ 1
    omega
theorem balOf_succ (k : Nat) : balOf (k + 1) = (((k + 1 : Nat) : Int), ((k % 2 : Nat) : Int)) := by
  unfold balOf
  rw [if_neg (by omega), Nat.add_sub_cancel]
theorem lessB_of (i j : Nat) : lessB (balOf i) (balOf j) = decide (i < j) := by
  by_cases e : i = j
  · subst e
    rw [lessB_self]
    simp
  · unfold lessB
    rw [balOf_fst, balOf_fst, if_pos (by omega)]
    exact decide_eq_decide.2 (by omega)
theorem staOf_zero : staOf 0 = zeroS := rfl
theorem vowOf_zero : vowOf 0 0 0 = zeroV := rfl
theorem staOf_inj {a b : Nat} (h : staOf a = staOf b) : a = b := by
  have : (a : Int) = (b : Int) := congrArg Sta.gen h
  omega
theorem staOf_gen (t : Nat) : (staOf t).gen = (t : Int) := rfl
theorem promV_of (p a t k : Nat) : promV (vowOf p a t) (balOf k) = if p < k then vowOf k a t else vowOf p a t := by
  unfold promV
  rw [show (vowOf p a t).prom = balOf p from rfl, lessB_of]
  by_cases h : p < k
  · rw [if_pos (by simpa using h), if_pos h]; rfl
  · rw [if_neg (by simpa using h), if_neg h]
theorem takeV_of (p a t k x : Nat) : takeV (vowOf p a t) (balOf k) (staOf x) = if k < p then vowOf p a t else vowOf k k x := by
  unfold takeV
  rw [show (vowOf p a t).prom = balOf p from rfl, lessB_of]
  by_cases h : k < p
  · rw [if_pos (by simpa using h), if_pos h]
  · rw [if_neg (by simpa using h), if_neg h]; rfl
/-- what a ballot was told, as vows: each of its promise -/
def toldOf (p : Nat) (l : List (Nat × Nat)) : List Vw := l.map fun x => vowOf p x.1 x.2
theorem toldOf_append (p : Nat) (l : List (Nat × Nat)) (x : Nat × Nat) : toldOf p (l ++ [x]) = toldOf p l ++ [vowOf p x.1 x.2] := by
  unfold toldOf
  rw [List.map_append]
  rfl
theorem toldOf_length (p : Nat) (l : List (Nat × Nat)) : (toldOf p l).length = l.length := List.length_map ..
theorem bestV_of (p : Nat) : ∀ (l : List (Nat × Nat)) (b : Nat × Nat) (v : Vw), v.at' = balOf b.1 → v.took = staOf b.2 → (bestV v (toldOf p l)).took = staOf (best l b).2
  | [], _, _, _, h => h
  | x :: l, b, v, h1, h2 => by
    show (bestV (if lessB v.at' (balOf x.1) then vowOf p x.1 x.2 else v) (toldOf p l)).took = staOf (best l (if b.1 < x.1 then x else b)).2
    rw [h1, lessB_of]
    by_cases h : b.1 < x.1
    · rw [if_pos (by simpa using h), if_pos h]
      exact bestV_of p l x _ rfl rfl
    · rw [if_neg (by simpa using h), if_neg h]
      exact bestV_of p l b _ h1 h2
theorem best_told (p : Nat) (l : List (Nat × Nat)) : (bestV zeroV (toldOf p l)).took = staOf (bestT l) := bestV_of p l (0, 0) zeroV rfl rfl
end Go.Proofs.Ythoheikbpihflaa
namespace Go.Proofs.Ythoheikbpihflaa
open Go.RowKit
attribute [local go_sem] less_eq same_eq le_eq ge_eq gt_eq

set_option maxHeartbeats 1000000 in
set_option maxRecDepth 100000 in
theorem least_any (l : List Int) (v : Value) (w : World) (B : Nat) (hv : RdI w B v l) (hl : l.length < 4611686018427387904) :
    Calls Try.prog 31 #[v] w fun e w' => e = .returned (.bool (decide (∀ n ∈ l, 0 ≤ n))) ∧ w' = w := by
  obtain ⟨A, c, rfl, hc, hi⟩ := hv.at
  obtain ⟨D, hD⟩ : ∃ D, D = decide (∀ n ∈ l, 0 ≤ n) := ⟨_, rfl⟩
  rw [← hD]
  have HD := Lib.hid hD; clear hD
  have HI := Lib.hid hi; clear hi
  clear hv
  go_enter Try.func31, Try.ntmps31
  go_wp2_with fail
  go_loop [3] (fun iv => ∃ i : Nat, i ≤ l.length ∧ iv = .int .i64 i ∧ Hid (∀ n ∈ l.take i, 0 ≤ n)) (fun iv => l.length - (intOf iv).toNat)
  case atStart => exact ⟨0, Nat.zero_le _, rfl, Lib.hid (by simp)⟩
  case round =>
    obtain ⟨i, hil, rfl, HALL⟩ := hrel
    by_cases hlt : i < l.length
    · obtain ⟨b, o, rfl, hbB, h1⟩ := HI.out i hlt
      have hyes : 0 ≤ l[i] → ∀ n ∈ l.take (i + 1), 0 ≤ n := fun h n hn => by
        rw [List.take_add_one, List.getElem?_eq_getElem hlt, List.mem_append] at hn
        rcases hn with hn | hn
        · exact HALL.out n hn
        · simp only [Option.toList_some, List.mem_singleton] at hn; rw [hn]; exact h
      have hno : ¬ (0 ≤ l[i]) → D = false := fun h => by rw [HD.out]; exact decide_eq_false fun hall => h (hall _ (List.getElem_mem hlt))
      generalize l[i] = z at h1 hyes hno
      have HY := Lib.hid hyes; clear hyes
      have HN := Lib.hid hno; clear hno
      by_cases hz : z < 0
      · go_wp2_with fail
        go_ret
        exact ⟨by rw [HN.out (by omega)]; rfl, rfl⟩
      · go_wp2_with fail
        go_round
        case rel => exact ⟨i + 1, by omega, by go_num, Lib.hid (HY.out (by omega))⟩
        case measure => simp [intOf]; omega
    · have hd : D = true := by
        rw [HD.out]
        have := HALL.out
        rw [List.take_of_length_le (by omega)] at this
        exact decide_eq_true this
      have HD2 := Lib.hid hd; clear hd
      go_wp2_with fail
      go_ret
      exact ⟨by rw [HD2.out]; rfl, rfl⟩

end Go.Proofs.Ythoheikbpihflaa
namespace Go.Proofs.Ythoheikbpihflaa
open Go.RowKit
attribute [local go_sem] less_eq same_eq le_eq ge_eq gt_eq

theorem repS_stuck {α : Type} {one : Rest → α × Rest} (hone : ∀ S, (one S).2 ≠ none → S ≠ none) {i N : Nat} (h : i ≤ N) {S : Rest} (hs : repS one i S = none) : repS one N S = none := by
  refine Classical.byContradiction fun hn => ?_
  have := repS_add one hone i (N - i) (S := S) (by rw [show i + (N - i) = N by omega]; exact hn)
  exact this hs

end Go.Proofs.Ythoheikbpihflaa
namespace Go.Proofs.Ythoheikbpihflaa
open Go.RowKit


set_option maxHeartbeats 1000000 in
set_option maxRecDepth 100000 in
theorem ints_any (a b : List Int) (va vb : Value) (w : World) (hva : RdI w w.heap.size va a) (hvb : RdI w w.heap.size vb b) (hla : a.length < 4611686018427387904) (_hlb : b.length < 4611686018427387904) :
    Calls Try.prog 32 #[va, vb] w fun e w' => e = .returned (.bool (decide (a = b))) ∧ Below w.heap.size w w' := by
  obtain ⟨A1, c1, rfl, hc1, hia⟩ := hva.at
  obtain ⟨A2, c2, rfl, hc2, hib⟩ := hvb.at
  obtain ⟨D, hD⟩ : ∃ D, D = decide (a = b) := ⟨_, rfl⟩
  rw [← hD]
  have HD := Lib.hid hD; clear hD
  clear hva hvb
  by_cases hlen : a.length = b.length
  · have HA := Lib.hid hia; clear hia
    have HB := Lib.hid hib; clear hib
    have HL := Lib.hid hlen
    rw [← hlen]
    rw [← hlen] at hc2
    clear hlen
    obtain ⟨g, hg⟩ : ∃ g, g = w.heap.size := ⟨_, rfl⟩
    have HG := Lib.hid hg; clear hg
    go_enter Try.func32, Try.ntmps32
    go_wp2_with fail
    go_loopw [5] (fun iv wr => ∃ j : Nat, j ≤ a.length ∧ iv = .int .i64 j ∧ Below g w wr ∧ ∀ k (h1 : k < a.length) (h2 : k < b.length), k < j → a[k] = b[k]) (fun iv _ => a.length - (intOf iv).toNat)
    case atStart => exact ⟨0, Nat.zero_le _, rfl, Below.refl _ _, fun k _ _ h => by omega⟩
    case round =>
      obtain ⟨j, hj, rfl, hbw, hall⟩ := hrel
      have HBW := Lib.hid hbw; clear hbw
      have HALL := Lib.hid hall; clear hall
      by_cases hlt : j < a.length
      · have hlt2 : j < b.length := by rw [← HL.out]; exact hlt
        obtain ⟨b1, o1, rfl, hb1, hx⟩ := HA.out j hlt
        obtain ⟨b2, o2, rfl, hb2, hy⟩ := HB.out j hlt2
        have hbd : Below w.heap.size w wr.drew := by have h := HBW.out.drew; rwa [HG.out] at h
        have hx2 : ∀ W, Below wr.drew.heap.size wr.drew W → W.cell? ⟨b1, o1 + j, none⟩ = some (.int .i64 a[j]) := fun W hW => ((hbd.trans (hW.mono hbd.size)).cell (p := ⟨b1, _, none⟩) hb1).trans hx
        have hy2 : ∀ W, Below wr.drew.heap.size wr.drew W → W.cell? ⟨b2, o2 + j, none⟩ = some (.int .i64 b[j]) := fun W hW => ((hbd.trans (hW.mono hbd.size)).cell (p := ⟨b2, _, none⟩) hb2).trans hy
        have hne : a[j] ≠ b[j] → D = false := fun h => by rw [HD.out]; exact decide_eq_false fun e => h (by subst e; rfl)
        have heq : a[j] = b[j] → ∀ k (h1 : k < a.length) (h2 : k < b.length), k < j + 1 → a[k] = b[k] := fun h k h1 h2 hk => by
          rcases Nat.lt_or_ge k j with h' | h'
          · exact HALL.out k h1 h2 h'
          · obtain rfl : k = j := by omega
            exact h
        generalize a[j] = x at hx2 hx hne heq
        generalize b[j] = y at hy2 hy hne heq
        have HX := Lib.hid hx2
        have HY := Lib.hid hy2
        have HNE := Lib.hid hne
        have HEQ := Lib.hid heq
        have hj0 : (0 : Int) ≤ (j : Int) := by omega
        have hj1 : (j : Int) < (a.length : Int) := by omega
        have HBD := Lib.hid hbd
        clear hx hy hx2 hy2 hne heq hbd hlt2
        by_cases hxy : x = y
        all_goals
          go_wp2_with fail
          refine wp_region_planB [(true, 0), (true, 1), (true, 2), (true, 3), (true, 4), (true, 5), (true, 6), (true, 7), (true, 8)] (by kernel_rfl) (by kernel_rfl) (fun _ _ d _ _ h => by cases d <;> exact h) ?_
          repeat (refine PlanB.take (v := ?_) rfl rfl ?_ ?_; rotate_left; (focus (intro W hW; have k1 := HX.out W hW; have k2 := HY.out W hW; go_simp; (try with_reducible rfl); done)); (try simp only [Act.put, List.setIfInBounds_toArray, List.set_cons_zero, List.set_cons_succ]))
          simp only [PlanB]
          go_wp2_with fail
        · go_roundw
          case rel => exact ⟨j + 1, by omega, by go_num, HBW.out.drew, HEQ.out hxy⟩
          case measure => simp [intOf]; omega
        · go_ret
          exact ⟨by rw [HNE.out hxy]; rfl, HBD.out⟩
      · go_wp2_with fail
        go_ret
        refine ⟨?_, by have h := HBW.out; rwa [HG.out] at h⟩
        have : D = true := by
          rw [HD.out]
          refine decide_eq_true (List.ext_getElem HL.out fun k h1 h2 => HALL.out k h1 h2 (by omega))
        rw [this]; rfl
  · have hd : D = false := by rw [HD.out]; exact decide_eq_false fun e => hlen (by rw [e])
    have HD2 := Lib.hid hd
    have hli : ¬ ((a.length : Int) = (b.length : Int)) := by omega
    clear hd hia hib
    go_enter Try.func32, Try.ntmps32
    go_wp2_with fail
    go_ret
    exact ⟨by rw [HD2.out]; rfl, Below.refl _ _⟩
end Go.Proofs.Ythoheikbpihflaa
namespace Go.Proofs.Ythoheikbpihflaa
open Go.RowKit
attribute [local go_sem] less_eq same_eq le_eq ge_eq gt_eq

set_option maxHeartbeats 2000000 in
set_option maxRecDepth 100000 in
theorem rsoundS_any (x : Sta) (hl : x.chests.length < 4611686018427387904) (v : Value) (w : World) (hv : RdI w w.heap.size v x.chests) :
    Calls Try.prog 17 #[sval x v] w fun e w' => e = .returned (.bool (decide (soundS x))) ∧ Below w.heap.size w w' := by
  obtain ⟨a, b, c, l⟩ := x
  obtain ⟨R, hR⟩ : ∃ R, R = decide (soundS ⟨a, b, c, l⟩) := ⟨_, rfl⟩
  rw [← hR]
  unfold soundS at hR
  unfold sval
  simp only at hR hl hv ⊢
  have hF := fun W B h => least_any [a, b, c] (.slice (some ⟨w.heap.size + 1, 0, none⟩) 3 3) W B h (by simp)
  have hi1 := RdI.lit (w.alloc (.cells #[.int .i64 a, .int .i64 b, .int .i64 c, v] 35)) [a, b, c]
  simp only [World.size_alloc, List.map_cons, List.map_nil, List.length_cons, List.length_nil] at hi1
  obtain ⟨A1, c1, rfl, _, hi⟩ := hv.at
  have hb2 : Below w.heap.size w ((w.alloc (.cells #[.int .i64 a, .int .i64 b, .int .i64 c, .slice A1 l.length c1] 35)).alloc (.cells #[.int .i64 a, .int .i64 b, .int .i64 c] 3)) := ((Below.refl _ _).alloc (Nat.le_refl _) _).alloc (by simp) _
  have hA := least_any l (.slice A1 l.length c1) _ _ (hv.next hb2) hl
  obtain ⟨D1, hD1⟩ : ∃ D1, D1 = decide (∀ n ∈ [a, b, c], 0 ≤ n) := ⟨_, rfl⟩
  obtain ⟨D2, hD2⟩ : ∃ D2, D2 = decide (∀ n ∈ l, 0 ≤ n) := ⟨_, rfl⟩
  rw [← hD1] at hF
  rw [← hD2] at hA
  have e1 : (∀ n ∈ [a, b, c], 0 ≤ n) ↔ 0 ≤ a ∧ 0 ≤ b ∧ 0 ≤ c := by simp
  have hno : ¬ (D1 = true ∧ D2 = true ∧ l.length ≤ 16 ∧ ∀ n ∈ l, n ≤ 255) → R = false := fun h => by
    rw [hR]
    exact decide_eq_false fun hs => h ⟨by rw [hD1]; exact decide_eq_true (e1.2 hs.1), by rw [hD2]; exact decide_eq_true fun n hn => (hs.2.2 n hn).1, hs.2.1, fun n hn => (hs.2.2 n hn).2⟩
  have hyes : D1 = true ∧ D2 = true ∧ l.length ≤ 16 ∧ (∀ n ∈ l, n ≤ 255) → R = true := fun h => by
    rw [hR]
    have h2 : ∀ n ∈ l, 0 ≤ n := of_decide_eq_true (hD2 ▸ h.2.1)
    exact decide_eq_true ⟨e1.1 (of_decide_eq_true (hD1 ▸ h.1)), h.2.2.1, fun n hn => ⟨h2 n hn, h.2.2.2 n hn⟩⟩
  have HNO := Lib.hid hno; clear hno
  have HYES := Lib.hid hyes; clear hyes
  have HF := Lib.hid (hF _ _ hi1); clear hF hi1
  have HA := Lib.hid hA; clear hA
  have HB2 := Lib.hid hb2; clear hb2
  have HI := Lib.hid hi; clear hi
  clear hR hD1 hD2 e1 hv
  go_enter Try.func17, Try.ntmps17
  go_wp2_with fail
  refine HF.out.mono ?_
  rintro e w1 ⟨rfl, rfl⟩
  cases D1 with
  | false =>
    have hr := HNO.out (by simp)
    have HR2 := Lib.hid hr; clear hr
    go_wp2_with fail
    go_ret
    exact ⟨by rw [HR2.out]; rfl, HB2.out⟩
  | true =>
    go_wp2_with fail
    refine HA.out.mono ?_
    rintro e w3 ⟨rfl, rfl⟩
    cases D2 with
    | false =>
      have hr := HNO.out (by simp)
      have HR2 := Lib.hid hr; clear hr
      go_wp2_with fail
      go_ret
      exact ⟨by rw [HR2.out]; rfl, HB2.out⟩
    | true =>
      by_cases h16 : (16 : Int) < (l.length : Int)
      · have hr := HNO.out (fun h => by have := h.2.2.1; omega)
        have HR2 := Lib.hid hr; clear hr
        go_wp2_with fail
        go_ret
        exact ⟨by rw [HR2.out]; rfl, HB2.out⟩
      · go_wp2_with fail
        go_loopw [3] (fun iv wr => ∃ i : Nat, i ≤ l.length ∧ iv = .int .i64 i ∧ Below (w.heap.size + 1) (w.alloc (.cells #[.int .i64 a, .int .i64 b, .int .i64 c, .slice A1 l.length c1] 35)) wr ∧ Below w.heap.size w wr ∧ Hid (∀ n ∈ l.take i, n ≤ 255)) (fun iv _ => l.length - (intOf iv).toNat)
        case atStart => exact ⟨0, Nat.zero_le _, rfl, (Below.refl _ _).alloc (by simp) _, HB2.out, Lib.hid (by simp)⟩
        case round =>
          obtain ⟨i, hil, rfl, hbr, hbw, HALL⟩ := hrel
          have p1 := box_cell hbr 3 _ rfl
          have HBR := Lib.hid hbr; clear hbr
          have HBW := Lib.hid hbw; clear hbw
          by_cases hlt : i < l.length
          · obtain ⟨b', o, rfl, hbB, k0⟩ := HI.out i hlt
            rw [← HBW.out.cell (p := ⟨b', _, none⟩) hbB] at k0
            have hyes : l[i] ≤ 255 → ∀ n ∈ l.take (i + 1), n ≤ 255 := fun h n hn => by
              rw [List.take_add_one, List.getElem?_eq_getElem hlt, List.mem_append] at hn
              rcases hn with hn | hn
              · exact HALL.out n hn
              · simp only [Option.toList_some, List.mem_singleton] at hn; rw [hn]; exact h
            have hno : ¬ l[i] ≤ 255 → R = false := fun h => HNO.out fun hall => h (hall.2.2.2 _ (List.getElem_mem hlt))
            generalize l[i] = z at k0 hyes hno
            have HY := Lib.hid hyes; clear hyes
            have HN := Lib.hid hno; clear hno
            by_cases hz : 255 < z
            · have hf := HN.out (by omega)
              have HF2 := Lib.hid hf; clear hf
              go_wp2_with fail
              go_ret
              exact ⟨by rw [HF2.out]; rfl, HBW.out⟩
            · have hok := HY.out (by omega)
              have HOK := Lib.hid hok; clear hok
              go_wp2_with fail
              go_roundw
              case rel => exact ⟨i + 1, by omega, by go_num, HBR.out, HBW.out, Lib.hid HOK.out⟩
              case measure => simp [intOf]; omega
          · have hd : R = true := HYES.out ⟨by simp, by simp, by omega, by
              have := HALL.out
              rwa [List.take_of_length_le (by omega)] at this⟩
            have HD2 := Lib.hid hd; clear hd
            go_wp2_with fail
            go_ret
            exact ⟨by rw [HD2.out]; rfl, HBW.out⟩

set_option maxHeartbeats 2000000 in
set_option maxRecDepth 100000 in
theorem sameS_eq (x : Sta) (hl : x.chests.length < 4611686018427387904) (v1 v2 : Value) (w : World) (hv1 : RdI w w.heap.size v1 x.chests) (hv2 : RdI w w.heap.size v2 x.chests) :
    Calls Try.prog 18 #[sval x v1, sval x v2] w fun e w' => e = .returned (.bool true) ∧ Below w.heap.size w w' := by
  obtain ⟨A1, c1, rfl, _, _⟩ := hv1.at
  obtain ⟨A2, c2, rfl, _, _⟩ := hv2.at
  obtain ⟨a, b, c, l⟩ := x
  unfold sval
  simp only at hv1 hv2 hl ⊢
  have hb : Below w.heap.size w ((w.alloc (.cells #[.int .i64 a, .int .i64 b, .int .i64 c, .slice A1 l.length c1] 35)).alloc (.cells #[.int .i64 a, .int .i64 b, .int .i64 c, .slice A2 l.length c2] 35)) := ((Below.refl _ _).alloc (Nat.le_refl _) _).alloc (by simp) _
  have hs := ints_any l l _ _ _ (hv1.next hb) (hv2.next hb) hl hl
  rw [decide_eq_true rfl] at hs
  have HS := Lib.hid hs; clear hs
  have HB := Lib.hid hb; clear hb hv1 hv2
  go_enter Try.func18, Try.ntmps18
  go_wp2_with fail
  refine HS.out.mono ?_
  rintro e w3 ⟨rfl, hb3⟩
  have HB3 := Lib.hid (show Below w.heap.size w w3 from HB.out.trans (hb3.mono (by simp; omega))); clear hb3
  go_wp2_with fail
  go_ret
  exact ⟨rfl, HB3.out⟩

end Go.Proofs.Ythoheikbpihflaa
namespace Go.Proofs.Ythoheikbpihflaa
open Go.RowKit

def blv (b : Bal) : Value := .agg #[.int .i64 b.1, .int .i64 b.2]
/-- a vow as a value: the cells of its parts stand one behind the other -/
def vwv (x : Vw) (v : Value) : Value := .agg #[.int .i64 x.prom.1, .int .i64 x.prom.2, .int .i64 x.at'.1, .int .i64 x.at'.2, .int .i64 x.took.gen, .int .i64 x.took.epoch, .int .i64 x.took.recd, v]
/-- a vow's cells -/
def vcells (x : Vw) (v : Value) : List Value := [.int .i64 x.prom.1, .int .i64 x.prom.2, .int .i64 x.at'.1, .int .i64 x.at'.2, .int .i64 x.took.gen, .int .i64 x.took.epoch, .int .i64 x.took.recd, v]

set_option maxHeartbeats 2000000 in
set_option maxRecDepth 100000 in
theorem rless_any (a b : Bal) (w : World) :
    Calls Try.prog 16 #[blv a, blv b] w fun e w' => e = .returned (.bool (lessB a b)) ∧ Below w.heap.size w w' := by
  obtain ⟨a1, a2⟩ := a
  obtain ⟨b1, b2⟩ := b
  have hb : Below w.heap.size w ((w.alloc (.cells #[.int .i64 a1, .int .i64 a2] 32)).alloc (.cells #[.int .i64 b1, .int .i64 b2] 32)) := ((Below.refl _ _).alloc (Nat.le_refl _) _).alloc (by simp) _
  obtain ⟨R, hR⟩ : ∃ R, R = lessB (a1, a2) (b1, b2) := ⟨_, rfl⟩
  rw [← hR]
  have HB := Lib.hid hb; clear hb
  unfold blv
  by_cases h : a1 = b1
  · have hr : R = decide (a2 < b2) := by rw [hR]; unfold lessB; simp [h]
    have HR := Lib.hid hr; clear hR hr
    subst h
    go_enter Try.func16, Try.ntmps16
    go_wp2_with fail
    go_ret
    exact ⟨by rw [HR.out]; rfl, HB.out⟩
  · have hr : R = decide (a1 < b1) := by rw [hR]; unfold lessB; simp [h]
    have HR := Lib.hid hr; clear hR hr
    go_enter Try.func16, Try.ntmps16
    go_wp2_with fail
    go_ret
    exact ⟨by rw [HR.out]; rfl, HB.out⟩

end Go.Proofs.Ythoheikbpihflaa
namespace Go.Proofs.Ythoheikbpihflaa
open Go.RowKit

theorem RdG.shift {α : Type} {enc : α → List Value} {k B : Nat} {w w' : World} {G G' : Nat → Prop} {v : Value} {l : List α} (h : RdG enc k w B G v l) (hB : B ≤ w.heap.size) (hm : Mv G w w') (hG : ∀ i, G' i → G i ∨ w.heap.size ≤ i) : RdG enc k w' B G' v l :=
  (h.mv hm hB (fun _ _ h => h)).mono (Nat.le_refl _) (fun b hb hg => by rcases hG b hg with h | h; exact h; omega)
/-- a cell of one block is written -/
theorem Mv.one {w w' : World} {g : Nat} (h : Mv (fun i => i = g) w w') (j : Nat) (u : Value) : Mv (fun i => i = g) w (w'.setCell ⟨g, j, none⟩ u) := h.setCell (p := ⟨g, j, none⟩) (fun _ => rfl) u
/-- a vow that was answered: its chests lie in new memory, none of it the council's -/
def NewV (w w' : World) (G : Nat → Prop) (v : Value) (x : Vw) : Prop := RdG encI 1 w' w'.heap.size (fun i => i < w.heap.size ∨ G i) v x.took.chests
theorem NewV.rd {w w' : World} {G : Nat → Prop} {v : Value} {x : Vw} (h : NewV w w' G v x) : RdI w' w'.heap.size v x.took.chests := RdG.rd h
theorem NewV.off {w w' : World} {G : Nat → Prop} {v : Value} {x : Vw} (h : NewV w w' G v x) : RdG encI 1 w' w'.heap.size G v x.took.chests := RdG.mono h (Nat.le_refl _) (fun _ _ h => .inr h)
namespace Co
variable {c : Co} {what : Int} {b : Bal} {s : Sta}
theorem step_prep (h : what < 2) : c.step what b s = c.step 0 b zeroS := by
  have e : nextV c.v what b s = nextV c.v 0 b zeroS := by
    unfold nextV
    rw [if_pos h, if_pos (show (0 : Int) < 2 by decide)]
  unfold step
  rw [e]
theorem step_acc (h : ¬ what < 2) : c.step what b s = c.step 2 b s := by
  have e : nextV c.v what b s = nextV c.v 2 b s := by
    unfold nextV
    rw [if_neg h, if_neg (show ¬ (2 : Int) < 2 by decide)]
  unfold step
  rw [e]
end Co
theorem nextV_prep {v : Vw} {what : Int} {b : Bal} {s : Sta} (h : what < 2) : nextV v what b s = nextV v 0 b zeroS := by
  unfold nextV
  rw [if_pos h, if_pos (show (0 : Int) < 2 by decide)]
theorem nextV_acc {v : Vw} {what : Int} {b : Bal} {s : Sta} (h : ¬ what < 2) : nextV v what b s = nextV v 2 b s := by
  unfold nextV
  rw [if_neg h, if_neg (show ¬ (2 : Int) < 2 by decide)]
theorem sound_len {v : Vw} (h : soundV v) : v.took.chests.length ≤ 16 := h.2.1.2.1
end Go.Proofs.Ythoheikbpihflaa
namespace Go.Proofs.Ythoheikbpihflaa
open Go.RowKit

/-- one row of bytes: its value and what it holds -/
structure Row where
  a : Option Addr
  c : Nat
  l : List UInt8
def Row.v (r : Row) : Value := .slice r.a r.l.length r.c
def encR (r : Row) : List Value := [r.v]
theorem encR_one (r : Row) : ∀ u ∈ encR r, u.oneCell' = true := by
  intro u hu
  simp only [encR, List.mem_cons, List.not_mem_nil, or_false] at hu
  subst hu
  rfl
theorem encR_len (r : Row) : (encR r).length = 1 := rfl
set_option maxRecDepth 100000 in
theorem info_row : (Try.prog.info? 56).map (fun i => (i.zero, i.size, i.bytes)) = some (some (.slice none 0 0), 1, 24) := by kernel_rfl
abbrev OwnR (w : World) (base : Nat) (v : Value) (l : List Row) : Prop := Own encR 1 56 w base v l

/-- bytes below block B, in no block of G -/
def RdBG (w : World) (B : Nat) (G : Nat → Prop) (v : Value) (l : List UInt8) : Prop :=
  ∃ A c, v = .slice A l.length c ∧ l.length ≤ c ∧ ∀ i (_ : i < l.length), ∃ b o, A = some ⟨b, o, none⟩ ∧ b < B ∧ ¬ G b ∧ w.cell? ⟨b, o + i, none⟩ = some (.int .u8 (l[i].toNat : Int))
section
variable {w w' : World} {B B' : Nat} {G G' : Nat → Prop} {v : Value} {l : List UInt8}
theorem RdBG.rdB (h : RdBG w B G v l) : RdB w B v l := by
  obtain ⟨A, c, rfl, hc, hi⟩ := h
  refine ⟨A, c, rfl, hc, fun i hs => ?_⟩
  obtain ⟨b, o, hA, hb, _, h1⟩ := hi i hs
  refine ⟨b, o, hA, hb, fun j u hu => ?_⟩
  match j, hu with
  | 0, hu =>
    simp only [byteEnc, List.getElem?_cons_zero, Option.some.injEq] at hu
    subst hu
    simpa using h1
  | j + 1, hu => simp [byteEnc] at hu
theorem RdBG.of (h : RdB w B v l) (hG : ∀ b, b < B → ¬ G b) : RdBG w B G v l := by
  obtain ⟨A, c, rfl, hc, hi⟩ := h.at
  exact ⟨A, c, rfl, hc, fun i hs => by obtain ⟨b, o, hA, hb, h1⟩ := hi i hs; exact ⟨b, o, hA, hb, hG b hb, h1⟩⟩
theorem RdBG.mv {D : Nat → Prop} (h : RdBG w B G v l) (hm : Mv D w w') (hB : B ≤ w.heap.size) (hD : ∀ b, b < B → D b → G b) : RdBG w' B G v l := by
  obtain ⟨A, c, rfl, hc, hi⟩ := h
  refine ⟨A, c, rfl, hc, fun i hs => ?_⟩
  obtain ⟨b, o, hA, hb, hg, h1⟩ := hi i hs
  exact ⟨b, o, hA, hb, hg, by rw [World.cell?_of_block (w := w) (hm.block b (by omega) (fun h => hg (hD b hb h)))]; exact h1⟩
theorem RdBG.mono (h : RdBG w B G v l) (hB : B ≤ B') (hG : ∀ b, b < B → G' b → G b) : RdBG w B' G' v l := by
  obtain ⟨A, c, rfl, hc, hi⟩ := h
  refine ⟨A, c, rfl, hc, fun i hs => ?_⟩
  obtain ⟨b, o, hA, hb, hg, h1⟩ := hi i hs
  exact ⟨b, o, hA, by omega, fun h => hg (hG b hb h), h1⟩
end
/-- rows, each of their blocks below block B and none of G -/
def RdRs (w : World) (B : Nat) (G : Nat → Prop) (v : Value) (rows : List Row) : Prop :=
  (∃ A c, v = .slice A rows.length c ∧ rows.length ≤ c ∧ ∀ i (_ : i < rows.length), ∃ b o, A = some ⟨b, o, none⟩ ∧ b < B ∧ ¬ G b ∧ w.cell? ⟨b, o + i, none⟩ = some rows[i].v) ∧ ∀ r ∈ rows, RdBG w B G r.v r.l
def texts (rows : List Row) : List (List UInt8) := rows.map (·.l)
section
variable {w w' : World} {B B' : Nat} {G G' : Nat → Prop} {v : Value} {rows : List Row}
theorem RdRs.mv {D : Nat → Prop} (h : RdRs w B G v rows) (hm : Mv D w w') (hB : B ≤ w.heap.size) (hD : ∀ b, b < B → D b → G b) : RdRs w' B G v rows := by
  obtain ⟨⟨A, c, rfl, hc, hi⟩, hr⟩ := h
  refine ⟨⟨A, c, rfl, hc, fun i hs => ?_⟩, fun r hx => (hr r hx).mv hm hB hD⟩
  obtain ⟨b, o, hA, hb, hg, h1⟩ := hi i hs
  exact ⟨b, o, hA, hb, hg, by rw [World.cell?_of_block (w := w) (hm.block b (by omega) (fun h => hg (hD b hb h)))]; exact h1⟩
theorem RdRs.mono (h : RdRs w B G v rows) (hB : B ≤ B') (hG : ∀ b, b < B → G' b → G b) : RdRs w B' G' v rows := by
  obtain ⟨⟨A, c, rfl, hc, hi⟩, hr⟩ := h
  refine ⟨⟨A, c, rfl, hc, fun i hs => ?_⟩, fun r hx => (hr r hx).mono hB hG⟩
  obtain ⟨b, o, hA, hb, hg, h1⟩ := hi i hs
  exact ⟨b, o, hA, by omega, fun h => hg (hG b hb h), h1⟩
theorem RdRs.rd (h : RdRs w B G v rows) : Rd encR 1 w B v rows := by
  obtain ⟨⟨A, c, rfl, hc, hi⟩, _⟩ := h
  refine ⟨A, c, rfl, hc, fun i hs => ?_⟩
  obtain ⟨b, o, hA, hb, _, h1⟩ := hi i hs
  refine ⟨b, o, hA, hb, fun j u hu => ?_⟩
  match j, hu with
  | 0, hu =>
    simp only [encR, List.getElem?_cons_zero, Option.some.injEq] at hu
    subst hu
    simpa using h1
  | j + 1, hu => simp [encR] at hu
theorem RdRs.row (h : RdRs w B G v rows) (i : Nat) (hi : i < rows.length) : RdBG w B G rows[i].v rows[i].l := h.2 _ (List.getElem_mem hi)
/-- the first n of them -/
theorem RdRs.take {A : Option Addr} {m c : Nat} (h : RdRs w B G (.slice A m c) rows) (n : Nat) (hn : n ≤ rows.length) : RdRs w B G (.slice A n c) (rows.take n) := by
  obtain ⟨⟨A', c', hv, hc, hi⟩, hr⟩ := h
  injection hv with h1 h2 h3
  subst h1 h3
  refine ⟨⟨A, c, by simp [Nat.min_eq_left hn], by simp; omega, fun i hs => ?_⟩, fun r hx => hr r (List.mem_of_mem_take hx)⟩
  have hs' : i < rows.length := by simp at hs; omega
  obtain ⟨b, o, hA, hb, hg, h1⟩ := hi i hs'
  exact ⟨b, o, hA, hb, hg, by simpa using h1⟩
theorem RdRs.nil (w : World) (B : Nat) (G : Nat → Prop) (A : Option Addr) (c : Nat) : RdRs w B G (.slice A 0 c) [] := ⟨⟨A, c, rfl, Nat.zero_le _, fun i hi => by simp at hi⟩, fun r hr => by simp at hr⟩
/-- what is owned, of rows that are read -/
theorem OwnR.rs {base : Nat} (h : OwnR w base v rows) (hG : ∀ b, base ≤ b → ¬ G b) (hr : ∀ r ∈ rows, RdBG w w.heap.size G r.v r.l) : RdRs w w.heap.size G v rows := by
  refine ⟨?_, hr⟩
  obtain ⟨A, c, hv, hc, hi⟩ := Own.rd encR_len h
  refine ⟨A, c, hv, hc, fun i hs => ?_⟩
  obtain ⟨b, o, hA, hb, h1⟩ := hi i hs
  have hge : base ≤ b := by
    rcases h.form with ⟨e, e0⟩ | ⟨g, cap, e, hg, _, _⟩
    · rw [e0] at hs; simp at hs
    · rw [hv, hA] at e
      injection e with e _ _
      injection e with e
      injection e with e _ _
      omega
  exact ⟨b, o, hA, hb, hG b hge, by have := h1 0 _ rfl; simpa using this⟩
end
/-- a call that moves the blocks of G leaves rows that lie elsewhere -/
theorem RdRs.shift {w w' : World} {B : Nat} {G G' : Nat → Prop} {v : Value} {rows : List Row} (h : RdRs w B G v rows) (hB : B ≤ w.heap.size) (hm : Mv G w w') (hG : ∀ i, G' i → G i ∨ w.heap.size ≤ i) : RdRs w' w'.heap.size G' v rows :=
  (h.mv hm hB (fun _ _ h => h)).mono (Nat.le_trans hB hm.size) (fun b hb hg => by rcases hG b hg with h1 | h1; exact h1; omega)
section
variable {ops : Array Oper} {rest : List Oper} {o : Oper} {a : Act} {Q : Exit → Act → World → Prop} {w : World}
set_option maxRecDepth 100000 in
/-- the same in a region that draws -/
theorem wp_addR {K : Act → World → Prop} (s x : Operand)
    (ho : o.op = .call { callee := .builtin .append, args := #[s, x], argTypes := #[64, 64] })
    (base : Nat) (v : Value) (l : List Row) (hs : a.eval s = v) (hown : OwnR w base v l) (B : Nat) (v2 : Value) (p : List Row) (hx : a.eval x = v2) (hp : Rd encR 1 w B v2 p)
    (hlen : l.length + p.length ≤ 9000000000000) (hbase : base ≤ w.heap.size)
    (h : ∀ A' c' w', OwnR w' base (.slice A' (l ++ p).length c') (l ++ p) → w.grownBy w' v.ownBlock → K (a.put o.dst (.slice A' (l ++ p).length c')) w') : o.wp Try.prog a w K Q := by
  obtain ⟨i0, hi, hz0, hz1, hz2⟩ := info_parts info_row
  exact wp_addAny (enc := encR) (k := 1) 64 56 24 i0 _ Try.underlying64 hi hz0 hz1 hz2 rfl (by decide) encR_len encR_one s x ho base v l hs hown B v2 p hx hp (by unfold maxLen; omega) (by omega) hbase fun A' c' w' h1 h2 => h A' c' w' h1 h2
set_option maxRecDepth 100000 in
/-- rows appended to a slice of rows of the call's own -/
theorem wpList_addR (hgd : Region.wanted o (yielded ops a.tmps) = true) (s x : Operand)
    (ho : o.op = .call { callee := .builtin .append, args := #[s, x], argTypes := #[64, 64] })
    (base : Nat) (v : Value) (l : List Row) (hs : a.eval s = v) (hown : OwnR w base v l) (B : Nat) (v2 : Value) (p : List Row) (hx : a.eval x = v2) (hp : Rd encR 1 w B v2 p)
    (hlen : l.length + p.length ≤ 9000000000000) (hbase : base ≤ w.heap.size)
    (h : ∀ A' c' w', Hid (OwnR w' base (.slice A' (l ++ p).length c') (l ++ p)) → Hid (w.grownBy w' v.ownBlock) → wpList Try.prog ops Q rest (a.put o.dst (.slice A' (l ++ p).length c')) w') : wpList Try.prog ops Q (o :: rest) a w := by
  obtain ⟨i0, hi, hz0, hz1, hz2⟩ := info_parts info_row
  refine BigFrame.wpList_want hgd fun K hK => ?_
  refine wp_addAny (enc := encR) (k := 1) 64 56 24 i0 _ Try.underlying64 hi hz0 hz1 hz2 rfl (by decide) encR_len encR_one s x ho base v l hs hown B v2 p hx hp (by unfold maxLen; omega) (by omega) hbase fun A' c' w' h1 h2 => ?_
  exact hK _ _ (h A' c' w' (Lib.hid h1) (Lib.hid h2))
end
end Go.Proofs.Ythoheikbpihflaa

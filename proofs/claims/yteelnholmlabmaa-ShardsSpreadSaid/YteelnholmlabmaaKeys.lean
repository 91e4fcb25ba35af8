/- Spans of keys over any linear order: what joining, cutting out and building from ends give, in plain lists. -/
namespace Go.Proofs.Yteelnholmlabmaa
/-- keys stand in the order of their bytes -/
instance : LT ByteArray := ⟨fun a b => a.data.toList < b.data.toList⟩
instance : LE ByteArray := ⟨fun a b => a.data.toList ≤ b.data.toList⟩
instance : DecidableLT ByteArray := fun a b => inferInstanceAs (Decidable (a.data.toList < b.data.toList))
instance : DecidableLE ByteArray := fun a b => inferInstanceAs (Decidable (a.data.toList ≤ b.data.toList))
theorem key_ext {a b : ByteArray} (h : a.data.toList = b.data.toList) : a = b := by
  cases a; cases b; simp at h; simp [h]
instance : Std.LawfulOrderLT ByteArray := ⟨fun a b => Std.LawfulOrderLT.lt_iff a.data.toList b.data.toList⟩
instance : Std.IsLinearOrder ByteArray where
  le_refl a := Std.IsPreorder.le_refl a.data.toList
  le_trans a b c h k := Std.IsPreorder.le_trans a.data.toList b.data.toList c.data.toList h k
  le_antisymm a b h k := key_ext (Std.IsPartialOrder.le_antisymm a.data.toList b.data.toList h k)
  le_total a b := Std.IsLinearPreorder.le_total a.data.toList b.data.toList
abbrev K := ByteArray

/-- a span has a key -/
def has (s : K × K) (k : K) : Prop := s.1 ≤ k ∧ k < s.2
/-- one of the spans has a key -/
def mem (l : List (K × K)) (k : K) : Prop := ∃ s ∈ l, has s k
/-- none empty, rising, none touches the next -/
def Normal : List (K × K) → Prop
  | [] => True
  | s :: r => s.1 < s.2 ∧ (∀ t ∈ r, s.2 < t.1) ∧ Normal r

theorem mem_nil (k : K) : ¬ mem [] k := by simp [mem]
theorem mem_cons (s : K × K) (r : List (K × K)) (k : K) : mem (s :: r) k ↔ has s k ∨ mem r k := by simp [mem]
theorem mem_append (a b : List (K × K)) (k : K) : mem (a ++ b) k ↔ mem a k ∨ mem b k := by simp [mem, or_and_right, exists_or]
theorem mem_perm {a b : List (K × K)} (h : a.Perm b) (k : K) : mem a k ↔ mem b k := by simp [mem, h.mem_iff]

theorem Normal.ne {l : List (K × K)} (h : Normal l) : ∀ t ∈ l, t.1 < t.2 := by
  induction l with
  | nil => simp
  | cons s r ih => intro t ht; rcases List.mem_cons.1 ht with rfl | ht
                   · exact h.1
                   · exact ih h.2.2 t ht
theorem mem_above {s : K × K} {r : List (K × K)} (h : Normal (s :: r)) {k : K} (hk : mem r k) : s.2 < k := by
  obtain ⟨t, ht, h1, _⟩ := hk
  have := h.2.1 t ht
  grind

/-- lists of this form are told apart by their keys -/
theorem normal_ext : ∀ (a b : List (K × K)), Normal a → Normal b → (∀ k, mem a k ↔ mem b k) → a = b
  | [], [], _, _, _ => rfl
  | [], s :: r, _, hb, h => absurd ((h s.1).2 ((mem_cons _ _ _).2 (.inl ⟨Std.IsPreorder.le_refl _, hb.1⟩))) (mem_nil _)
  | s :: r, [], ha, _, h => absurd ((h s.1).1 ((mem_cons _ _ _).2 (.inl ⟨Std.IsPreorder.le_refl _, ha.1⟩))) (mem_nil _)
  | s :: r, t :: q, ha, hb, h => by
    have h1 : s.1 = t.1 := by
      have a1 := (h s.1).1 ((mem_cons _ _ _).2 (.inl ⟨Std.IsPreorder.le_refl _, ha.1⟩))
      have b1 := (h t.1).2 ((mem_cons _ _ _).2 (.inl ⟨Std.IsPreorder.le_refl _, hb.1⟩))
      have a0 := ha.1
      have b0 := hb.1
      rcases (mem_cons _ _ _).1 a1 with a1 | a1 <;> rcases (mem_cons _ _ _).1 b1 with b1 | b1
      · unfold has at a1 b1; grind
      · have := mem_above ha b1; unfold has at a1; grind
      · have := mem_above hb a1; unfold has at b1; grind
      · have := mem_above hb a1; have := mem_above ha b1; grind
    have h2 : s.2 = t.2 := by
      have a0 := ha.1
      have b0 := hb.1
      have na : ¬ mem (s :: r) s.2 := by
        rintro hm
        rcases (mem_cons _ _ _).1 hm with hm | hm
        · unfold has at hm; grind
        · have := mem_above ha hm; grind
      have nb : ¬ mem (t :: q) t.2 := by
        rintro hm
        rcases (mem_cons _ _ _).1 hm with hm | hm
        · unfold has at hm; grind
        · have := mem_above hb hm; grind
      have nb' : ¬ has t s.2 := fun hm => na ((h _).2 ((mem_cons _ _ _).2 (.inl hm)))
      have na' : ¬ has s t.2 := fun hm => nb ((h _).1 ((mem_cons _ _ _).2 (.inl hm)))
      unfold has at na' nb'
      grind
    have hst : s = t := Prod.ext h1 h2
    subst hst
    refine congrArg (s :: ·) (normal_ext r q ha.2.2 hb.2.2 fun k => ?_)
    have hk := h k
    rw [mem_cons, mem_cons] at hk
    constructor
    · intro hm
      have := mem_above ha hm
      rcases hk.1 (.inr hm) with h0 | h0
      · unfold has at h0; grind
      · exact h0
    · intro hm
      have := mem_above hb hm
      rcases hk.2 (.inr hm) with h0 | h0
      · unfold has at h0; grind
      · exact h0

theorem normal_append {a b : List (K × K)} : Normal (a ++ b) ↔ Normal a ∧ Normal b ∧ ∀ s ∈ a, ∀ t ∈ b, s.2 < t.1 := by
  induction a with
  | nil => simp [Normal]
  | cons s r ih =>
    simp only [List.cons_append, Normal, ih, List.mem_append, List.mem_cons]
    constructor
    · rintro ⟨h1, h2, h3, h4, h5⟩
      exact ⟨⟨h1, fun t ht => h2 t (.inl ht), h3⟩, h4, fun u hu t ht => by (rcases hu with rfl | hu); (exact h2 t (.inr ht)); exact h5 u hu t ht⟩
    · rintro ⟨⟨h1, h2, h3⟩, h4, h5⟩
      exact ⟨h1, fun t ht => by ((rcases ht with ht | ht); (exact h2 t ht); exact h5 s (.inl rfl) t ht), h3, h4, fun u hu => h5 u (.inr hu)⟩

/-! ### joining -/
def mx (a b : K) : K := if a < b then b else a
def mn (a b : K) : K := if b < a then b else a
theorem mx_cases (a b : K) : (a < b ∧ mx a b = b) ∨ (¬ a < b ∧ mx a b = a) := by unfold mx; split <;> simp_all
theorem mn_cases (a b : K) : (b < a ∧ mn a b = b) ∨ (¬ b < a ∧ mn a b = a) := by unfold mn; split <;> simp_all

/-- one more span, which begins no earlier than those that are there -/
def jadd (out : List (K × K)) (s : K × K) : List (K × K) :=
  match out.getLast? with
  | none => out ++ [s]
  | some l => if s.1 ≤ l.2 then out.dropLast ++ [(l.1, mx l.2 s.2)] else out ++ [s]
def join (l : List (K × K)) : List (K × K) := l.foldl jadd []

theorem jadd_nil (s : K × K) : jadd [] s = [s] := rfl
theorem jadd_snoc (p : List (K × K)) (l s : K × K) : jadd (p ++ [l]) s = if s.1 ≤ l.2 then p ++ [(l.1, mx l.2 s.2)] else p ++ [l] ++ [s] := by
  simp [jadd]

theorem jadd_ok (out : List (K × K)) (s : K × K) (hn : Normal out) (hs : s.1 < s.2) (hl : ∀ t ∈ out, t.1 ≤ s.1) :
    Normal (jadd out s) ∧ (∀ k, mem (jadd out s) k ↔ mem out k ∨ has s k) ∧ ∀ t ∈ jadd out s, t.1 ≤ s.1 := by
  rcases List.eq_nil_or_concat out with rfl | ⟨p, l, rfl⟩
  · rw [jadd_nil]
    exact ⟨⟨hs, by simp, trivial⟩, fun k => by simp [mem], by simp⟩
  · rw [List.concat_eq_append] at *
    rw [jadd_snoc]
    obtain ⟨n1, n2, n3⟩ := normal_append.1 hn
    have hl0 : l.1 ≤ s.1 := hl l (by simp)
    have n4 : l.1 < l.2 := n2.1
    by_cases h : s.1 ≤ l.2
    · rw [if_pos h]
      have hm := mx_cases l.2 s.2
      refine ⟨normal_append.2 ⟨n1, ⟨by grind, by simp, trivial⟩, fun u hu t ht => ?_⟩, fun k => ?_, fun t ht => ?_⟩
      · simp only [List.mem_singleton] at ht; subst ht; exact n3 u hu l (by simp)
      · simp only [mem_append, mem_cons, mem_nil, or_false, has]; grind
      · simp only [List.mem_append, List.mem_singleton] at ht
        rcases ht with ht | rfl
        · exact hl t (by simp [ht])
        · exact hl0
    · rw [if_neg h]
      refine ⟨normal_append.2 ⟨hn, ⟨hs, by simp, trivial⟩, fun u hu t ht => ?_⟩, fun k => ?_, fun t ht => ?_⟩
      · simp only [List.mem_singleton] at ht; subst ht
        rcases List.mem_append.1 hu with hu | hu
        · have := n3 u hu l (by simp); grind
        · simp only [List.mem_singleton] at hu; subst hu; grind
      · simp only [mem_append, mem_cons, mem_nil, or_false]
      · simp only [List.mem_append, List.mem_singleton] at ht
        rcases ht with ht | rfl
        · exact hl t (by simpa using ht)
        · exact Std.IsPreorder.le_refl _

theorem foldl_ok : ∀ (l out : List (K × K)), Normal out → (∀ s ∈ l, s.1 < s.2) → l.Pairwise (fun a b => a.1 ≤ b.1) → (∀ t ∈ out, ∀ s ∈ l, t.1 ≤ s.1) →
    Normal (l.foldl jadd out) ∧ ∀ k, mem (l.foldl jadd out) k ↔ mem out k ∨ mem l k
  | [], out, hn, _, _, _ => ⟨hn, fun k => by simp [mem]⟩
  | s :: r, out, hn, hs, hp, hl => by
    obtain ⟨a1, a2, a3⟩ := jadd_ok out s hn (hs s (by simp)) fun t ht => hl t ht s (by simp)
    rw [List.pairwise_cons] at hp
    obtain ⟨b1, b2⟩ := foldl_ok r (jadd out s) a1 (fun t ht => hs t (by simp [ht])) hp.2 fun t ht u hu => by
      have := a3 t ht; have := hp.1 u hu; grind
    exact ⟨b1, fun k => by rw [List.foldl_cons, b2, a2, mem_cons, or_assoc]⟩

theorem join_ok (l : List (K × K)) (hs : ∀ s ∈ l, s.1 < s.2) (hp : l.Pairwise fun a b => a.1 ≤ b.1) : Normal (join l) ∧ ∀ k, mem (join l) k ↔ mem l k := by
  obtain ⟨h1, h2⟩ := foldl_ok l [] trivial hs hp (by simp)
  exact ⟨h1, fun k => by simpa [join, mem_nil] using h2 k⟩

/-! ### what is left -/
def piece (a b : K) : List (K × K) := if a < b then [(a, b)] else []
/-- the pieces of from..to outside spans of this form -/
def left : List (K × K) → K → K → List (K × K)
  | [], f, t => piece f t
  | g :: r, f, t => piece f (mn g.1 t) ++ left r (mx f g.2) t

theorem mem_piece (a b k : K) : mem (piece a b) k ↔ a ≤ k ∧ k < b := by
  unfold piece; split <;> simp [mem, has]; grind
theorem normal_piece (a b : K) : Normal (piece a b) := by
  unfold piece; split <;> simp_all [Normal]
theorem left_from : ∀ (l : List (K × K)) (f t : K), ∀ u ∈ left l f t, f ≤ u.1
  | [], f, t, u, hu => by unfold left piece at hu; split at hu <;> simp at hu; subst hu; exact Std.IsPreorder.le_refl _
  | g :: r, f, t, u, hu => by
    rw [left, List.mem_append] at hu
    rcases hu with hu | hu
    · unfold piece at hu; split at hu <;> simp at hu; subst hu; exact Std.IsPreorder.le_refl _
    · have := left_from r _ t u hu; have := mx_cases f g.2; grind
theorem left_ok : ∀ (l : List (K × K)) (f t : K), Normal l → Normal (left l f t) ∧ ∀ k, mem (left l f t) k ↔ (f ≤ k ∧ k < t) ∧ ¬ mem l k
  | [], f, t, _ => ⟨normal_piece f t, fun k => by rw [left, mem_piece]; simp [mem]⟩
  | g :: r, f, t, hn => by
    obtain ⟨a1, a2⟩ := left_ok r (mx f g.2) t hn.2.2
    have c1 := mx_cases f g.2
    have c2 := mn_cases g.1 t
    have c3 := hn.1
    refine ⟨normal_append.2 ⟨normal_piece _ _, a1, fun u hu v hv => ?_⟩, fun k => ?_⟩
    · have := left_from r _ t v hv
      unfold piece at hu; split at hu <;> simp at hu; subst hu; simp only []; grind
    · rw [left, mem_append, mem_piece, a2, mem_cons]
      have c4 : mem r k → g.2 < k := fun h => mem_above hn h
      unfold has
      by_cases hm : mem r k
      · have := c4 hm; simp only [hm]; grind
      · simp only [hm]; grind
end Go.Proofs.Yteelnholmlabmaa

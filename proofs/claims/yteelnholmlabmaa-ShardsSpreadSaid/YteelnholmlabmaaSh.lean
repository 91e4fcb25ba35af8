/- Keys dealt out by bounds: pure. Sound bounds, the piece of a key, the span of a piece; a key of at most 16 bytes lies in one piece alone. -/
import Derived.Test.YteelnholmlabmaaKeys
namespace Go.Proofs.Yteelnholmlabmaa

/-- above all keys of at most 16 bytes -/
def topK : K := ⟨(List.replicate 17 (255 : UInt8)).toArray⟩
theorem below_ff : ∀ (l : List UInt8) (n : Nat), l.length < n → l < List.replicate n (255 : UInt8)
  | [], 0, h => by simp at h
  | [], n + 1, _ => by rw [List.replicate_succ]; exact List.nil_lt_cons _ _
  | a :: l, 0, h => by simp at h
  | a :: l, n + 1, h => by
    rw [List.replicate_succ, List.cons_lt_cons_iff]
    have h1 := below_ff l n (by simpa using h)
    rcases Nat.lt_or_ge a.toNat 255 with h2 | h2
    · exact .inl (UInt8.lt_iff_toNat_lt.2 h2)
    · have h3 := a.toNat_lt
      exact .inr ⟨UInt8.toNat_inj.1 (by show a.toNat = 255; omega), h1⟩
theorem lt_topK {k : K} (h : k.size ≤ 16) : k < topK := by
  show k.data.toList < topK.data.toList
  have e : k.data.toList.length = k.size := by simp
  have := below_ff k.data.toList 17 (by omega)
  simpa [topK] using this
theorem nilK_le (k : K) : (⟨#[]⟩ : K) ≤ k := by
  show ([] : List UInt8) ≤ k.data.toList
  exact List.nil_le _

/-- sound bounds -/
def okB (b : List K) : Prop := b.length ≤ 7 ∧ (∀ x ∈ b, 1 ≤ x.size ∧ x.size ≤ 16) ∧ ∀ i (h : i + 1 < b.length), b[i] < b[i + 1]
instance (b : List K) : Decidable (∀ i (h : i + 1 < b.length), b[i] < b[i + 1]) := decidable_of_iff (∀ i (h : i < b.length - 1), b[i]'(by omega) < b[i + 1]'(by omega)) ⟨fun h i hi => h i (by omega), fun h i hi => h i (by omega)⟩
instance (b : List K) : Decidable (okB b) := by unfold okB; exact inferInstance
theorem okB.rise {b : List K} (h : okB b) : ∀ j i (hi : i < j) (hj : j < b.length), b[i] < b[j]
  | 0, i, hi, _ => by omega
  | j + 1, i, hi, hj => by
    have h1 := h.2.2 j hj
    rcases Nat.lt_or_ge i j with h2 | h2
    · have h3 := h.rise j i h2 (by omega)
      grind
    · have e : i = j := by omega
      subst e
      exact h1
/-- how many leading bounds are not behind a key -/
def whichB : List K → K → Nat
  | [], _ => 0
  | x :: r, k => if x ≤ k then whichB r k + 1 else 0
theorem whichB_le : ∀ (b : List K) (k : K), whichB b k ≤ b.length
  | [], _ => Nat.le_refl _
  | x :: r, k => by
    unfold whichB
    have := whichB_le r k
    split <;> simp <;> omega
theorem whichB_low : ∀ (b : List K) (k : K) i (_ : i < whichB b k) (hb : i < b.length), b[i] ≤ k
  | [], _, _, h, _ => by simp [whichB] at h
  | x :: r, k, i, h, hb => by
    unfold whichB at h
    split at h
    · rename_i hx
      cases i with
      | zero => exact hx
      | succ i => exact whichB_low r k i (by omega) (by simpa using hb)
    · omega
theorem whichB_high : ∀ (b : List K) (k : K) (h : whichB b k < b.length), ¬ b[whichB b k] ≤ k
  | [], _, h => by simp at h
  | x :: r, k, h => by
    by_cases hx : x ≤ k
    · have e : whichB (x :: r) k = whichB r k + 1 := by simp [whichB, hx]
      have := whichB_high r k (by rw [e] at h; simpa using h)
      simp only [e, List.getElem_cons_succ]
      exact this
    · have e : whichB (x :: r) k = 0 := by simp [whichB, hx]
      simp only [e, List.getElem_cons_zero]
      exact hx
/-- the span of a piece -/
def pieceB (b : List K) (n : Nat) : K × K := (if n = 0 then ⟨#[]⟩ else (b[n - 1]?).getD ⟨#[]⟩, (b[n]?).getD topK)
theorem pieceB_has {b : List K} (hb : okB b) {k : K} (hk : k.size ≤ 16) {n : Nat} (hn : n ≤ b.length) : has (pieceB b n) k ↔ n = whichB b k := by
  have hw := whichB_le b k
  unfold has pieceB
  simp only
  constructor
  · rintro ⟨h1, h2⟩
    rcases Nat.lt_trichotomy n (whichB b k) with h | h | h
    · have hl := whichB_low b k n h (by omega)
      rw [List.getElem?_eq_getElem (by omega), Option.getD_some] at h2
      grind
    · exact h
    · have hu := whichB_high b k (by omega)
      rw [if_neg (by omega), List.getElem?_eq_getElem (by omega), Option.getD_some] at h1
      rcases Nat.lt_or_ge (whichB b k) (n - 1) with h3 | h3
      · have := hb.rise (n - 1) (whichB b k) h3 (by omega)
        grind
      · have e : n - 1 = whichB b k := by omega
        simp only [e] at h1
        exact absurd h1 hu
  · rintro rfl
    refine ⟨?_, ?_⟩
    · by_cases h0 : whichB b k = 0
      · rw [if_pos h0]; exact nilK_le k
      · rw [if_neg h0, List.getElem?_eq_getElem (by omega), Option.getD_some]
        exact whichB_low b k _ (by omega) _
    · by_cases h1 : whichB b k < b.length
      · rw [List.getElem?_eq_getElem h1, Option.getD_some]
        have := whichB_high b k h1
        grind
      · rw [List.getElem?_eq_none (by omega), Option.getD_none]
        exact lt_topK hk
/-- a piece's ends are keys, and it is not empty -/
theorem pieceB_ok {b : List K} (hb : okB b) {n : Nat} (hn : n ≤ b.length) : (pieceB b n).1.size ≤ 16 ∧ (pieceB b n).2.size ≤ 17 ∧ (pieceB b n).1 < (pieceB b n).2 := by
  have h1 : (pieceB b n).1.size ≤ 16 := by
    unfold pieceB
    simp only
    split
    · decide
    · rw [List.getElem?_eq_getElem (by omega), Option.getD_some]
      exact (hb.2.1 _ (List.getElem_mem _)).2
  refine ⟨h1, ?_, ?_⟩
  · unfold pieceB
    simp only
    by_cases h : n < b.length
    · rw [List.getElem?_eq_getElem h, Option.getD_some]
      have := (hb.2.1 _ (List.getElem_mem h)).2
      omega
    · rw [List.getElem?_eq_none (by omega), Option.getD_none]
      decide
  · by_cases h : n < b.length
    · unfold pieceB
      simp only
      rw [List.getElem?_eq_getElem h, Option.getD_some]
      split
      · have h2 := (hb.2.1 _ (List.getElem_mem h)).1
        show ([] : List UInt8) < b[n].data.toList
        have e : b[n].data.toList.length = b[n].size := by simp
        cases hd : b[n].data.toList with
        | nil => rw [hd] at e; simp at e; omega
        | cons x r => exact List.nil_lt_cons _ _
      · rw [List.getElem?_eq_getElem (by omega), Option.getD_some]
        exact hb.rise n (n - 1) (by omega) h
    · have e : (pieceB b n).2 = topK := by
        unfold pieceB
        simp only
        rw [List.getElem?_eq_none (by omega), Option.getD_none]
      rw [e]
      exact lt_topK h1
end Go.Proofs.Yteelnholmlabmaa

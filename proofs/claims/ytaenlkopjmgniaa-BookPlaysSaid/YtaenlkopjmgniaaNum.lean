/- Numbers as bytes of seven bits each, as plain lists: laid, read back, read from any bytes. -/
namespace Go.Proofs.Ytaenlkopjmgniaa

theorem u8_ofNat {x : Nat} (h : x < 256) : (UInt8.ofNat x).toNat = x := by simp; omega

/-- a number's bytes -/
def enc (n : Nat) : List UInt8 := if n > 127 then UInt8.ofNat (128 + n % 128) :: enc (n / 128) else [UInt8.ofNat n]
decreasing_by omega
theorem enc_big {n : Nat} (h : n > 127) : enc n = UInt8.ofNat (128 + n % 128) :: enc (n / 128) := by rw [enc, if_pos h]
theorem enc_small {n : Nat} (h : n ≤ 127) : enc n = [UInt8.ofNat n] := by rw [enc, if_neg (by omega)]
theorem enc_ne (n : Nat) : enc n ≠ [] := by
  rw [enc]; split <;> simp
theorem enc_pos (n : Nat) : 1 ≤ (enc n).length := by
  have := enc_ne n
  cases h : enc n with
  | nil => exact absurd h this
  | cons => simp
/-- how many bytes a number has -/
theorem enc_len : ∀ (k n : Nat), n < 128 ^ (k + 1) → (enc n).length ≤ k + 1
  | 0, n, h => by rw [enc_small (by omega)]; simp
  | k + 1, n, h => by
    by_cases hn : n > 127
    · rw [enc_big hn, List.length_cons]
      have := enc_len k (n / 128) (by rw [Nat.pow_succ] at h; omega)
      omega
    · rw [enc_small (by omega)]; simp
theorem enc_len9 {n : Nat} (h : n < 9223372036854775808) : (enc n).length ≤ 9 := enc_len 8 n (by omega)
theorem enc_mono : ∀ (n m : Nat), n ≤ m → (enc n).length ≤ (enc m).length := by
  intro n
  induction n using Nat.strongRecOn with
  | ind n ih =>
    intro m hm
    by_cases hn : n > 127
    · rw [enc_big hn, enc_big (n := m) (by omega), List.length_cons, List.length_cons]
      have := ih (n / 128) (by omega) (m / 128) (by omega)
      omega
    · rw [enc_small (by omega)]
      exact enc_pos m

/-- what the reading of a number answers, behind i bytes of it: the number, how many bytes, the error -/
def numGo : Nat → Nat → Nat → List UInt8 → Nat × Nat × Nat
  | i, _, _, [] => if i ≥ 9 then (0, 0, 2) else (0, 0, 3)
  | i, n, t, c :: r => if i ≥ 9 then (0, 0, 2) else
    if c.toNat < 128 then (if c.toNat = 0 ∧ i > 0 then (0, 0, 2) else (n + c.toNat % 128 * t, i + 1, 0)) else numGo (i + 1) (n + c.toNat % 128 * t) (t * 128) r
def numAns (l : List UInt8) : Nat × Nat × Nat := numGo 0 0 1 l

/-- a number that was laid comes back, whatever stands behind -/
theorem numGo_enc (s : List UInt8) : ∀ (n i a t : Nat), i + (enc n).length ≤ 9 → (i > 0 → n > 0) → numGo i a t (enc n ++ s) = (a + n * t, i + (enc n).length, 0) := by
  intro n
  induction n using Nat.strongRecOn with
  | ind n ih =>
    intro i a t hi h0
    by_cases hn : n > 127
    · rw [enc_big hn, List.length_cons] at hi
      rw [enc_big hn, List.cons_append, numGo, if_neg (by omega), u8_ofNat (by omega), if_neg (by omega), ih (n / 128) (by omega) (i + 1) _ _ (by omega) (by omega), List.length_cons]
      rw [show (128 + n % 128) % 128 = n % 128 by omega]
      have e : n * t = n % 128 * t + n / 128 * (t * 128) := by
        conv => lhs; rw [← Nat.mod_add_div n 128]
        rw [Nat.add_mul]
        congr 1
        rw [Nat.mul_comm 128, Nat.mul_assoc, Nat.mul_comm 128 t]
      rw [e]
      simp only [Prod.mk.injEq, and_true]
      omega
    · rw [enc_small (by omega)] at hi ⊢
      simp only [List.length_singleton] at hi ⊢
      rw [List.singleton_append, numGo, if_neg (by omega), u8_ofNat (by omega), if_pos (by omega), if_neg (by omega), show n % 128 = n by omega]
theorem numAns_enc {n : Nat} (h : n < 9223372036854775808) (s : List UInt8) : numAns (enc n ++ s) = (n, (enc n).length, 0) := by
  have := numGo_enc s n 0 0 1 (by have := enc_len9 h; omega) (by omega)
  simpa [numAns] using this
/-- cut off, it is told to be -/
theorem numGo_cut : ∀ (n i a t k : Nat), i + (enc n).length ≤ 9 → k < (enc n).length → numGo i a t ((enc n).take k) = (0, 0, 3) := by
  intro n
  induction n using Nat.strongRecOn with
  | ind n ih =>
    intro i a t k hi hk
    match k with
    | 0 => rw [List.take_zero, numGo, if_neg (by have := enc_pos n; omega)]
    | k + 1 =>
      by_cases hn : n > 127
      · rw [enc_big hn, List.length_cons] at hi hk
        rw [enc_big hn, List.take_succ_cons, numGo, if_neg (by omega), u8_ofNat (by omega), if_neg (by omega)]
        exact ih (n / 128) (by omega) _ _ _ _ (by omega) (by omega)
      · rw [enc_small (by omega)] at hk
        simp at hk
theorem numAns_cut {n k : Nat} (h : n < 9223372036854775808) (hk : k < (enc n).length) : numAns ((enc n).take k) = (0, 0, 3) :=
  numGo_cut n 0 0 1 k (by have := enc_len9 h; omega) hk

/-- bytes that are read as a number are that number's bytes -/
theorem numGo_once : ∀ (l : List UInt8) (i a t m u : Nat), numGo i a t l = (m, u, 0) → ∃ n, m = a + n * t ∧ u = i + (enc n).length ∧ u ≤ 9 ∧ (i > 0 → n > 0) ∧ ∃ s, l = enc n ++ s
  | [], i, a, t, m, u, h => by
    rw [numGo] at h
    split at h <;> simp at h
  | c :: r, i, a, t, m, u, h => by
    have hc : c.toNat < 256 := c.toNat_lt
    rw [numGo] at h
    by_cases hi : i ≥ 9
    · rw [if_pos hi] at h; simp at h
    · rw [if_neg hi] at h
      by_cases hs : c.toNat < 128
      · rw [if_pos hs] at h
        by_cases hz : c.toNat = 0 ∧ i > 0
        · rw [if_pos hz] at h; simp at h
        · rw [if_neg hz] at h
          simp only [Prod.mk.injEq, and_true] at h
          refine ⟨c.toNat, by rw [← h.1]; congr 2; omega, ?_, by omega, by omega, r, ?_⟩
          · rw [enc_small (by omega)]; simp; omega
          · rw [enc_small (by omega)]; simp
      · rw [if_neg hs] at h
        obtain ⟨n, h1, h2, h3, h4, s, rfl⟩ := numGo_once r _ _ _ _ _ h
        have hn := h4 (by omega)
        have hb : c.toNat % 128 + 128 * n > 127 := by omega
        refine ⟨c.toNat % 128 + 128 * n, ?_, ?_, h3, by omega, s, ?_⟩
        · rw [h1, Nat.add_mul, Nat.add_assoc]
          congr 2
          rw [Nat.mul_comm t, ← Nat.mul_assoc, Nat.mul_comm n]
        · rw [h2, enc_big hb, List.length_cons, show (c.toNat % 128 + 128 * n) / 128 = n by omega]
          omega
        · rw [enc_big hb, show (c.toNat % 128 + 128 * n) / 128 = n by omega, show 128 + (c.toNat % 128 + 128 * n) % 128 = c.toNat by omega]
          simp
theorem numAns_once {l : List UInt8} {m u : Nat} (h : numAns l = (m, u, 0)) : u = (enc m).length ∧ u ≤ 9 ∧ 1 ≤ u ∧ ∃ s, l = enc m ++ s := by
  obtain ⟨n, h1, h2, h3, _, s, rfl⟩ := numGo_once l _ _ _ _ _ h
  simp only [Nat.zero_add, Nat.mul_one] at h1 h2
  subst h1
  have := enc_pos m
  exact ⟨h2, h3, by omega, s, rfl⟩
/-- what is answered beside an error -/
theorem numGo_err : ∀ (l : List UInt8) (i a t : Nat), (numGo i a t l).2.2 = 0 ∨ numGo i a t l = (0, 0, 2) ∨ numGo i a t l = (0, 0, 3)
  | [], i, a, t => by rw [numGo]; split <;> simp
  | c :: r, i, a, t => by
    rw [numGo]
    split
    · simp
    · split
      · split <;> simp
      · exact numGo_err r _ _ _
theorem numAns_err (l : List UInt8) : (numAns l).2.2 = 0 ∨ numAns l = (0, 0, 2) ∨ numAns l = (0, 0, 3) := numGo_err l 0 0 1
/-- the number fits -/
theorem enc_lt {n : Nat} (h : (enc n).length ≤ 9) : n < 9223372036854775808 := by
  have key : ∀ (k n : Nat), (enc n).length ≤ k + 1 → n < 128 ^ (k + 1) := by
    intro k
    induction k with
    | zero =>
      intro n h
      by_cases hn : n > 127
      · rw [enc_big hn, List.length_cons] at h
        have := enc_pos (n / 128); omega
      · omega
    | succ k ih =>
      intro n h
      by_cases hn : n > 127
      · rw [enc_big hn, List.length_cons] at h
        have := ih (n / 128) (by omega)
        rw [Nat.pow_succ]; omega
      · have : 1 ≤ 128 ^ (k + 1) := Nat.pow_pos (by decide)
        rw [Nat.pow_succ]; omega
  exact key 8 n (by omega)
theorem enc_inj {n m : Nat} (hn : n < 9223372036854775808) (h : enc n = enc m) : n = m := by
  have h9 := enc_len9 hn
  have hm := enc_lt (n := m) (by rw [← h]; exact h9)
  have a := numAns_enc hn []
  have b := numAns_enc hm []
  rw [h, b] at a
  simpa using (congrArg (·.1) a).symm
end Go.Proofs.Ytaenlkopjmgniaa

/- Records on a tape, as plain lists: laid, read, cut off. -/
import Derived.Test.YtaenlkopjmgniaaRText
import Derived.Test.YtaenlkopjmgniaaOpn
import Derived.Test.YtaenlkopjmgniaaRPutText
namespace Go.Proofs.Ytaenlkopjmgniaa

/-- one record's bytes; records' bytes -/
def recB (r : List UInt8) : List UInt8 := encT (sealed r)
def lay (l : List (List UInt8)) : List UInt8 := l.flatMap recB
/-- may it be written? -/
def fitR (r : List UInt8) : Prop := r.length ≤ 65532
theorem lay_nil : lay [] = [] := rfl
theorem lay_cons (r : List UInt8) (l : List (List UInt8)) : lay (r :: l) = recB r ++ lay l := by simp [lay]
theorem lay_append (a b : List (List UInt8)) : lay (a ++ b) = lay a ++ lay b := by simp [lay]
theorem slen (r : List UInt8) : (sealed r).length = r.length + 4 := by simp [sealed, four]
theorem recB_len (r : List UInt8) : (recB r).length = (enc (r.length + 4)).length + (r.length + 4) := by simp [recB, encT, slen]
theorem recB_ge (r : List UInt8) : 5 ≤ (recB r).length := by rw [recB_len]; have := enc_pos (r.length + 4); omega
theorem lay_ge (l : List (List UInt8)) : l.length ≤ (lay l).length := by
  induction l with
  | nil => simp
  | cons r l ih => rw [lay_cons, List.length_append, List.length_cons]; have := recB_ge r; omega

/-- the record that bytes begin with, and how many bytes it has -/
def oneAns (b : List UInt8) : Option (List UInt8 × Nat) :=
  if (textAns b).2.2 = 0 ∧ (openAns (textAns b).1).2 = 0 then some ((openAns (textAns b).1).1, (textAns b).2.1) else none
def readGo : Nat → List UInt8 → List (List UInt8) × Nat
  | 0, _ => ([], 0)
  | f + 1, b => match oneAns b with
    | none => ([], 0)
    | some (r, u) => (r :: (readGo f (b.drop u)).1, u + (readGo f (b.drop u)).2)
/-- the records that bytes begin with, and how many bytes these are -/
def readAns (b : List UInt8) : List (List UInt8) × Nat := readGo b.length b

theorem text_enc {n : Nat} (hn : n ≤ 65536) (s t : List UInt8) (hs : s.length = n) : textAns (enc n ++ s ++ t) = (s, (enc n).length + n, 0) := by
  have h := numAns_enc (n := n) (by omega) (s ++ t)
  rw [List.append_assoc]
  unfold textAns
  rw [h]
  simp only
  rw [if_neg (by simp), if_neg (by omega), if_neg (by simp; omega), List.drop_left, ← hs, List.take_left]
theorem text_short {n : Nat} (hn : n ≤ 65536) (s : List UInt8) (hs : s.length < n) : (textAns (enc n ++ s)).2.2 ≠ 0 := by
  have h := numAns_enc (n := n) (by omega) s
  unfold textAns
  rw [h]
  simp only
  rw [if_neg (by simp), if_neg (by omega), if_pos (by simp; omega)]
  simp
theorem one_rec {r : List UInt8} (h : fitR r) (s : List UInt8) : oneAns (recB r ++ s) = some (r, (recB r).length) := by
  have e : textAns (recB r ++ s) = (sealed r, (recB r).length, 0) := by
    have := text_enc (n := (sealed r).length) (by rw [slen]; unfold fitR at h; omega) (sealed r) s rfl
    rw [recB, encT, this]
    simp
  unfold oneAns
  rw [e]
  simp only [openAns_sealed]
  rw [if_pos ⟨trivial, trivial⟩]
theorem one_nil : oneAns [] = none := by decide
theorem readGo_lay : ∀ (l : List (List UInt8)) (s : List UInt8) (f : Nat), (∀ r ∈ l, fitR r) → oneAns s = none → l.length ≤ f → readGo f (lay l ++ s) = (l, (lay l).length)
  | [], s, 0, _, _, _ => rfl
  | [], s, f + 1, _, hs, _ => by rw [lay_nil, List.nil_append, readGo, hs]; rfl
  | r :: l, s, 0, _, _, hf => by simp at hf
  | r :: l, s, f + 1, hl, hs, hf => by
    rw [lay_cons, List.append_assoc, readGo, one_rec (hl r (by simp))]
    simp only
    rw [List.drop_left, readGo_lay l s f (fun x hx => hl x (by simp [hx])) hs (by simpa using hf)]
    simp
theorem read_lay (l : List (List UInt8)) (s : List UInt8) (hl : ∀ r ∈ l, fitR r) (hs : oneAns s = none) : readAns (lay l ++ s) = (l, (lay l).length) :=
  readGo_lay l s _ hl hs (by rw [List.length_append]; have := lay_ge l; omega)

/-- the first k bytes, and perhaps one more that is turned -/
def cutAt (b : List UInt8) (k : Nat) (turn : UInt8) : List UInt8 := b.take k ++ (if turn = 0 then [] else (b[k]?.map fun x => x ^^^ turn).toList)
theorem cutAt_left (a b : List UInt8) (k : Nat) (turn : UInt8) (h : k < a.length) : cutAt (a ++ b) k turn = cutAt a k turn := by
  unfold cutAt
  rw [List.take_append_of_le_length (by omega), List.getElem?_append_left h]
theorem cutAt_right (a b : List UInt8) (k : Nat) (turn : UInt8) (h : a.length ≤ k) : cutAt (a ++ b) k turn = a ++ cutAt b (k - a.length) turn := by
  unfold cutAt
  rw [List.take_append, List.take_of_length_le h, List.getElem?_append_right h, List.append_assoc]

theorem xor_self_ne {x t : UInt8} (h : t ≠ 0) : x ^^^ t ≠ x := by
  intro e
  have := congrArg (fun y => x ^^^ y) e
  simp only [← UInt8.xor_assoc, UInt8.xor_self, UInt8.zero_xor] at this
  exact h this
theorem sum_last (r : List UInt8) (x t : UInt8) (h : t ≠ 0) : sum (r ++ [x ^^^ t]) ≠ sum (r ++ [x]) := by
  intro he
  simp only [sum, more, Nat.zero_xor, run_append] at he
  have h1 := congrArg (fun y => y ^^^ 4294967295) he
  simp only [Nat.xor_assoc, Nat.xor_self, Nat.xor_zero] at h1
  rw [run_cons, run_nil, run_cons, run_nil] at h1
  generalize hR : run 4294967295 r = R at h1
  have hRl : R < 2 ^ 32 := by rw [← hR]; exact run_lt (by decide) r
  have e : take8 R (x ^^^ t) = take8 R x ^^^ take8 0 t := by
    have := take8_xor R 0 x t
    rwa [Nat.xor_zero] at this
  rw [e] at h1
  have h2 : take8 0 t = 0 := by
    have := congrArg (fun y => take8 R x ^^^ y) h1
    simp only [xcancel, Nat.xor_self] at this
    exact this
  unfold take8 at h2
  rw [Nat.zero_xor] at h2
  have := steps_ne (r := t.toNat) (by have := t.toNat_lt; omega) h2
  exact h (UInt8.toNat_inj.1 (by simpa using this))
/-- a sealed record whose last byte is turned is none -/
theorem open_last (r : List UInt8) (t : UInt8) (h : t ≠ 0) (S : List UInt8) (x : UInt8) (hS : sealed r = S ++ [x]) : (openAns (S ++ [x ^^^ t])).2 ≠ 0 := by
  have hlen : S.length + 1 = r.length + 4 := by rw [← slen, hS]; simp
  unfold openAns
  rw [if_neg (by simp; omega)]
  rcases List.eq_nil_or_concat r with rfl | ⟨r', y, rfl⟩
  · have hS3 : S.length = 3 := by simpa using hlen
    have h4 : (S ++ [x ^^^ t]).length = 4 := by simp [hS3]
    rw [List.take_of_length_le (by omega), List.drop_eq_nil_of_le (by omega), if_neg]
    · simp
    · intro he
      have h1 := four_val h4
      rw [he] at h1
      have h2 : sealed [] = four (sum []) := by simp [sealed]
      rw [← h2, hS] at h1
      have := List.append_inj_right h1 rfl
      simp only [List.cons.injEq, and_true] at this
      exact xor_self_ne h this.symm
  · have hs : sealed (r' ++ [y]) = (four (sum (r' ++ [y])) ++ r') ++ [y] := by simp [sealed]
    rw [List.concat_eq_append] at hS hlen
    rw [hs] at hS
    obtain ⟨h1, h2⟩ := List.append_inj' hS rfl
    simp only [List.cons.injEq, and_true] at h2
    subst h2
    rw [← h1, List.append_assoc, show (four (sum (r' ++ [y])) ++ (r' ++ [y ^^^ t])).take 4 = four (sum (r' ++ [y])) from rfl, show (four (sum (r' ++ [y])) ++ (r' ++ [y ^^^ t])).drop 4 = r' ++ [y ^^^ t] from rfl, val_four (sum_lt _), if_neg]
    · simp
    · intro he
      exact sum_last r' y t h he.symm

theorem one_err {b : List UInt8} (h : (textAns b).2.2 ≠ 0) : oneAns b = none := by
  unfold oneAns
  rw [if_neg (fun hh => h hh.1)]
/-- what is left of one record is none -/
theorem one_cut {r : List UInt8} (hr : fitR r) (k : Nat) (turn : UInt8) (hk : k < (recB r).length) : oneAns (cutAt (recB r) k turn) = none := by
  obtain ⟨n, hn⟩ : ∃ n, n = (sealed r).length := ⟨_, rfl⟩
  have hn4 : n = r.length + 4 := by rw [hn, slen]
  have hn6 : n ≤ 65536 := by unfold fitR at hr; omega
  have hrec : recB r = enc n ++ sealed r := by rw [recB, encT, hn]
  have hlen : (recB r).length = (enc n).length + n := by rw [hrec, List.length_append, ← hn]
  rcases Nat.lt_or_ge k (enc n).length with he | he
  · -- within the number
    rw [hrec, cutAt_left _ _ _ _ he]
    unfold cutAt
    by_cases ht : turn = 0
    · rw [if_pos ht, List.append_nil]
      refine one_err ?_
      unfold textAns
      rw [numAns_cut (by omega) he]
      simp
    · rw [if_neg ht, List.getElem?_eq_getElem he]
      simp only [Option.map_some, Option.toList_some]
      obtain ⟨s, hs⟩ : ∃ s, s = (enc n).take k ++ [(enc n)[k] ^^^ turn] := ⟨_, rfl⟩
      rw [← hs]
      have hsl : s.length = k + 1 := by rw [hs]; simp; omega
      rcases hnum : numAns s with ⟨m, u, e⟩
      by_cases h0 : e = 0
      · subst h0
        obtain ⟨hu, hu9, hu1, rest, hrest⟩ := numAns_once hnum
        have hall : u = k + 1 := by
          rcases Nat.lt_or_ge k u with h | h
          · have : (enc m).length ≤ s.length := by rw [hrest, List.length_append]; omega
            omega
          · exfalso
            have h1 : (enc n).take u = enc m := by
              have e1 : s.take u = enc m := by rw [hrest, hu, List.take_left]
              have e2 : s.take u = (enc n).take u := by rw [hs, List.take_append_of_le_length (by simp; omega), List.take_take, Nat.min_eq_left h]
              rw [← e2, e1]
            have h2 := numAns_cut (n := n) (k := u) (by omega) (by omega)
            rw [h1] at h2
            have h3 := numAns_enc (n := m) (enc_lt (by omega)) []
            rw [List.append_nil, h2] at h3
            simp at h3
        have ht2 : textAns s = if m > 65536 then ([], 0, 6) else if 0 < m then ([], 0, 3) else ([], k + 1, 0) := by
          unfold textAns
          rw [hnum]
          simp only [hall, hsl, Nat.sub_self]
          rw [if_neg (by simp)]
          split
          · rfl
          · split
            · rfl
            · rename_i h1 h2
              have : m = 0 := by omega
              subst this
              simp
        by_cases a1 : m > 65536
        · exact one_err (by rw [ht2, if_pos a1]; simp)
        · by_cases a2 : 0 < m
          · exact one_err (by rw [ht2, if_neg a1, if_pos a2]; simp)
          · unfold oneAns
            rw [ht2, if_neg a1, if_neg a2, if_neg (by simp [openAns])]
      · refine one_err ?_
        unfold textAns
        rw [hnum]
        simp only
        rw [if_pos h0]
        exact h0
  · rw [hrec, cutAt_right _ _ _ _ he]
    obtain ⟨j, hj⟩ : ∃ j, j = k - (enc n).length := ⟨_, rfl⟩
    rw [← hj]
    have hjn : j < (sealed r).length := by rw [← hn]; omega
    unfold cutAt
    by_cases ht : turn = 0
    · rw [if_pos ht, List.append_nil]
      exact one_err (text_short hn6 _ (by simp; omega))
    · rw [if_neg ht, List.getElem?_eq_getElem hjn]
      simp only [Option.map_some, Option.toList_some]
      rcases Nat.lt_or_ge (j + 1) n with h1 | h1
      · exact one_err (text_short hn6 _ (by simp; omega))
      · have hlast : sealed r = (sealed r).take j ++ [(sealed r)[j]] := by
          have := List.take_append_drop j (sealed r)
          rw [List.drop_eq_getElem_cons hjn, List.drop_eq_nil_of_le (by omega)] at this
          exact this.symm
        have h2 := open_last r turn ht _ _ hlast
        have h3 := text_enc hn6 ((sealed r).take j ++ [(sealed r)[j] ^^^ turn]) [] (by simp; omega)
        rw [List.append_nil] at h3
        unfold oneAns
        rw [h3]
        rw [if_neg (fun hh => h2 hh.2)]
/-- what is left of records: some first ones, and behind them none -/
theorem cut_lay : ∀ (l : List (List UInt8)) (k : Nat) (turn : UInt8), (∀ r ∈ l, fitR r) → ∃ j s, j ≤ l.length ∧ cutAt (lay l) k turn = lay (l.take j) ++ s ∧ oneAns s = none
  | [], k, turn, _ => ⟨0, [], by simp, by simp [cutAt, lay], one_nil⟩
  | r :: l, k, turn, hl => by
    rw [lay_cons]
    rcases Nat.lt_or_ge k (recB r).length with h | h
    · rw [cutAt_left _ _ _ _ h]
      exact ⟨0, _, by simp, by simp [lay], one_cut (hl r (by simp)) k turn h⟩
    · rw [cutAt_right _ _ _ _ h]
      obtain ⟨j, s, h1, h2, h3⟩ := cut_lay l (k - (recB r).length) turn (fun x hx => hl x (by simp [hx]))
      exact ⟨j + 1, s, by simpa using h1, by rw [h2, List.take_succ_cons, lay_cons, List.append_assoc], h3⟩

/-- bytes that begin with a record begin with its bytes -/
theorem one_take {b r : List UInt8} {u : Nat} (h : oneAns b = some (r, u)) : fitR r ∧ u = (recB r).length ∧ ∃ s, b = recB r ++ s := by
  unfold oneAns at h
  split at h
  · rename_i hh
    injection h with h
    injection h with h1 h2
    obtain ⟨ht, ho⟩ := hh
    rcases hnum : numAns b with ⟨m, v, e⟩
    unfold textAns at ht h1 h2 ho
    rw [hnum] at ht h1 h2 ho
    simp only at ht h1 h2 ho
    by_cases he : e = 0
    · subst he
      obtain ⟨hv, hv9, hv1, s, hs⟩ := numAns_once hnum
      rw [if_neg (by simp)] at ht h1 h2 ho
      by_cases hm : m > 65536
      · rw [if_pos hm] at ht; simp at ht
      · rw [if_neg hm] at ht h1 h2 ho
        by_cases hsh : b.length - v < m
        · rw [if_pos hsh] at ht; simp at ht
        · rw [if_neg hsh] at h1 h2 ho
          simp only at h1 h2 ho
          have hd : b.drop v = s := by rw [hs, hv, List.drop_left]
          rw [hd] at h1 ho
          have hsl : m ≤ s.length := by rw [hs, List.length_append] at hsh; omega
          obtain ⟨X, hX⟩ : ∃ X, X = s.take m := ⟨_, rfl⟩
          rw [← hX] at h1 ho
          have hXl : X.length = m := by rw [hX, List.length_take]; omega
          have hseal : X = sealed r := by
            unfold openAns at h1 ho
            by_cases h4 : X.length < 4
            · rw [if_pos h4] at ho; simp at ho
            · rw [if_neg h4] at h1 ho
              by_cases h5 : val (X.take 4) = sum (X.drop 4)
              · rw [if_pos h5] at h1
                simp only at h1
                subst h1
                unfold sealed
                rw [← h5, four_val (by simp; omega), List.take_append_drop]
              · rw [if_neg h5] at ho; simp at ho
          have hrl : r.length + 4 = m := by rw [← slen, ← hseal, hXl]
          have hrb : recB r = enc m ++ X := by rw [recB, encT, ← hseal, hXl]
          refine ⟨by unfold fitR; omega, by rw [← h2, hrb, List.length_append, hXl, hv], s.drop m, ?_⟩
          rw [hrb, List.append_assoc, hX, List.take_append_drop]
          exact hs
    · rw [if_pos he] at ht
      exact absurd ht he
  · cases h
theorem readGo_take : ∀ (f : Nat) (b : List UInt8), (∀ r ∈ (readGo f b).1, fitR r) ∧ (readGo f b).2 = (lay (readGo f b).1).length ∧ ∃ s, b = lay (readGo f b).1 ++ s ∧ (b.length ≤ f → oneAns s = none)
  | 0, b => ⟨by simp [readGo], by simp [readGo, lay], b, by simp [readGo, lay], fun h => by rw [List.eq_nil_of_length_eq_zero (Nat.le_zero.1 h)]; exact one_nil⟩
  | f + 1, b => by
    rcases ho : oneAns b with _ | ⟨r, u⟩
    · have e : readGo (f + 1) b = ([], 0) := by rw [readGo, ho]
      rw [e]
      exact ⟨by simp, by simp [lay], b, by simp [lay], fun _ => ho⟩
    · obtain ⟨h1, h2, s, hs⟩ := one_take ho
      have e : readGo (f + 1) b = (r :: (readGo f s).1, u + (readGo f s).2) := by
        rw [readGo, ho]
        simp only
        rw [hs, h2, List.drop_left]
      rw [e]
      obtain ⟨i1, i2, s2, i3, i4⟩ := readGo_take f s
      refine ⟨?_, by rw [lay_cons, List.length_append, h2, i2], s2, by rw [lay_cons, List.append_assoc, ← i3]; exact hs, fun hb => i4 ?_⟩
      · intro x hx
        rcases List.mem_cons.1 hx with rfl | hx
        · exact h1
        · exact i1 x hx
      · rw [hs, List.length_append] at hb
        have := recB_ge r
        omega
theorem read_take (b : List UInt8) : (∀ r ∈ (readAns b).1, fitR r) ∧ (readAns b).2 = (lay (readAns b).1).length ∧ ∃ s, b = lay (readAns b).1 ++ s ∧ oneAns s = none := by
  obtain ⟨h1, h2, s, h3, h4⟩ := readGo_take b.length b
  exact ⟨h1, h2, s, h3, h4 (Nat.le_refl _)⟩
end Go.Proofs.Ytaenlkopjmgniaa

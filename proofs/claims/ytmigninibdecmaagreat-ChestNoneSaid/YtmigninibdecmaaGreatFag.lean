/- Records on a tape, as plain lists: laid, read, cut off. The tape as a state, and what the laws of stage 6 need of it: pure, no program. The book as a state, and what BookPlays asks of it: pure. What a chest lays down: its records, how long they are, that they tell apart; pure. -/
import Derived.Test.YtmigninibdecmaaGreatFab
import Derived.Test.YtmigninibdecmaaGreatFac
import Derived.Test.YtmigninibdecmaaGreatFaf
namespace Go.Proofs.YtmigninibdecmaaGreat

/-- one record's bytes; records' bytes -/
def recB (r : List UInt8) : List UInt8 := encT (sealed r)
def lay (l : List (List UInt8)) : List UInt8 := l.flatMap recB
/-- may it be written? -/
def fitR (r : List UInt8) : Prop := r.length ≤ 65532
theorem lay_nil : lay [] = [] := rfl
theorem lay_cons (r : List UInt8) (l : List (List UInt8)) : lay (r :: l) = recB r ++ lay l := by simp [lay]
theorem lay_append (a b : List (List UInt8)) : lay (a ++ b) = lay a ++ lay b := by simp [lay]
theorem slen (r : List UInt8) : (sealed r).length = r.length + 4 := by simp [sealed, four]
theorem recB_len (r : List UInt8) : (recB r).length = (enc (r.length + 4)).length + (r.length + 4) := by simp [recB, encT, slen]
theorem recB_ge (r : List UInt8) : 5 ≤ (recB r).length := by rw [recB_len]; have := enc_pos (r.length + 4); omega
theorem lay_ge (l : List (List UInt8)) : l.length ≤ (lay l).length := by
  induction l with
  | nil => simp
  | cons r l ih => rw [lay_cons, List.length_append, List.length_cons]; have := recB_ge r; omega

/-- the record that bytes begin with, and how many bytes it has -/
def oneAns (b : List UInt8) : Option (List UInt8 × Nat) :=
  if (textAns b).2.2 = 0 ∧ (openAns (textAns b).1).2 = 0 then some ((openAns (textAns b).1).1, (textAns b).2.1) else none
def readGo : Nat → List UInt8 → List (List UInt8) × Nat
  | 0, _ => ([], 0)
  | f + 1, b => match oneAns b with
    | none => ([], 0)
    | some (r, u) => (r :: (readGo f (b.drop u)).1, u + (readGo f (b.drop u)).2)
/-- the records that bytes begin with, and how many bytes these are -/
def readAns (b : List UInt8) : List (List UInt8) × Nat := readGo b.length b

theorem text_enc {n : Nat} (hn : n ≤ 65536) (s t : List UInt8) (hs : s.length = n) : textAns (enc n ++ s ++ t) = (s, (enc n).length + n, 0) := by
  have h := numAns_enc (n := n) (by omega) (s ++ t)
  rw [List.append_assoc]
  unfold textAns
  rw [h]
  simp only
  rw [if_neg (by simp), if_neg (by omega), if_neg (by simp; omega), List.drop_left, ← hs, List.take_left]
theorem text_short {n : Nat} (hn : n ≤ 65536) (s : List UInt8) (hs : s.length < n) : (textAns (enc n ++ s)).2.2 ≠ 0 := by
  have h := numAns_enc (n := n) (by omega) s
  unfold textAns
  rw [h]
  simp only
  rw [if_neg (by simp), if_neg (by omega), if_pos (by simp; omega)]
  simp
theorem one_rec {r : List UInt8} (h : fitR r) (s : List UInt8) : oneAns (recB r ++ s) = some (r, (recB r).length) := by
  have e : textAns (recB r ++ s) = (sealed r, (recB r).length, 0) := by
    have := text_enc (n := (sealed r).length) (by rw [slen]; unfold fitR at h; omega) (sealed r) s rfl
    rw [recB, encT, this]
    simp
  unfold oneAns
  rw [e]
  simp only [openAns_sealed]
  rw [if_pos ⟨trivial, trivial⟩]
theorem one_nil : oneAns [] = none := by decide
theorem readGo_lay : ∀ (l : List (List UInt8)) (s : List UInt8) (f : Nat), (∀ r ∈ l, fitR r) → oneAns s = none → l.length ≤ f → readGo f (lay l ++ s) = (l, (lay l).length)
  | [], s, 0, _, _, _ => rfl
  | [], s, f + 1, _, hs, _ => by rw [lay_nil, List.nil_append, readGo, hs]; rfl
  | r :: l, s, 0, _, _, hf => by simp at hf
  | r :: l, s, f + 1, hl, hs, hf => by
    rw [lay_cons, List.append_assoc, readGo, one_rec (hl r (by simp))]
    simp only
    rw [List.drop_left, readGo_lay l s f (fun x hx => hl x (by simp [hx])) hs (by simpa using hf)]
    simp
theorem read_lay (l : List (List UInt8)) (s : List UInt8) (hl : ∀ r ∈ l, fitR r) (hs : oneAns s = none) : readAns (lay l ++ s) = (l, (lay l).length) :=
  readGo_lay l s _ hl hs (by rw [List.length_append]; have := lay_ge l; omega)

/-- the first k bytes, and perhaps one more that is turned -/
def cutAt (b : List UInt8) (k : Nat) (turn : UInt8) : List UInt8 := b.take k ++ (if turn = 0 then [] else (b[k]?.map fun x => x ^^^ turn).toList)
theorem cutAt_left (a b : List UInt8) (k : Nat) (turn : UInt8) (h : k < a.length) : cutAt (a ++ b) k turn = cutAt a k turn := by
  unfold cutAt
  rw [List.take_append_of_le_length (by omega), List.getElem?_append_left h]
theorem cutAt_right (a b : List UInt8) (k : Nat) (turn : UInt8) (h : a.length ≤ k) : cutAt (a ++ b) k turn = a ++ cutAt b (k - a.length) turn := by
  unfold cutAt
  rw [List.take_append, List.take_of_length_le h, List.getElem?_append_right h, List.append_assoc]

theorem xor_self_ne {x t : UInt8} (h : t ≠ 0) : x ^^^ t ≠ x := by
  intro e
  have := congrArg (fun y => x ^^^ y) e
  simp only [← UInt8.xor_assoc, UInt8.xor_self, UInt8.zero_xor] at this
  exact h this
theorem sum_last (r : List UInt8) (x t : UInt8) (h : t ≠ 0) : sum (r ++ [x ^^^ t]) ≠ sum (r ++ [x]) := by
  intro he
  simp only [sum, more, Nat.zero_xor, run_append] at he
  have h1 := congrArg (fun y => y ^^^ 4294967295) he
  simp only [Nat.xor_assoc, Nat.xor_self, Nat.xor_zero] at h1
  rw [run_cons, run_nil, run_cons, run_nil] at h1
  generalize hR : run 4294967295 r = R at h1
  have hRl : R < 2 ^ 32 := by rw [← hR]; exact run_lt (by decide) r
  have e : take8 R (x ^^^ t) = take8 R x ^^^ take8 0 t := by
    have := take8_xor R 0 x t
    rwa [Nat.xor_zero] at this
  rw [e] at h1
  have h2 : take8 0 t = 0 := by
    have := congrArg (fun y => take8 R x ^^^ y) h1
    simp only [xcancel, Nat.xor_self] at this
    exact this
  unfold take8 at h2
  rw [Nat.zero_xor] at h2
  have := steps_ne (r := t.toNat) (by have := t.toNat_lt; omega) h2
  exact h (UInt8.toNat_inj.1 (by simpa using this))
/-- a sealed record whose last byte is turned is none -/
theorem open_last (r : List UInt8) (t : UInt8) (h : t ≠ 0) (S : List UInt8) (x : UInt8) (hS : sealed r = S ++ [x]) : (openAns (S ++ [x ^^^ t])).2 ≠ 0 := by
  have hlen : S.length + 1 = r.length + 4 := by rw [← slen, hS]; simp
  unfold openAns
  rw [if_neg (by simp; omega)]
  rcases List.eq_nil_or_concat r with rfl | ⟨r', y, rfl⟩
  · have hS3 : S.length = 3 := by simpa using hlen
    have h4 : (S ++ [x ^^^ t]).length = 4 := by simp [hS3]
    rw [List.take_of_length_le (by omega), List.drop_eq_nil_of_le (by omega), if_neg]
    · simp
    · intro he
      have h1 := four_val h4
      rw [he] at h1
      have h2 : sealed [] = four (sum []) := by simp [sealed]
      rw [← h2, hS] at h1
      have := List.append_inj_right h1 rfl
      simp only [List.cons.injEq, and_true] at this
      exact xor_self_ne h this.symm
  · have hs : sealed (r' ++ [y]) = (four (sum (r' ++ [y])) ++ r') ++ [y] := by simp [sealed]
    rw [List.concat_eq_append] at hS hlen
    rw [hs] at hS
    obtain ⟨h1, h2⟩ := List.append_inj' hS rfl
    simp only [List.cons.injEq, and_true] at h2
    subst h2
    rw [← h1, List.append_assoc, show (four (sum (r' ++ [y])) ++ (r' ++ [y ^^^ t])).take 4 = four (sum (r' ++ [y])) from rfl, show (four (sum (r' ++ [y])) ++ (r' ++ [y ^^^ t])).drop 4 = r' ++ [y ^^^ t] from rfl, val_four (sum_lt _), if_neg]
    · simp
    · intro he
      exact sum_last r' y t h he.symm

theorem one_err {b : List UInt8} (h : (textAns b).2.2 ≠ 0) : oneAns b = none := by
  unfold oneAns
  rw [if_neg (fun hh => h hh.1)]
/-- what is left of one record is none -/
theorem one_cut {r : List UInt8} (hr : fitR r) (k : Nat) (turn : UInt8) (hk : k < (recB r).length) : oneAns (cutAt (recB r) k turn) = none := by
  obtain ⟨n, hn⟩ : ∃ n, n = (sealed r).length := ⟨_, rfl⟩
  have hn4 : n = r.length + 4 := by rw [hn, slen]
  have hn6 : n ≤ 65536 := by unfold fitR at hr; omega
  have hrec : recB r = enc n ++ sealed r := by rw [recB, encT, hn]
  have hlen : (recB r).length = (enc n).length + n := by rw [hrec, List.length_append, ← hn]
  rcases Nat.lt_or_ge k (enc n).length with he | he
  · -- within the number
    rw [hrec, cutAt_left _ _ _ _ he]
    unfold cutAt
    by_cases ht : turn = 0
    · rw [if_pos ht, List.append_nil]
      refine one_err ?_
      unfold textAns
      rw [numAns_cut (by omega) he]
      simp
    · rw [if_neg ht, List.getElem?_eq_getElem he]
      simp only [Option.map_some, Option.toList_some]
      obtain ⟨s, hs⟩ : ∃ s, s = (enc n).take k ++ [(enc n)[k] ^^^ turn] := ⟨_, rfl⟩
      rw [← hs]
      have hsl : s.length = k + 1 := by rw [hs]; simp; omega
      rcases hnum : numAns s with ⟨m, u, e⟩
      by_cases h0 : e = 0
      · subst h0
        obtain ⟨hu, hu9, hu1, rest, hrest⟩ := numAns_once hnum
        have hall : u = k + 1 := by
          rcases Nat.lt_or_ge k u with h | h
          · have : (enc m).length ≤ s.length := by rw [hrest, List.length_append]; omega
            omega
          · exfalso
            have h1 : (enc n).take u = enc m := by
              have e1 : s.take u = enc m := by rw [hrest, hu, List.take_left]
              have e2 : s.take u = (enc n).take u := by rw [hs, List.take_append_of_le_length (by simp; omega), List.take_take, Nat.min_eq_left h]
              rw [← e2, e1]
            have h2 := numAns_cut (n := n) (k := u) (by omega) (by omega)
            rw [h1] at h2
            have h3 := numAns_enc (n := m) (enc_lt (by omega)) []
            rw [List.append_nil, h2] at h3
            simp at h3
        have ht2 : textAns s = if m > 65536 then ([], 0, 6) else if 0 < m then ([], 0, 3) else ([], k + 1, 0) := by
          unfold textAns
          rw [hnum]
          simp only [hall, hsl, Nat.sub_self]
          rw [if_neg (by simp)]
          split
          · rfl
          · split
            · rfl
            · rename_i h1 h2
              have : m = 0 := by omega
              subst this
              simp
        by_cases a1 : m > 65536
        · exact one_err (by rw [ht2, if_pos a1]; simp)
        · by_cases a2 : 0 < m
          · exact one_err (by rw [ht2, if_neg a1, if_pos a2]; simp)
          · unfold oneAns
            rw [ht2, if_neg a1, if_neg a2, if_neg (by simp [openAns])]
      · refine one_err ?_
        unfold textAns
        rw [hnum]
        simp only
        rw [if_pos h0]
        exact h0
  · rw [hrec, cutAt_right _ _ _ _ he]
    obtain ⟨j, hj⟩ : ∃ j, j = k - (enc n).length := ⟨_, rfl⟩
    rw [← hj]
    have hjn : j < (sealed r).length := by rw [← hn]; omega
    unfold cutAt
    by_cases ht : turn = 0
    · rw [if_pos ht, List.append_nil]
      exact one_err (text_short hn6 _ (by simp; omega))
    · rw [if_neg ht, List.getElem?_eq_getElem hjn]
      simp only [Option.map_some, Option.toList_some]
      rcases Nat.lt_or_ge (j + 1) n with h1 | h1
      · exact one_err (text_short hn6 _ (by simp; omega))
      · have hlast : sealed r = (sealed r).take j ++ [(sealed r)[j]] := by
          have := List.take_append_drop j (sealed r)
          rw [List.drop_eq_getElem_cons hjn, List.drop_eq_nil_of_le (by omega)] at this
          exact this.symm
        have h2 := open_last r turn ht _ _ hlast
        have h3 := text_enc hn6 ((sealed r).take j ++ [(sealed r)[j] ^^^ turn]) [] (by simp; omega)
        rw [List.append_nil] at h3
        unfold oneAns
        rw [h3]
        rw [if_neg (fun hh => h2 hh.2)]
/-- what is left of records: some first ones, and behind them none -/
theorem cut_lay : ∀ (l : List (List UInt8)) (k : Nat) (turn : UInt8), (∀ r ∈ l, fitR r) → ∃ j s, j ≤ l.length ∧ cutAt (lay l) k turn = lay (l.take j) ++ s ∧ oneAns s = none
  | [], k, turn, _ => ⟨0, [], by simp, by simp [cutAt, lay], one_nil⟩
  | r :: l, k, turn, hl => by
    rw [lay_cons]
    rcases Nat.lt_or_ge k (recB r).length with h | h
    · rw [cutAt_left _ _ _ _ h]
      exact ⟨0, _, by simp, by simp [lay], one_cut (hl r (by simp)) k turn h⟩
    · rw [cutAt_right _ _ _ _ h]
      obtain ⟨j, s, h1, h2, h3⟩ := cut_lay l (k - (recB r).length) turn (fun x hx => hl x (by simp [hx]))
      exact ⟨j + 1, s, by simpa using h1, by rw [h2, List.take_succ_cons, lay_cons, List.append_assoc], h3⟩

/-- bytes that begin with a record begin with its bytes -/
theorem one_take {b r : List UInt8} {u : Nat} (h : oneAns b = some (r, u)) : fitR r ∧ u = (recB r).length ∧ ∃ s, b = recB r ++ s := by
  unfold oneAns at h
  split at h
  · rename_i hh
    injection h with h
    injection h with h1 h2
    obtain ⟨ht, ho⟩ := hh
    rcases hnum : numAns b with ⟨m, v, e⟩
    unfold textAns at ht h1 h2 ho
    rw [hnum] at ht h1 h2 ho
    simp only at ht h1 h2 ho
    by_cases he : e = 0
    · subst he
      obtain ⟨hv, hv9, hv1, s, hs⟩ := numAns_once hnum
      rw [if_neg (by simp)] at ht h1 h2 ho
      by_cases hm : m > 65536
      · rw [if_pos hm] at ht; simp at ht
      · rw [if_neg hm] at ht h1 h2 ho
        by_cases hsh : b.length - v < m
        · rw [if_pos hsh] at ht; simp at ht
        · rw [if_neg hsh] at h1 h2 ho
          simp only at h1 h2 ho
          have hd : b.drop v = s := by rw [hs, hv, List.drop_left]
          rw [hd] at h1 ho
          have hsl : m ≤ s.length := by rw [hs, List.length_append] at hsh; omega
          obtain ⟨X, hX⟩ : ∃ X, X = s.take m := ⟨_, rfl⟩
          rw [← hX] at h1 ho
          have hXl : X.length = m := by rw [hX, List.length_take]; omega
          have hseal : X = sealed r := by
            unfold openAns at h1 ho
            by_cases h4 : X.length < 4
            · rw [if_pos h4] at ho; simp at ho
            · rw [if_neg h4] at h1 ho
              by_cases h5 : val (X.take 4) = sum (X.drop 4)
              · rw [if_pos h5] at h1
                simp only at h1
                subst h1
                unfold sealed
                rw [← h5, four_val (by simp; omega), List.take_append_drop]
              · rw [if_neg h5] at ho; simp at ho
          have hrl : r.length + 4 = m := by rw [← slen, ← hseal, hXl]
          have hrb : recB r = enc m ++ X := by rw [recB, encT, ← hseal, hXl]
          refine ⟨by unfold fitR; omega, by rw [← h2, hrb, List.length_append, hXl, hv], s.drop m, ?_⟩
          rw [hrb, List.append_assoc, hX, List.take_append_drop]
          exact hs
    · rw [if_pos he] at ht
      exact absurd ht he
  · cases h
theorem readGo_take : ∀ (f : Nat) (b : List UInt8), (∀ r ∈ (readGo f b).1, fitR r) ∧ (readGo f b).2 = (lay (readGo f b).1).length ∧ ∃ s, b = lay (readGo f b).1 ++ s ∧ (b.length ≤ f → oneAns s = none)
  | 0, b => ⟨by simp [readGo], by simp [readGo, lay], b, by simp [readGo, lay], fun h => by rw [List.eq_nil_of_length_eq_zero (Nat.le_zero.1 h)]; exact one_nil⟩
  | f + 1, b => by
    rcases ho : oneAns b with _ | ⟨r, u⟩
    · have e : readGo (f + 1) b = ([], 0) := by rw [readGo, ho]
      rw [e]
      exact ⟨by simp, by simp [lay], b, by simp [lay], fun _ => ho⟩
    · obtain ⟨h1, h2, s, hs⟩ := one_take ho
      have e : readGo (f + 1) b = (r :: (readGo f s).1, u + (readGo f s).2) := by
        rw [readGo, ho]
        simp only
        rw [hs, h2, List.drop_left]
      rw [e]
      obtain ⟨i1, i2, s2, i3, i4⟩ := readGo_take f s
      refine ⟨?_, by rw [lay_cons, List.length_append, h2, i2], s2, by rw [lay_cons, List.append_assoc, ← i3]; exact hs, fun hb => i4 ?_⟩
      · intro x hx
        rcases List.mem_cons.1 hx with rfl | hx
        · exact h1
        · exact i1 x hx
      · rw [hs, List.length_append] at hb
        have := recB_ge r
        omega
theorem read_take (b : List UInt8) : (∀ r ∈ (readAns b).1, fitR r) ∧ (readAns b).2 = (lay (readAns b).1).length ∧ ∃ s, b = lay (readAns b).1 ++ s ∧ oneAns s = none := by
  obtain ⟨h1, h2, s, h3, h4⟩ := readGo_take b.length b
  exact ⟨h1, h2, s, h3, h4 (Nat.le_refl _)⟩
end Go.Proofs.YtmigninibdecmaaGreat
namespace Go.Proofs.YtmigninibdecmaaGreat

structure Tp where
  sure : List UInt8
  loose : List UInt8
  room : Int
  left : Int
  down : Bool

namespace Tp
/-- one call that leaves so many bytes: 0, ErrFull 10 or ErrDown 11 -/
def write (t : Tp) (size : Nat) : Int × Tp :=
  if t.down = true then (11, t)
  else if (size : Int) > t.room then (10, t)
  else if t.left = 0 then (11, { t with down := true })
  else if t.left > 0 then (0, { t with left := t.left - 1 }) else (0, t)
def add (t : Tp) (b : List UInt8) : Int × Tp :=
  let r := t.write (t.sure.length + t.loose.length + b.length)
  if r.1 = 0 then (0, { r.2 with loose := t.loose ++ b }) else r
def sync (t : Tp) : Int × Tp :=
  let r := t.write 0
  if r.1 = 0 then (0, { r.2 with sure := t.sure ++ t.loose, loose := [] }) else r
def repl (t : Tp) (b : List UInt8) : Int × Tp :=
  let r := t.write b.length
  if r.1 = 0 then (0, { r.2 with sure := b, loose := [] }) else r
def fail (t : Tp) (n : Int) : Tp := { t with left := n }
/-- what lasts of the loose ones -/
def kept (l : List UInt8) (keep : Int) (turn : UInt8) : List UInt8 :=
  if (l.length : Int) ≤ keep then l
  else if turn = 0 then l.take keep.toNat
  else l.take keep.toNat ++ (l[keep.toNat]?.map fun x => x ^^^ turn).toList
def crash (t : Tp) (keep : Int) (turn : UInt8) : Tp :=
  { t with sure := t.sure ++ kept t.loose keep turn, loose := [], down := false, left := -1 }
/-- what is asked of every tape: its bytes have room -/
def Ok (t : Tp) : Prop := 0 ≤ t.room ∧ t.room ≤ 1048576 ∧ ((t.sure.length + t.loose.length : Nat) : Int) ≤ t.room

theorem write_ok {t : Tp} {n : Nat} (h : (t.write n).1 = 0) : (n : Int) ≤ t.room := by
  unfold write at h
  split at h
  · cases h
  · split at h
    · cases h
    · omega
theorem write_keeps (t : Tp) (n : Nat) : (t.write n).2.sure = t.sure ∧ (t.write n).2.loose = t.loose ∧ (t.write n).2.room = t.room := by
  unfold write; repeat' split
  all_goals exact ⟨rfl, rfl, rfl⟩
theorem Ok.write {t : Tp} (h : t.Ok) (n : Nat) : (t.write n).2.Ok := by
  obtain ⟨h1, h2, h3⟩ := write_keeps t n
  unfold Ok at h ⊢; rw [h1, h2, h3]; exact h
theorem Ok.add {t : Tp} (h : t.Ok) (b : List UInt8) : (t.add b).2.Ok := by
  unfold Tp.add
  simp only
  split
  · rename_i h0
    have hr := write_ok h0
    obtain ⟨h1, h2, h3⟩ := write_keeps t (t.sure.length + t.loose.length + b.length)
    unfold Ok at h ⊢
    simp only [h1, h3, List.length_append]
    omega
  · exact h.write _
theorem Ok.sync {t : Tp} (h : t.Ok) : (t.sync).2.Ok := by
  unfold Tp.sync
  simp only
  split
  · obtain ⟨h1, h2, h3⟩ := write_keeps t 0
    unfold Ok at h ⊢
    simp only [h3, List.length_append, List.length_nil]
    omega
  · exact h.write _
theorem Ok.repl {t : Tp} (h : t.Ok) (b : List UInt8) : (t.repl b).2.Ok := by
  unfold Tp.repl
  simp only
  split
  · rename_i h0
    have hr := write_ok h0
    obtain ⟨h1, h2, h3⟩ := write_keeps t b.length
    unfold Ok at h ⊢
    simp only [h3, List.length_nil]
    omega
  · exact h.write _
theorem kept_len (l : List UInt8) (keep : Int) (turn : UInt8) : (kept l keep turn).length ≤ l.length := by
  unfold kept
  split
  · exact Nat.le_refl _
  · split
    · simp; omega
    · rename_i h _
      have hk : keep.toNat < l.length ∨ l.length = 0 := by omega
      rcases hk with hk | hk
      · simp [List.getElem?_eq_getElem hk]; omega
      · rw [List.eq_nil_of_length_eq_zero hk]; simp
theorem Ok.crash {t : Tp} (h : t.Ok) (keep : Int) (turn : UInt8) : (t.crash keep turn).Ok := by
  have := kept_len t.loose keep turn
  unfold Ok at h ⊢
  simp only [Tp.crash, List.length_append, List.length_nil]
  omega
/-- what lasts begins as what was there, but for perhaps the last one -/
theorem kept_at (l : List UInt8) (keep : Int) (turn : UInt8) (i : Nat) (hi : i + 1 < (kept l keep turn).length) : (kept l keep turn)[i]? = l[i]? := by
  unfold kept at hi ⊢
  split at hi
  · rename_i h; simp only [if_pos h]
  · rename_i h
    simp only [if_neg h]
    split at hi
    · rename_i h2
      simp only [if_pos h2]
      rw [List.getElem?_take]
      simp only [List.length_take] at hi
      rw [if_pos (by omega)]
    · rename_i h2
      simp only [if_neg h2]
      have hlt : keep.toNat < l.length := by
        rcases Nat.lt_or_ge keep.toNat l.length with h' | h'
        · exact h'
        · have : l.length = 0 := by omega
          rw [List.eq_nil_of_length_eq_zero this] at hi
          simp at hi
      simp only [List.getElem?_eq_getElem hlt, Option.map_some, Option.toList_some, List.length_append, List.length_take, List.length_cons, List.length_nil] at hi ⊢
      have hik : i < keep.toNat := by omega
      rw [List.getElem?_append_left (by simp; omega), List.getElem?_take, if_pos hik]
theorem crash_at (t : Tp) (keep : Int) (turn : UInt8) (i : Nat) (hi : i < (t.crash keep turn).sure.length) (hne : (t.crash keep turn).sure[i]? ≠ (t.sure ++ t.loose)[i]?) : t.sure.length ≤ i ∧ i + 1 = (t.crash keep turn).sure.length := by
  simp only [Tp.crash] at hi hne ⊢
  rcases Nat.lt_or_ge i t.sure.length with h | h
  · exact absurd (by rw [List.getElem?_append_left h, List.getElem?_append_left h]) hne
  · refine ⟨h, ?_⟩
    rcases Nat.lt_or_ge (i + 1) (t.sure ++ kept t.loose keep turn).length with h2 | h2
    · refine absurd ?_ hne
      rw [List.getElem?_append_right h, List.getElem?_append_right h]
      exact kept_at _ _ _ _ (by simp only [List.length_append] at h2; omega)
    · omega

/-- a tape that has not to go down: what one call says hangs on the room alone -/
theorem write_live {t : Tp} (hd : t.down = false) (hl : t.left < 0) (n : Nat) : t.write n = if (n : Int) > t.room then (10, t) else (0, t) := by
  unfold write
  rw [if_neg (by simp [hd])]
  split
  · rfl
  · rw [if_neg (by omega), if_neg (by omega)]
theorem add_live {t : Tp} (hd : t.down = false) (hl : t.left < 0) (b : List UInt8) (hr : ((t.sure.length + t.loose.length + b.length : Nat) : Int) ≤ t.room) : t.add b = (0, { t with loose := t.loose ++ b }) := by
  have h := write_live hd hl (t.sure.length + t.loose.length + b.length)
  rw [if_neg (by omega)] at h
  unfold add
  rw [h]
  rfl
theorem sync_live {t : Tp} (hd : t.down = false) (hl : t.left < 0) (hr : 0 ≤ t.room) : t.sync = (0, { t with sure := t.sure ++ t.loose, loose := [] }) := by
  have h := write_live hd hl 0
  rw [if_neg (by omega)] at h
  unfold sync
  rw [h]
  rfl
theorem crash_sync {t : Tp} (hr : 0 ≤ t.room) (keep : Int) (turn : UInt8) : ((t.crash keep turn).sync).1 = 0 := by
  have h := sync_live (t := t.crash keep turn) rfl (by show (-1 : Int) < 0; omega) hr
  rw [h]

/-- TapeFails: what holds ahead of call i -/
def FailInv (n i : Nat) (t : Tp) : Prop :=
  t.room = 1000 ∧ t.sure.length + t.loose.length ≤ 1 ∧ (i ≤ n → t.down = false ∧ t.left = (n : Int) - i) ∧ (n < i → t.down = true)
theorem FailInv.write {n i : Nat} {t : Tp} (h : FailInv n i t) {k : Nat} (hk : k ≤ 1) :
    (i < n ∧ t.write k = (0, { t with left := t.left - 1 })) ∨ (n ≤ i ∧ (t.write k).1 = 11 ∧ FailInv n (i + 1) (t.write k).2) := by
  obtain ⟨h1, h2, h3, h4⟩ := h
  rcases Nat.lt_or_ge i n with hi | hi
  · obtain ⟨h5, h6⟩ := h3 (by omega)
    refine .inl ⟨hi, ?_⟩
    unfold Tp.write
    rw [if_neg (by simp [h5]), if_neg (by omega), if_neg (by omega), if_pos (by omega)]
  · refine .inr ⟨hi, ?_⟩
    rcases Nat.lt_or_ge n i with hn | hn
    · have h5 := h4 hn
      unfold Tp.write
      rw [if_pos h5]
      exact ⟨rfl, h1, h2, fun h => by omega, fun _ => h5⟩
    · obtain ⟨h5, h6⟩ := h3 hn
      unfold Tp.write
      rw [if_neg (by simp [h5]), if_neg (by omega), if_pos (by omega)]
      exact ⟨rfl, h1, h2, fun h => by omega, fun _ => rfl⟩
theorem FailInv.add {n i : Nat} {t : Tp} (h : FailInv n i t) :
    ((t.add []).1 = if i < n then 0 else 11) ∧ FailInv n (i + 1) (t.add []).2 := by
  have h0 := h
  obtain ⟨h1, h2, h3, _⟩ := h0
  unfold Tp.add
  simp only [List.length_nil, Nat.add_zero, List.append_nil]
  rcases h.write h2 with ⟨hi, hw⟩ | ⟨hi, hw, hn⟩
  · rw [hw, if_pos rfl, if_pos hi]
    obtain ⟨h5, h6⟩ := h3 (by omega)
    exact ⟨rfl, h1, h2, fun _ => ⟨h5, by show t.left - 1 = _; omega⟩, fun h => by omega⟩
  · rw [if_neg (by omega), if_neg (by omega)]
    exact ⟨hw, hn⟩
theorem FailInv.sync {n i : Nat} {t : Tp} (h : FailInv n i t) :
    (t.sync.1 = if i < n then 0 else 11) ∧ FailInv n (i + 1) t.sync.2 := by
  have h0 := h
  obtain ⟨h1, h2, h3, _⟩ := h0
  unfold Tp.sync
  simp only
  rcases h.write (k := 0) (by omega) with ⟨hi, hw⟩ | ⟨hi, hw, hn⟩
  · rw [hw, if_pos rfl, if_pos hi]
    obtain ⟨h5, h6⟩ := h3 (by omega)
    exact ⟨rfl, h1, by simpa using h2, fun _ => ⟨h5, by show t.left - 1 = _; omega⟩, fun h => by omega⟩
  · rw [if_neg (by omega), if_neg (by omega)]
    exact ⟨hw, hn⟩
theorem FailInv.repl {n i : Nat} {t : Tp} (h : FailInv n i t) (x : UInt8) :
    ((t.repl [x]).1 = if i < n then 0 else 11) ∧ FailInv n (i + 1) (t.repl [x]).2 := by
  have h0 := h
  obtain ⟨h1, h2, h3, _⟩ := h0
  unfold Tp.repl
  simp only [List.length_cons, List.length_nil]
  rcases h.write (k := 0 + 1) (by omega) with ⟨hi, hw⟩ | ⟨hi, hw, hn⟩
  · rw [hw, if_pos rfl, if_pos hi]
    obtain ⟨h5, h6⟩ := h3 (by omega)
    exact ⟨rfl, h1, by simp, fun _ => ⟨h5, by show t.left - 1 = _; omega⟩, fun h => by omega⟩
  · rw [if_neg (by omega), if_neg (by omega)]
    exact ⟨hw, hn⟩
theorem FailInv.start (n : Nat) : FailInv n 0 (fail ⟨[], [], 1000, -1, false⟩ n) :=
  ⟨rfl, by simp [fail], fun _ => ⟨rfl, by simp [fail]⟩, fun h => by omega⟩
end Tp
end Go.Proofs.YtmigninibdecmaaGreat
namespace Go.Proofs.YtmigninibdecmaaGreat

/-- the records that it has, whether a call of it was answered with ErrDown, and its tape -/
structure Bks where
  l : List (List UInt8)
  dead : Bool
  t : Tp
def fits (l : List (List UInt8)) : Prop := ∀ r ∈ l, fitR r
instance (l : List (List UInt8)) : Decidable (fits l) := by unfold fits fitR; exact inferInstance
namespace Bks
def add (b : Bks) (list : List (List UInt8)) : Int × Bks :=
  if b.dead = true then (11, b) else if ¬ fits list then (6, b) else
  if (b.t.add (lay list)).1 ≠ 0 then ((b.t.add (lay list)).1, { b with t := (b.t.add (lay list)).2, dead := decide ((b.t.add (lay list)).1 = 11) })
  else if (b.t.add (lay list)).2.sync.1 ≠ 0 then ((b.t.add (lay list)).2.sync.1, { b with t := (b.t.add (lay list)).2.sync.2, dead := decide ((b.t.add (lay list)).2.sync.1 = 11) })
  else (0, ⟨b.l ++ list, false, (b.t.add (lay list)).2.sync.2⟩)
def reset (b : Bks) (list : List (List UInt8)) : Int × Bks :=
  if b.dead = true then (11, b) else if ¬ fits list then (6, b) else
  if (b.t.repl (lay list)).1 ≠ 0 then ((b.t.repl (lay list)).1, { b with t := (b.t.repl (lay list)).2, dead := decide ((b.t.repl (lay list)).1 = 11) })
  else (0, ⟨list, false, (b.t.repl (lay list)).2⟩)
/-- the bytes of a tape -/
def all (t : Tp) : List UInt8 := t.sure ++ t.loose
/-- Open: the error, the book, the tape behind it -/
def opens (t : Tp) : Int × Bks :=
  if t.down = true then (11, ⟨[], false, t⟩) else
  if (readAns (all t)).2 < (all t).length then
    (if (t.repl ((all t).take (readAns (all t)).2)).1 ≠ 0 then ((t.repl ((all t).take (readAns (all t)).2)).1, ⟨[], false, (t.repl ((all t).take (readAns (all t)).2)).2⟩) else (0, ⟨(readAns (all t)).1, false, (t.repl ((all t).take (readAns (all t)).2)).2⟩))
  else (0, ⟨(readAns (all t)).1, false, t⟩)

/-- what BookPlays knows -/
def Inv (now cut : List (List UInt8)) (b : Bks) : Prop :=
  fits now ∧ b.t.sure = lay now ∧ b.t.room = 262144 ∧ b.t.Ok ∧
    ((b.dead = false ∧ b.l = now ∧ b.t.down = false ∧ b.t.loose = []) ∨
     (b.dead = true ∧ b.t.down = true ∧ (b.t.loose = [] ∨ ∃ list, fits list ∧ b.t.loose = lay list ∧ cut = now ++ list)))

theorem write_not_down {t : Tp} (hd : t.down = false) (n : Nat) (h : (t.write n).1 ≠ 11) : (t.write n).2.down = false ∧ ((t.write n).1 = 10 → (t.write n).2 = t ∧ (n : Int) > t.room) := by
  unfold Tp.write at h ⊢
  rw [if_neg (by simp [hd])] at h ⊢
  split
  · rename_i h1; exact ⟨hd, fun _ => ⟨rfl, h1⟩⟩
  · rename_i h1
    rw [if_neg h1] at h
    split
    · rename_i h2; rw [if_pos h2] at h; exact absurd rfl h
    · split
      · exact ⟨hd, fun h => by simp at h⟩
      · exact ⟨hd, fun h => by simp at h⟩
theorem write_down {t : Tp} (hd : t.down = false) (n : Nat) (h : (t.write n).1 = 11) : (t.write n).2 = { t with down := true } := by
  unfold Tp.write at h ⊢
  rw [if_neg (by simp [hd])] at h ⊢
  split
  · rename_i h1; rw [if_pos h1] at h; simp at h
  · rename_i h1
    rw [if_neg h1] at h
    split
    · rfl
    · rename_i h2
      rw [if_neg h2] at h
      split at h <;> simp at h
theorem write_err (t : Tp) (n : Nat) : (t.write n).1 = 0 ∨ (t.write n).1 = 10 ∨ (t.write n).1 = 11 := by
  unfold Tp.write
  split
  · exact .inr (.inr rfl)
  · split
    · exact .inr (.inl rfl)
    · split
      · exact .inr (.inr rfl)
      · split <;> exact .inl rfl

/-- Add, of a book that lives -/
theorem add_law {now cut list : List (List UInt8)} {b : Bks} (h : Inv now cut b) (hd : b.dead = false) (hf : fits list) :
    ((b.add list).1 = 11 ∧ (b.add list).2.dead = true ∧ Inv now (now ++ list) (b.add list).2) ∨
    ((b.add list).1 = 0 ∧ (b.add list).2.dead = false ∧ Inv (now ++ list) (now ++ list) (b.add list).2) ∨
    ((b.add list).1 = 10 ∧ (b.add list).2.dead = false ∧ (lay (now ++ list)).length > 262144 ∧ Inv now cut (b.add list).2) := by
  obtain ⟨l, dead, t⟩ := b
  obtain ⟨h1, h2, h3, h4, h5⟩ := h
  simp only at hd h2 h3 h4 h5
  subst hd
  have h5' : l = now ∧ t.down = false ∧ t.loose = [] := by
    rcases h5 with ⟨_, a⟩ | ⟨a, _⟩
    · exact a
    · cases a
  obtain ⟨hl, h6, h7⟩ := h5'
  obtain ⟨n, hn⟩ : ∃ n, n = t.sure.length + t.loose.length + (lay list).length := ⟨_, rfl⟩
  have hadd : t.add (lay list) = if (t.write n).1 = 0 then (0, { (t.write n).2 with loose := t.loose ++ lay list }) else t.write n := by rw [hn]; rfl
  obtain ⟨k1, k2, k3⟩ := Tp.write_keeps t n
  unfold add
  simp only
  rw [if_neg (by simp), if_neg (by simpa using hf)]
  rcases write_err t n with he | he | he
  · rw [hadd, if_pos he]
    simp only [ne_eq, not_true, if_false]
    have hok1 : Tp.Ok { (t.write n).2 with loose := t.loose ++ lay list } := by
      have := Tp.Ok.add h4 (lay list)
      rw [hadd, if_pos he] at this
      exact this
    obtain ⟨g1, _⟩ := write_not_down h6 n (by rw [he]; decide)
    obtain ⟨t1, ht1⟩ : ∃ t1, t1 = { (t.write n).2 with loose := t.loose ++ lay list } := ⟨_, rfl⟩
    rw [← ht1] at hok1 ⊢
    have e1 : t1.sure = lay now := by rw [ht1]; simp only [k1, h2]
    have e2 : t1.loose = lay list := by rw [ht1]; simp only [h7, List.nil_append]
    have e3 : t1.room = 262144 := by rw [ht1]; simp only [k3, h3]
    have e4 : t1.down = false := by rw [ht1]; exact g1
    have hsy : t1.sync = if (t1.write 0).1 = 0 then (0, { (t1.write 0).2 with sure := t1.sure ++ t1.loose, loose := [] }) else t1.write 0 := rfl
    obtain ⟨m1, m2, m3⟩ := Tp.write_keeps t1 0
    rcases write_err t1 0 with he1 | he1 | he1
    · rw [hsy, if_pos he1]
      simp only [not_true, if_false]
      refine .inr (.inl ⟨trivial, trivial, ?_, ?_, ?_, ?_, .inl ⟨rfl, by simp only [hl], ?_, rfl⟩⟩)
      · intro x hx
        rcases List.mem_append.1 hx with hx | hx
        · exact h1 x hx
        · exact hf x hx
      · simp only [e1, e2, lay_append]
      · simp only [m3, e3]
      · have := Tp.Ok.sync hok1
        rw [hsy, if_pos he1] at this
        exact this
      · exact (write_not_down e4 0 (by rw [he1]; decide)).1
    · exfalso
      have := (write_not_down e4 0 (by rw [he1]; decide)).2 he1
      rw [e3] at this
      have h9 := this.2
      omega
    · have hsy2 : t1.sync = t1.write 0 := by rw [hsy, if_neg (by rw [he1]; decide)]
      rw [hsy2, if_pos (by rw [he1]; decide)]
      refine .inl ⟨he1, by simp [he1], h1, ?_, ?_, hok1.write 0, .inr ⟨by simp [he1], ?_, .inr ⟨list, hf, ?_, rfl⟩⟩⟩
      · simp only [m1, e1]
      · simp only [m3, e3]
      · simp only [write_down e4 0 he1]
      · simp only [m2, e2]
  · have hadd2 : t.add (lay list) = t.write n := by rw [hadd, if_neg (by rw [he]; decide)]
    rw [hadd2, if_pos (by rw [he]; decide)]
    obtain ⟨g1, g2⟩ := write_not_down h6 n (by rw [he]; decide)
    obtain ⟨g3, g4⟩ := g2 he
    refine .inr (.inr ⟨he, by simp [he], ?_, h1, ?_, ?_, h4.write n, .inl ⟨by simp [he], hl, g1, ?_⟩⟩)
    · rw [lay_append, List.length_append]
      rw [hn, h2, h7, h3] at g4
      simp only [List.length_nil] at g4
      omega
    · simp only [k1, h2]
    · simp only [k3, h3]
    · simp only [k2, h7]
  · have hadd2 : t.add (lay list) = t.write n := by rw [hadd, if_neg (by rw [he]; decide)]
    rw [hadd2, if_pos (by rw [he]; decide)]
    refine .inl ⟨he, by simp [he], h1, ?_, ?_, h4.write n, .inr ⟨by simp [he], ?_, .inl ?_⟩⟩
    · simp only [k1, h2]
    · simp only [k3, h3]
    · simp only [write_down h6 n he]
    · simp only [k2, h7]
/-- Reset, of a book that lives -/
theorem reset_law {now cut list : List (List UInt8)} {b : Bks} (h : Inv now cut b) (hd : b.dead = false) (hf : fits list) :
    ((b.reset list).1 = 11 ∧ (b.reset list).2.dead = true ∧ Inv now list (b.reset list).2) ∨
    ((b.reset list).1 = 0 ∧ (b.reset list).2.dead = false ∧ Inv list list (b.reset list).2) ∨
    ((b.reset list).1 = 10 ∧ (b.reset list).2.dead = false ∧ (lay list).length > 262144 ∧ Inv now cut (b.reset list).2) := by
  obtain ⟨l, dead, t⟩ := b
  obtain ⟨h1, h2, h3, h4, h5⟩ := h
  simp only at hd h2 h3 h4 h5
  subst hd
  have h5' : l = now ∧ t.down = false ∧ t.loose = [] := by
    rcases h5 with ⟨_, a⟩ | ⟨a, _⟩
    · exact a
    · cases a
  obtain ⟨hl, h6, h7⟩ := h5'
  obtain ⟨n, hn⟩ : ∃ n, n = (lay list).length := ⟨_, rfl⟩
  have hrep : t.repl (lay list) = if (t.write n).1 = 0 then (0, { (t.write n).2 with sure := lay list, loose := [] }) else t.write n := by rw [hn]; rfl
  obtain ⟨k1, k2, k3⟩ := Tp.write_keeps t n
  unfold reset
  simp only
  rw [if_neg (by simp), if_neg (by simpa using hf)]
  rcases write_err t n with he | he | he
  · rw [hrep, if_pos he]
    simp only [ne_eq, not_true, if_false]
    refine .inr (.inl ⟨trivial, trivial, hf, rfl, ?_, ?_, .inl ⟨rfl, rfl, ?_, rfl⟩⟩)
    · simp only [k3, h3]
    · have := Tp.Ok.repl h4 (lay list)
      rw [hrep, if_pos he] at this
      exact this
    · exact (write_not_down h6 n (by rw [he]; decide)).1
  · have hrep2 : t.repl (lay list) = t.write n := by rw [hrep, if_neg (by rw [he]; decide)]
    rw [hrep2, if_pos (by rw [he]; decide)]
    obtain ⟨g1, g2⟩ := write_not_down h6 n (by rw [he]; decide)
    obtain ⟨g3, g4⟩ := g2 he
    refine .inr (.inr ⟨he, by simp [he], ?_, h1, ?_, ?_, h4.write n, .inl ⟨by simp [he], hl, g1, ?_⟩⟩)
    · rw [hn, h3] at g4; omega
    · simp only [k1, h2]
    · simp only [k3, h3]
    · simp only [k2, h7]
  · have hrep2 : t.repl (lay list) = t.write n := by rw [hrep, if_neg (by rw [he]; decide)]
    rw [hrep2, if_pos (by rw [he]; decide)]
    refine .inl ⟨he, by simp [he], h1, ?_, ?_, h4.write n, .inr ⟨by simp [he], ?_, .inl ?_⟩⟩
    · simp only [k1, h2]
    · simp only [k3, h3]
    · simp only [write_down h6 n he]
    · simp only [k2, h7]
theorem fail_law {now cut : List (List UInt8)} {b : Bks} (h : Inv now cut b) (n : Int) : Inv now cut { b with t := b.t.fail n } := h

theorem kept_cutAt (l : List UInt8) (keep : Int) (turn : UInt8) : ∃ k, Tp.kept l keep turn = cutAt l k turn := by
  unfold Tp.kept
  split
  · exact ⟨l.length, by unfold cutAt; rw [List.take_length, List.getElem?_eq_none (Nat.le_refl _)]; simp⟩
  · refine ⟨keep.toNat, ?_⟩
    unfold cutAt
    split <;> simp
/-- a crash, and Open: what is there is what was, or with it some first ones of what was cut off -/
theorem crash_law {now cut : List (List UInt8)} {b : Bks} (h : Inv now cut b) (keep : Int) (turn : UInt8) :
    (opens (b.t.crash keep turn)).1 = 0 ∧ (opens (b.t.crash keep turn)).2.dead = false ∧ Inv (opens (b.t.crash keep turn)).2.l (opens (b.t.crash keep turn)).2.l (opens (b.t.crash keep turn)).2 ∧
      ((opens (b.t.crash keep turn)).2.l = now ∨ (b.dead = true ∧ ∃ list j, cut = now ++ list ∧ j ≤ list.length ∧ (opens (b.t.crash keep turn)).2.l = now ++ list.take j)) := by
  obtain ⟨l, dead, t⟩ := b
  obtain ⟨h1, h2, h3, h4, h5⟩ := h
  simp only at h2 h3 h4 h5 ⊢
  -- what is there, and what is left behind it
  have key : ∃ x s, fits x ∧ t.sure ++ Tp.kept t.loose keep turn = lay x ++ s ∧ oneAns s = none ∧ (x = now ∨ (dead = true ∧ ∃ list j, cut = now ++ list ∧ j ≤ list.length ∧ x = now ++ list.take j)) := by
    have hnil : t.loose = [] → ∃ x s, fits x ∧ t.sure ++ Tp.kept t.loose keep turn = lay x ++ s ∧ oneAns s = none ∧ (x = now ∨ (dead = true ∧ ∃ list j, cut = now ++ list ∧ j ≤ list.length ∧ x = now ++ list.take j)) := fun hz => by
      refine ⟨now, [], h1, ?_, one_nil, .inl rfl⟩
      rw [h2, hz]
      have : Tp.kept [] keep turn = [] := by
        have := Tp.kept_len [] keep turn
        exact List.eq_nil_of_length_eq_zero (by simpa using this)
      rw [this]
    rcases h5 with ⟨_, _, _, h7⟩ | ⟨h6, _, h7 | ⟨list, hf, h7, h8⟩⟩
    · exact hnil h7
    · exact hnil h7
    · obtain ⟨k, hk⟩ := kept_cutAt t.loose keep turn
      obtain ⟨j, s, hj, hc, hs⟩ := cut_lay list k turn hf
      refine ⟨now ++ list.take j, s, ?_, ?_, hs, .inr ⟨h6, list, j, h8, hj, rfl⟩⟩
      · intro x hx
        rcases List.mem_append.1 hx with hx | hx
        · exact h1 x hx
        · exact hf x (List.mem_of_mem_take hx)
      · rw [hk, h7, hc, h2, lay_append, List.append_assoc]
  obtain ⟨x, s, hx, he, hs, hcase⟩ := key
  have hall : all (t.crash keep turn) = lay x ++ s := by unfold all Tp.crash; simp only [List.append_nil]; exact he
  have hrd : readAns (all (t.crash keep turn)) = (x, (lay x).length) := by rw [hall]; exact read_lay x s hx hs
  have hok := h4.crash keep turn
  have hrm : (t.crash keep turn).room = 262144 := h3
  unfold opens
  rw [hrd]
  simp only
  rw [if_neg (by simp [Tp.crash])]
  by_cases hlt : (lay x).length < (all (t.crash keep turn)).length
  · rw [if_pos hlt]
    have htk : (all (t.crash keep turn)).take (lay x).length = lay x := by rw [hall, List.take_left]
    rw [htk]
    have hroom : ((lay x).length : Int) ≤ (t.crash keep turn).room := by
      obtain ⟨_, _, h9⟩ := hok
      have : (all (t.crash keep turn)).length = (t.crash keep turn).sure.length + (t.crash keep turn).loose.length := by unfold all; rw [List.length_append]
      omega
    have hw := Tp.write_live (t := t.crash keep turn) rfl (by show (-1 : Int) < 0; omega) (lay x).length
    rw [if_neg (by omega)] at hw
    have hrep : (t.crash keep turn).repl (lay x) = (0, { t.crash keep turn with sure := lay x, loose := [] }) := by
      unfold Tp.repl
      rw [hw]
      rfl
    have hokr := hok.repl (lay x)
    rw [hrep] at hokr ⊢
    simp only [ne_eq, not_true, if_false]
    exact ⟨trivial, trivial, ⟨hx, rfl, hrm, hokr, .inl ⟨rfl, rfl, rfl, rfl⟩⟩, hcase⟩
  · rw [if_neg hlt]
    simp only
    have hs0 : s = [] := by
      rw [hall, List.length_append] at hlt
      exact List.eq_nil_of_length_eq_zero (by omega)
    refine ⟨trivial, trivial, ⟨hx, ?_, hrm, hok, .inl ⟨rfl, rfl, rfl, rfl⟩⟩, hcase⟩
    subst hs0
    rw [List.append_nil] at hall
    unfold all at hall
    rw [show (t.crash keep turn).loose = [] from rfl, List.append_nil] at hall
    exact hall
end Bks
end Go.Proofs.YtmigninibdecmaaGreat
namespace Go.Proofs.YtmigninibdecmaaGreat

/-- a record of a chest -/
structure Rc where
  kind : Int
  epoch : Int
  base : Int
  known : Int
  list : List Bat
def Rc.nums (r : Rc) : List Int := [r.kind, r.epoch, r.base, r.known]
def Rc.bats (l : List Bat) : List UInt8 := l.flatMap fun b => encT (batB b)
def Rc.B (r : Rc) : List UInt8 := encT (encs r.nums) ++ Rc.bats r.list
structure Rc.Ok (r : Rc) : Prop where
  ki : 0 ≤ r.kind ∧ r.kind < 4611686018427387904
  ep : 0 ≤ r.epoch ∧ r.epoch < 4611686018427387904
  ba : 0 ≤ r.base ∧ r.base < 4611686018427387904
  kn : 0 ≤ r.known ∧ r.known < 4611686018427387904
  all : ∀ b ∈ r.list, b.Tiny
  len : r.list.length ≤ 24
theorem Rc.mkOk {k e b n : Int} {l : List Bat} (hk : 0 ≤ k ∧ k < 4611686018427387904) (he : 0 ≤ e ∧ e < 4611686018427387904) (hb : 0 ≤ b ∧ b < 4611686018427387904) (hn : 0 ≤ n ∧ n < 4611686018427387904) (ha : ∀ x ∈ l, x.Tiny) (hl : l.length ≤ 24) : (⟨k, e, b, n, l⟩ : Rc).Ok := ⟨hk, he, hb, hn, ha, hl⟩
theorem in0 : 0 ≤ (0 : Int) ∧ (0 : Int) < 4611686018427387904 := by decide
theorem in1 : 0 ≤ (1 : Int) ∧ (1 : Int) < 4611686018427387904 := by decide
theorem in2 : 0 ≤ (2 : Int) ∧ (2 : Int) < 4611686018427387904 := by decide
theorem in3 : 0 ≤ (3 : Int) ∧ (3 : Int) < 4611686018427387904 := by decide
theorem in4 : 0 ≤ (4 : Int) ∧ (4 : Int) < 4611686018427387904 := by decide
theorem noTiny : ∀ x ∈ ([] : List Bat), x.Tiny := fun x hx => by cases hx
theorem Rc.bats_nil : Rc.bats [] = [] := rfl
theorem Rc.bats_app (a b : List Bat) : Rc.bats (a ++ b) = Rc.bats a ++ Rc.bats b := by simp [Rc.bats]
theorem Rc.bats_one (b : Bat) : Rc.bats [b] = encT (batB b) := by simp [Rc.bats]
theorem Rc.Ok.lt {r : Rc} (h : r.Ok) : ∀ n ∈ r.nums, n < 9223372036854775808 := by
  have h1 := h.ki.2; have h2 := h.ep.2; have h3 := h.ba.2; have h4 := h.kn.2
  intro n hn
  simp only [Rc.nums, List.mem_cons, List.not_mem_nil, or_false] at hn
  rcases hn with rfl | rfl | rfl | rfl <;> omega
theorem Rc.Ok.ans {r : Rc} (h : r.Ok) : numsAns r.nums = (encs r.nums, 0) := by
  have h1 := h.ki.1; have h2 := h.ep.1; have h3 := h.ba.1; have h4 := h.kn.1
  unfold numsAns
  rw [if_neg (by simp [Rc.nums]), if_neg]
  simp only [Rc.nums, List.any_cons, List.any_nil, Bool.or_false, Bool.or_eq_true, decide_eq_true_eq]
  omega
theorem Rc.Ok.head {r : Rc} (h : r.Ok) : (encs r.nums).length ≤ 36 := by
  have := encs_len r.nums h.lt
  simpa [Rc.nums] using this
theorem encT_small {l : List UInt8} (h : l.length ≤ 127) : (encT l).length = 1 + l.length := by
  unfold encT
  rw [List.length_append, enc_small h]
  rfl
theorem Rc.bats_len : ∀ (l : List Bat), (∀ b ∈ l, b.Tiny) → (Rc.bats l).length ≤ 81 * l.length
  | [], _ => by simp [Rc.bats]
  | b :: l, h => by
    have h1 := Rc.bats_len l (fun x hx => h x (by simp [hx]))
    have h2 := (h b (by simp)).len
    have h3 := encT_small (l := batB b) (by omega)
    have e : Rc.bats (b :: l) = encT (batB b) ++ Rc.bats l := by simp [Rc.bats]
    rw [e, List.length_append, List.length_cons]
    omega
theorem Rc.Ok.size {r : Rc} (h : r.Ok) : r.B.length ≤ 37 + 81 * r.list.length := by
  have h1 := h.head
  have h2 := encT_small (l := encs r.nums) (by omega)
  have h3 := Rc.bats_len r.list h.all
  unfold Rc.B
  rw [List.length_append]
  omega
theorem Rc.Ok.fit {r : Rc} (h : r.Ok) : fitR r.B := by
  have h1 := h.size; have h2 := h.len
  unfold fitR
  omega
theorem Rc.Ok.laid {r : Rc} (h : r.Ok) : (recB r.B).length ≤ 43 + 81 * r.list.length := by
  have h1 := h.size; have h2 := h.len
  rw [recB_len]
  have := enc_len 1 (r.B.length + 4) (by omega)
  omega
theorem lay_len : ∀ (l : List Rc) (k : Nat), (∀ r ∈ l, r.Ok ∧ r.list.length ≤ k) → (lay (l.map (·.B))).length ≤ (43 + 81 * k) * l.length
  | [], _, _ => by simp [lay]
  | r :: l, k, h => by
    have h1 := lay_len l k (fun x hx => h x (by simp [hx]))
    obtain ⟨h2, h3⟩ := h r (by simp)
    have h4 := h2.laid
    rw [List.map_cons, lay_cons, List.length_append, List.length_cons, Nat.mul_add, Nat.mul_one]
    omega
-- they tell apart
theorem encT_inj {a b s t : List UInt8} (ha : a.length ≤ 65536) (hb : b.length ≤ 65536) (h : encT a ++ s = encT b ++ t) : a = b ∧ s = t := by
  have h1 := textAns_enc ha s
  have h2 := textAns_enc hb t
  rw [h, h2] at h1
  have e : b = a := congrArg Prod.fst h1
  subst e
  exact ⟨rfl, List.append_cancel_left h⟩
theorem enc_app_inj {a b : Nat} {s t : List UInt8} (ha : a < 9223372036854775808) (hb : b < 9223372036854775808) (h : enc a ++ s = enc b ++ t) : a = b ∧ s = t := by
  have h1 := numAns_enc ha s
  have h2 := numAns_enc hb t
  rw [h, h2] at h1
  have e : b = a := congrArg Prod.fst h1
  subst e
  exact ⟨rfl, List.append_cancel_left h⟩
theorem Rc.bats_inj : ∀ (l m : List Bat), (∀ b ∈ l, b.Tiny) → (∀ b ∈ m, b.Tiny) → Rc.bats l = Rc.bats m → l = m
  | [], [], _, _, _ => rfl
  | [], b :: m, _, _, h => by
    have h2 := congrArg List.length h
    have e : Rc.bats (b :: m) = encT (batB b) ++ Rc.bats m := by simp [Rc.bats]
    have := enc_pos (batB b).length
    rw [e, List.length_append, encT, List.length_append] at h2
    simp only [Rc.bats_nil, List.length_nil] at h2
    omega
  | b :: l, [], _, _, h => by
    have h2 := congrArg List.length h
    have e : Rc.bats (b :: l) = encT (batB b) ++ Rc.bats l := by simp [Rc.bats]
    have := enc_pos (batB b).length
    rw [e, List.length_append, encT, List.length_append] at h2
    simp only [Rc.bats_nil, List.length_nil] at h2
    omega
  | b :: l, c :: m, hl, hm, h => by
    have e1 : Rc.bats (b :: l) = encT (batB b) ++ Rc.bats l := by simp [Rc.bats]
    have e2 : Rc.bats (c :: m) = encT (batB c) ++ Rc.bats m := by simp [Rc.bats]
    rw [e1, e2] at h
    have tb := hl b (by simp)
    have tc := hm c (by simp)
    have k1 := tb.len; have k2 := tc.len
    obtain ⟨h1, h2⟩ := encT_inj (by omega) (by omega) h
    have f1 := tb.fits; have f2 := tc.fits
    have g1 := get_putB tb.sound ⟨by omega, by omega, by omega⟩
    have g2 := get_putB tc.sound ⟨by omega, by omega, by omega⟩
    rw [h1, g2] at g1
    have e : c = b := congrArg Prod.fst g1
    subst e
    rw [Rc.bats_inj l m (fun x hx => hl x (by simp [hx])) (fun x hx => hm x (by simp [hx])) h2]
theorem Rc.B_inj {r s : Rc} (hr : r.Ok) (hs : s.Ok) (h : r.B = s.B) : r.base = s.base ∧ r.list = s.list := by
  have k1 := hr.head; have k2 := hs.head
  obtain ⟨h1, h2⟩ := encT_inj (by omega) (by omega) h
  refine ⟨?_, Rc.bats_inj _ _ hr.all hs.all h2⟩
  have e : ∀ r : Rc, encs r.nums = enc r.kind.toNat ++ (enc r.epoch.toNat ++ (enc r.base.toNat ++ enc r.known.toNat)) := fun r => by simp [encs, Rc.nums]
  rw [e, e] at h1
  have a1 := hr.ki; have a2 := hr.ep; have a3 := hr.ba
  have b1 := hs.ki; have b2 := hs.ep; have b3 := hs.ba
  have q1 := (enc_app_inj (by omega) (by omega) h1).2
  have q2 := (enc_app_inj (by omega) (by omega) q1).2
  have q3 := (enc_app_inj (by omega) (by omega) q2).1
  omega

/-- what stands behind a version in a log -/
def behindP (v : Int) (l : List Bat) : List Bat := l.dropWhile fun b => b.version ≤ v
theorem behindP_filter : ∀ {a : Int} {l : List Bat} (v : Int), chainB a l → Ch.behind v l = behindP v l
  | _, [], _, _ => rfl
  | a, b :: l, v, ⟨_, _, h3⟩ => by
    unfold Ch.behind behindP
    by_cases h : v < b.version
    · rw [List.filter_eq_self.2, List.dropWhile_cons, if_neg (by simpa using h)]
      intro x hx
      rcases List.mem_cons.1 hx with rfl | hx
      · simpa using h
      · have := (chainB_mem h3 x hx).1
        simp only [decide_eq_true_eq]
        omega
    · rw [List.filter_cons, if_neg (by simpa using h), List.dropWhile_cons, if_pos (by simp only [decide_eq_true_eq]; omega)]
      exact behindP_filter v h3
theorem behindP_chain : ∀ {a : Int} {l : List Bat} (v : Int), chainB a l → chainB (topB a (l.takeWhile fun b => b.version ≤ v)) (behindP v l)
  | _, [], _, _ => trivial
  | a, b :: l, v, ⟨h1, h2, h3⟩ => by
    unfold behindP
    by_cases h : b.version ≤ v
    · rw [List.takeWhile_cons, if_pos (by simpa using h), List.dropWhile_cons, if_pos (by simpa using h), topB_cons]
      exact behindP_chain v h3
    · rw [List.takeWhile_cons, if_neg (by simpa using h), List.dropWhile_cons, if_neg (by simpa using h), topB_nil]
      exact ⟨h1, h2, h3⟩
theorem behindP_len (v : Int) (l : List Bat) : (behindP v l).length ≤ l.length := (List.dropWhile_sublist _).length_le
theorem behindP_mem {v : Int} {l : List Bat} {b : Bat} (h : b ∈ behindP v l) : b ∈ l := (List.dropWhile_sublist _).subset h
theorem behindP_drop (v : Int) (l : List Bat) : behindP v l = l.drop (l.takeWhile fun b => b.version ≤ v).length := by
  unfold behindP
  induction l with
  | nil => rfl
  | cons b l ih =>
    by_cases h : b.version ≤ v
    · rw [List.takeWhile_cons, if_pos (by simpa using h), List.dropWhile_cons, if_pos (by simpa using h), List.length_cons, List.drop_succ_cons]
      exact ih
    · rw [List.takeWhile_cons, if_neg (by simpa using h), List.dropWhile_cons, if_neg (by simpa using h)]
      rfl

structure Lg.Ok (g : Lg) : Prop where
  ep : 1 ≤ g.epoch ∧ g.epoch < 4611686018427387904
  ba : 0 ≤ g.base ∧ g.base < 4611686018427387904
  go : 0 ≤ g.gone ∧ g.gone < 4611686018427387904
  kn : 0 ≤ g.known ∧ g.known < 4611686018427387904
  fi : ∀ b ∈ g.first, b.Tiny
  he : ∀ b ∈ g.held, b.Tiny
  fl : g.first.length ≤ 24
  hl : g.held.length ≤ 24
  ch : chainB g.gone g.held
  kb : ∀ b ∈ g.held, b.known ≤ g.known
theorem knownB_ge : ∀ (k : Int) (l : List Bat), k ≤ knownB k l ∧ ∀ b ∈ l, b.known ≤ knownB k l
  | k, [] => ⟨Int.le_refl _, fun b hb => by cases hb⟩
  | k, x :: l => by
    have e : knownB k (x :: l) = knownB (if k < x.known then x.known else k) l := rfl
    obtain ⟨h1, h2⟩ := knownB_ge (if k < x.known then x.known else k) l
    rw [e]
    have h3 : k ≤ (if k < x.known then x.known else k) ∧ x.known ≤ (if k < x.known then x.known else k) := by split <;> omega
    refine ⟨by omega, fun b hb => ?_⟩
    rcases List.mem_cons.1 hb with rfl | hb
    · omega
    · exact h2 b hb
theorem knownB_same : ∀ (k : Int) (l : List Bat), (∀ b ∈ l, b.known ≤ k) → knownB k l = k
  | k, [], _ => rfl
  | k, x :: l, h => by
    have e : knownB k (x :: l) = knownB (if k < x.known then x.known else k) l := rfl
    have h1 := h x (by simp)
    rw [e, if_neg (by omega)]
    exact knownB_same k l (fun b hb => h b (by simp [hb]))
theorem knownB_lt : ∀ (k : Int) (l : List Bat), k < 4611686018427387904 → (∀ b ∈ l, b.Tiny) → knownB k l < 4611686018427387904
  | k, [], hk, _ => hk
  | k, x :: l, hk, h => by
    have e : knownB k (x :: l) = knownB (if k < x.known then x.known else k) l := rfl
    rw [e]
    refine knownB_lt _ l ?_ (fun b hb => h b (by simp [hb]))
    split
    · exact (h x (by simp)).fits.2.2
    · exact hk
def Lg.row (g : Lg) : Rc := ⟨2, g.epoch, g.base, 0, g.first⟩
def Lg.recs (g : Lg) : List Rc := (g.row :: if g.base < g.gone then [⟨4, g.epoch, g.gone, g.known, []⟩] else []) ++ (behindP (topB g.base g.first) g.held).map fun b => ⟨3, g.epoch, 0, 0, [b]⟩
theorem Lg.Ok.row {g : Lg} (h : g.Ok) : g.row.Ok := Rc.mkOk in2 ⟨by have := h.ep.1; omega, h.ep.2⟩ h.ba in0 h.fi h.fl
theorem Lg.Ok.recs {g : Lg} (h : g.Ok) : ∀ r ∈ g.recs, r.Ok := by
  intro r hr
  have he : 0 ≤ g.epoch := by have := h.ep.1; omega
  unfold Lg.recs at hr
  rcases List.mem_append.1 hr with hr | hr
  · rcases List.mem_cons.1 hr with rfl | hr
    · exact h.row
    · split at hr
      · rw [List.mem_singleton.1 hr]
        exact Rc.mkOk in4 ⟨he, h.ep.2⟩ h.go h.kn noTiny (by simp)
      · cases hr
  · obtain ⟨b, hb, rfl⟩ := List.mem_map.1 hr
    refine Rc.mkOk in3 ⟨he, h.ep.2⟩ in0 in0 (fun x hx => ?_) (by simp)
    rw [List.mem_singleton.1 hx]
    exact h.he b (behindP_mem hb)
/-- all records: the lock's, the log's -/
def recs1 (lock : Int) (g : Lg) : List Rc := (if 0 < lock then [⟨1, lock, 0, 0, []⟩] else []) ++ g.recs
theorem lock_ok {lock : Int} (h : 0 ≤ lock ∧ lock < 4611686018427387904) : (⟨1, lock, 0, 0, []⟩ : Rc).Ok := Rc.mkOk in1 h in0 in0 noTiny (by simp)
theorem recs1_ok {lock : Int} {g : Lg} (hl : 0 ≤ lock ∧ lock < 4611686018427387904) (h : g.Ok) : ∀ r ∈ recs1 lock g, r.Ok := by
  intro r hr
  unfold recs1 at hr
  rcases List.mem_append.1 hr with hr | hr
  · split at hr
    · rw [List.mem_singleton.1 hr]
      exact lock_ok hl
    · cases hr
  · exact h.recs r hr
theorem recs1_fits {lock : Int} {g : Lg} (hl : 0 ≤ lock ∧ lock < 4611686018427387904) (h : g.Ok) : fits ((recs1 lock g).map (·.B)) := by
  intro r hr
  obtain ⟨x, hx, rfl⟩ := List.mem_map.1 hr
  exact (recs1_ok hl h x hx).fit
theorem recs1_len {lock : Int} {g : Lg} (h : g.Ok) : (recs1 lock g).length ≤ 27 := by
  have h1 := behindP_len (topB g.base g.first) g.held
  have h2 := h.hl
  unfold recs1 Lg.recs
  rw [List.length_append, List.length_append, List.length_cons, List.length_map]
  have e1 : ∀ (p : Prop) [Decidable p] (x : Rc), (if p then [x] else []).length ≤ 1 := fun p _ x => by split <;> simp
  have a1 := e1 (0 < lock) ⟨1, lock, 0, 0, []⟩
  have a2 := e1 (g.base < g.gone) ⟨4, g.epoch, g.gone, g.known, []⟩
  omega
theorem recs1_size {lock : Int} {g : Lg} (hl : 0 ≤ lock ∧ lock < 4611686018427387904) (h : g.Ok) : (lay ((recs1 lock g).map (·.B))).length ≤ 5100 := by
  have h1 := behindP_len (topB g.base g.first) g.held
  have h2 := h.hl
  have h3 := h.fl
  unfold recs1 Lg.recs
  simp only [List.map_append, List.map_cons, lay_append, lay_cons, List.length_append]
  have a1 : (lay (List.map (·.B) (if 0 < lock then [(⟨1, lock, 0, 0, []⟩ : Rc)] else []))).length ≤ 43 := by
    split
    · have := (lock_ok hl).laid
      simpa [lay] using this
    · simp [lay]
  have a2 := h.row.laid
  have e2 : g.row.list = g.first := rfl
  rw [e2] at a2
  have a3 : (lay (List.map (·.B) (if g.base < g.gone then [(⟨4, g.epoch, g.gone, g.known, []⟩ : Rc)] else []))).length ≤ 43 := by
    split
    · rename_i hb
      have := (h.recs ⟨4, g.epoch, g.gone, g.known, []⟩ (by unfold Lg.recs; rw [if_pos hb]; simp)).laid
      simpa [lay] using this
    · simp [lay]
  have a4 := lay_len ((behindP (topB g.base g.first) g.held).map fun b => (⟨3, g.epoch, 0, 0, [b]⟩ : Rc)) 1 (fun r hr => ⟨h.recs r (by unfold Lg.recs; exact List.mem_append.2 (.inr hr)), by obtain ⟨b, _, rfl⟩ := List.mem_map.1 hr; simp⟩)
  rw [List.length_map] at a4
  omega

/-- its book: what it holds, and how much room there is left -/
structure BkOk (h : Ch) (b : Bks) : Prop where
  dead : b.dead = false
  down : b.t.down = false
  loose : b.t.loose = []
  left : b.t.left = -1
  room : b.t.room = h.room
  big : 10000 ≤ h.room ∧ h.room ≤ 1048576
  sure : b.t.sure.length ≤ 5100 + 100 * h.units
  num : b.l.length ≤ 100 + h.units
theorem BkOk.of {h h' : Ch} {b : Bks} (k : BkOk h b) (hr : h'.room = h.room) (hu : h.units ≤ h'.units) : BkOk h' b :=
  ⟨k.dead, k.down, k.loose, k.left, k.room.trans hr.symm, hr ▸ k.big, by have := k.sure; omega, by have := k.num; omega⟩
theorem BkOk.add {h h' : Ch} {b : Bks} (k : BkOk h b) (r : Rc) (hr : r.Ok) (n : Nat) (hn : 1 + r.list.length ≤ n) (hs : h.Spare n) (hr' : h'.room = h.room) (hu : h'.units = h.units + n) : (b.add [r.B]).1 = 0 ∧ BkOk h' (b.add [r.B]).2 := by
  obtain ⟨l, dead, sure, loose, room, left, down⟩ := b
  obtain ⟨k1, k2, k3, k4, k5, k6, k7, k8⟩ := k
  simp only at k1 k2 k3 k4 k5 k7 k8
  subst k1 k2 k3 k4 k5
  have h1 := hr.laid
  have h2 : fits [r.B] := fun x hx => by rw [List.mem_singleton.1 hx]; exact hr.fit
  have h3 : (lay [r.B]).length = (recB r.B).length := by simp [lay]
  unfold Ch.Spare at hs
  have e1 : (Tp.add ⟨sure, [], h.room, -1, false⟩ (lay [r.B])) = (0, ⟨sure, [] ++ lay [r.B], h.room, -1, false⟩) := by
    have hw := Tp.write_live (t := ⟨sure, [], h.room, -1, false⟩) rfl (by show (-1 : Int) < 0; omega) (sure.length + 0 + (lay [r.B]).length)
    rw [if_neg (by show ¬ _ > h.room; omega)] at hw
    unfold Tp.add
    simp only [List.length_nil]
    rw [hw]
    rfl
  have e2 : (Tp.sync ⟨sure, [] ++ lay [r.B], h.room, -1, false⟩) = (0, ⟨sure ++ lay [r.B], [], h.room, -1, false⟩) := by
    have hw := Tp.write_live (t := ⟨sure, [] ++ lay [r.B], h.room, -1, false⟩) rfl (by show (-1 : Int) < 0; omega) 0
    rw [if_neg (by show ¬ _ > h.room; omega)] at hw
    unfold Tp.sync
    simp only
    rw [hw]
    rfl
  have e3 : Bks.add ⟨l, false, ⟨sure, [], h.room, -1, false⟩⟩ [r.B] = (0, ⟨l ++ [r.B], false, ⟨sure ++ lay [r.B], [], h.room, -1, false⟩⟩) := by
    unfold Bks.add
    simp only
    rw [if_neg (by decide), if_neg (by simpa using h2), e1]
    simp only
    rw [if_neg (by decide), e2]
    simp only
    rw [if_neg (by decide)]
  rw [e3]
  refine ⟨rfl, rfl, rfl, rfl, rfl, hr'.symm, by rw [hr']; exact k6, ?_, ?_⟩
  · show (sure ++ lay [r.B]).length ≤ _
    rw [List.length_append, h3]
    omega
  · show (l ++ [r.B]).length ≤ _
    rw [List.length_append, List.length_singleton]
    omega
theorem BkOk.reset {h h' : Ch} {b : Bks} (k : BkOk h b) (lock : Int) (g : Lg) (hl : 0 ≤ lock ∧ lock < 4611686018427387904) (hg : g.Ok) (hr' : h'.room = h.room) : (b.reset ((recs1 lock g).map (·.B))).1 = 0 ∧ BkOk h' (b.reset ((recs1 lock g).map (·.B))).2 := by
  obtain ⟨l, dead, sure, loose, room, left, down⟩ := b
  obtain ⟨k1, k2, k3, k4, k5, k6, k7, k8⟩ := k
  simp only at k1 k2 k3 k4 k5 k7 k8
  subst k1 k2 k3 k4 k5
  have h1 := recs1_size hl hg
  have h2 := recs1_fits hl hg
  have h3 := recs1_len (lock := lock) hg
  have h4 : ((recs1 lock g).map (·.B)).length ≤ 27 := by rw [List.length_map]; exact h3
  generalize (recs1 lock g).map (·.B) = R at h1 h2 h4
  have e1 : (Tp.repl ⟨sure, [], h.room, -1, false⟩ (lay R)) = (0, ⟨lay R, [], h.room, -1, false⟩) := by
    have hw := Tp.write_live (t := ⟨sure, [], h.room, -1, false⟩) rfl (by show (-1 : Int) < 0; omega) (lay R).length
    rw [if_neg (by show ¬ _ > h.room; omega)] at hw
    unfold Tp.repl
    simp only
    rw [hw]
    rfl
  have e3 : Bks.reset ⟨l, false, ⟨sure, [], h.room, -1, false⟩⟩ R = (0, ⟨R, false, ⟨lay R, [], h.room, -1, false⟩⟩) := by
    unfold Bks.reset
    simp only
    rw [if_neg (by decide), if_neg (by simpa using h2), e1]
    simp only
    rw [if_neg (by decide)]
  rw [e3]
  refine ⟨rfl, rfl, rfl, rfl, rfl, hr'.symm, by rw [hr']; exact k6, ?_, ?_⟩
  · show (lay R).length ≤ _
    omega
  · show R.length ≤ _
    omega
end Go.Proofs.YtmigninibdecmaaGreat

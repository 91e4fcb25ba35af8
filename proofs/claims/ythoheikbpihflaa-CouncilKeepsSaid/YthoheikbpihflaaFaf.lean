/- Records on a tape, as plain lists: laid, read, cut off. The tape as a state, and what the laws of stage 6 need of it: pure, no program. The book as a state, and what BookPlays asks of it: pure. Ballots and vows as values: which is below which, promise, take, best, bytes; pure. A council as a state: a vow, kept on a tape of its own; what each call of it answers; pure. -/
import Derived.Test.YthoheikbpihflaaFab
import Derived.Test.YthoheikbpihflaaFac
namespace Go.Proofs.Ythoheikbpihflaa

/-- one record's bytes; records' bytes -/
def recB (r : List UInt8) : List UInt8 := encT (sealed r)
def lay (l : List (List UInt8)) : List UInt8 := l.flatMap recB
/-- may it be written? -/
def fitR (r : List UInt8) : Prop := r.length ≤ 65532
theorem lay_nil : lay [] = [] := rfl
theorem lay_cons (r : List UInt8) (l : List (List UInt8)) : lay (r :: l) = recB r ++ lay l := by simp [lay]
theorem lay_append (a b : List (List UInt8)) : lay (a ++ b) = lay a ++ lay b := by simp [lay]
theorem slen (r : List UInt8) : (sealed r).length = r.length + 4 := by simp [sealed, four]
theorem recB_len (r : List UInt8) : (recB r).length = (enc (r.length + 4)).length + (r.length + 4) := by simp [recB, encT, slen]
theorem recB_ge (r : List UInt8) : 5 ≤ (recB r).length := by rw [recB_len]; have := enc_pos (r.length + 4); omega
theorem lay_ge (l : List (List UInt8)) : l.length ≤ (lay l).length := by
  induction l with
  | nil => simp
  | cons r l ih => rw [lay_cons, List.length_append, List.length_cons]; have := recB_ge r; omega

/-- the record that bytes begin with, and how many bytes it has -/
def oneAns (b : List UInt8) : Option (List UInt8 × Nat) :=
  if (textAns b).2.2 = 0 ∧ (openAns (textAns b).1).2 = 0 then some ((openAns (textAns b).1).1, (textAns b).2.1) else none
def readGo : Nat → List UInt8 → List (List UInt8) × Nat
  | 0, _ => ([], 0)
  | f + 1, b => match oneAns b with
    | none => ([], 0)
    | some (r, u) => (r :: (readGo f (b.drop u)).1, u + (readGo f (b.drop u)).2)
/-- the records that bytes begin with, and how many bytes these are -/
def readAns (b : List UInt8) : List (List UInt8) × Nat := readGo b.length b

theorem text_enc {n : Nat} (hn : n ≤ 65536) (s t : List UInt8) (hs : s.length = n) : textAns (enc n ++ s ++ t) = (s, (enc n).length + n, 0) := by
  have h := numAns_enc (n := n) (by omega) (s ++ t)
  rw [List.append_assoc]
  unfold textAns
  rw [h]
  simp only
  rw [if_neg (by simp), if_neg (by omega), if_neg (by simp; omega), List.drop_left, ← hs, List.take_left]
theorem text_short {n : Nat} (hn : n ≤ 65536) (s : List UInt8) (hs : s.length < n) : (textAns (enc n ++ s)).2.2 ≠ 0 := by
  have h := numAns_enc (n := n) (by omega) s
  unfold textAns
  rw [h]
  simp only
  rw [if_neg (by simp), if_neg (by omega), if_pos (by simp; omega)]
  simp
theorem one_rec {r : List UInt8} (h : fitR r) (s : List UInt8) : oneAns (recB r ++ s) = some (r, (recB r).length) := by
  have e : textAns (recB r ++ s) = (sealed r, (recB r).length, 0) := by
    have := text_enc (n := (sealed r).length) (by rw [slen]; unfold fitR at h; omega) (sealed r) s rfl
    rw [recB, encT, this]
    simp
  unfold oneAns
  rw [e]
  simp only [openAns_sealed]
  rw [if_pos ⟨trivial, trivial⟩]
theorem one_nil : oneAns [] = none := by decide
theorem readGo_lay : ∀ (l : List (List UInt8)) (s : List UInt8) (f : Nat), (∀ r ∈ l, fitR r) → oneAns s = none → l.length ≤ f → readGo f (lay l ++ s) = (l, (lay l).length)
  | [], s, 0, _, _, _ => rfl
  | [], s, f + 1, _, hs, _ => by rw [lay_nil, List.nil_append, readGo, hs]; rfl
  | r :: l, s, 0, _, _, hf => by simp at hf
  | r :: l, s, f + 1, hl, hs, hf => by
    rw [lay_cons, List.append_assoc, readGo, one_rec (hl r (by simp))]
    simp only
    rw [List.drop_left, readGo_lay l s f (fun x hx => hl x (by simp [hx])) hs (by simpa using hf)]
    simp
theorem read_lay (l : List (List UInt8)) (s : List UInt8) (hl : ∀ r ∈ l, fitR r) (hs : oneAns s = none) : readAns (lay l ++ s) = (l, (lay l).length) :=
  readGo_lay l s _ hl hs (by rw [List.length_append]; have := lay_ge l; omega)

/-- the first k bytes, and perhaps one more that is turned -/
def cutAt (b : List UInt8) (k : Nat) (turn : UInt8) : List UInt8 := b.take k ++ (if turn = 0 then [] else (b[k]?.map fun x => x ^^^ turn).toList)
theorem cutAt_left (a b : List UInt8) (k : Nat) (turn : UInt8) (h : k < a.length) : cutAt (a ++ b) k turn = cutAt a k turn := by
  unfold cutAt
  rw [List.take_append_of_le_length (by omega), List.getElem?_append_left h]
theorem cutAt_right (a b : List UInt8) (k : Nat) (turn : UInt8) (h : a.length ≤ k) : cutAt (a ++ b) k turn = a ++ cutAt b (k - a.length) turn := by
  unfold cutAt
  rw [List.take_append, List.take_of_length_le h, List.getElem?_append_right h, List.append_assoc]

theorem xor_self_ne {x t : UInt8} (h : t ≠ 0) : x ^^^ t ≠ x := by
  intro e
  have := congrArg (fun y => x ^^^ y) e
  simp only [← UInt8.xor_assoc, UInt8.xor_self, UInt8.zero_xor] at this
  exact h this
theorem sum_last (r : List UInt8) (x t : UInt8) (h : t ≠ 0) : sum (r ++ [x ^^^ t]) ≠ sum (r ++ [x]) := by
  intro he
  simp only [sum, more, Nat.zero_xor, run_append] at he
  have h1 := congrArg (fun y => y ^^^ 4294967295) he
  simp only [Nat.xor_assoc, Nat.xor_self, Nat.xor_zero] at h1
  rw [run_cons, run_nil, run_cons, run_nil] at h1
  generalize hR : run 4294967295 r = R at h1
  have hRl : R < 2 ^ 32 := by rw [← hR]; exact run_lt (by decide) r
  have e : take8 R (x ^^^ t) = take8 R x ^^^ take8 0 t := by
    have := take8_xor R 0 x t
    rwa [Nat.xor_zero] at this
  rw [e] at h1
  have h2 : take8 0 t = 0 := by
    have := congrArg (fun y => take8 R x ^^^ y) h1
    simp only [xcancel, Nat.xor_self] at this
    exact this
  unfold take8 at h2
  rw [Nat.zero_xor] at h2
  have := steps_ne (r := t.toNat) (by have := t.toNat_lt; omega) h2
  exact h (UInt8.toNat_inj.1 (by simpa using this))
/-- a sealed record whose last byte is turned is none -/
theorem open_last (r : List UInt8) (t : UInt8) (h : t ≠ 0) (S : List UInt8) (x : UInt8) (hS : sealed r = S ++ [x]) : (openAns (S ++ [x ^^^ t])).2 ≠ 0 := by
  have hlen : S.length + 1 = r.length + 4 := by rw [← slen, hS]; simp
  unfold openAns
  rw [if_neg (by simp; omega)]
  rcases List.eq_nil_or_concat r with rfl | ⟨r', y, rfl⟩
  · have hS3 : S.length = 3 := by simpa using hlen
    have h4 : (S ++ [x ^^^ t]).length = 4 := by simp [hS3]
    rw [List.take_of_length_le (by omega), List.drop_eq_nil_of_le (by omega), if_neg]
    · simp
    · intro he
      have h1 := four_val h4
      rw [he] at h1
      have h2 : sealed [] = four (sum []) := by simp [sealed]
      rw [← h2, hS] at h1
      have := List.append_inj_right h1 rfl
      simp only [List.cons.injEq, and_true] at this
      exact xor_self_ne h this.symm
  · have hs : sealed (r' ++ [y]) = (four (sum (r' ++ [y])) ++ r') ++ [y] := by simp [sealed]
    rw [List.concat_eq_append] at hS hlen
    rw [hs] at hS
    obtain ⟨h1, h2⟩ := List.append_inj' hS rfl
    simp only [List.cons.injEq, and_true] at h2
    subst h2
    rw [← h1, List.append_assoc, show (four (sum (r' ++ [y])) ++ (r' ++ [y ^^^ t])).take 4 = four (sum (r' ++ [y])) from rfl, show (four (sum (r' ++ [y])) ++ (r' ++ [y ^^^ t])).drop 4 = r' ++ [y ^^^ t] from rfl, val_four (sum_lt _), if_neg]
    · simp
    · intro he
      exact sum_last r' y t h he.symm

theorem one_err {b : List UInt8} (h : (textAns b).2.2 ≠ 0) : oneAns b = none := by
  unfold oneAns
  rw [if_neg (fun hh => h hh.1)]
/-- what is left of one record is none -/
theorem one_cut {r : List UInt8} (hr : fitR r) (k : Nat) (turn : UInt8) (hk : k < (recB r).length) : oneAns (cutAt (recB r) k turn) = none := by
  obtain ⟨n, hn⟩ : ∃ n, n = (sealed r).length := ⟨_, rfl⟩
  have hn4 : n = r.length + 4 := by rw [hn, slen]
  have hn6 : n ≤ 65536 := by unfold fitR at hr; omega
  have hrec : recB r = enc n ++ sealed r := by rw [recB, encT, hn]
  have hlen : (recB r).length = (enc n).length + n := by rw [hrec, List.length_append, ← hn]
  rcases Nat.lt_or_ge k (enc n).length with he | he
  · -- within the number
    rw [hrec, cutAt_left _ _ _ _ he]
    unfold cutAt
    by_cases ht : turn = 0
    · rw [if_pos ht, List.append_nil]
      refine one_err ?_
      unfold textAns
      rw [numAns_cut (by omega) he]
      simp
    · rw [if_neg ht, List.getElem?_eq_getElem he]
      simp only [Option.map_some, Option.toList_some]
      obtain ⟨s, hs⟩ : ∃ s, s = (enc n).take k ++ [(enc n)[k] ^^^ turn] := ⟨_, rfl⟩
      rw [← hs]
      have hsl : s.length = k + 1 := by rw [hs]; simp; omega
      rcases hnum : numAns s with ⟨m, u, e⟩
      by_cases h0 : e = 0
      · subst h0
        obtain ⟨hu, hu9, hu1, rest, hrest⟩ := numAns_once hnum
        have hall : u = k + 1 := by
          rcases Nat.lt_or_ge k u with h | h
          · have : (enc m).length ≤ s.length := by rw [hrest, List.length_append]; omega
            omega
          · exfalso
            have h1 : (enc n).take u = enc m := by
              have e1 : s.take u = enc m := by rw [hrest, hu, List.take_left]
              have e2 : s.take u = (enc n).take u := by rw [hs, List.take_append_of_le_length (by simp; omega), List.take_take, Nat.min_eq_left h]
              rw [← e2, e1]
            have h2 := numAns_cut (n := n) (k := u) (by omega) (by omega)
            rw [h1] at h2
            have h3 := numAns_enc (n := m) (enc_lt (by omega)) []
            rw [List.append_nil, h2] at h3
            simp at h3
        have ht2 : textAns s = if m > 65536 then ([], 0, 6) else if 0 < m then ([], 0, 3) else ([], k + 1, 0) := by
          unfold textAns
          rw [hnum]
          simp only [hall, hsl, Nat.sub_self]
          rw [if_neg (by simp)]
          split
          · rfl
          · split
            · rfl
            · rename_i h1 h2
              have : m = 0 := by omega
              subst this
              simp
        by_cases a1 : m > 65536
        · exact one_err (by rw [ht2, if_pos a1]; simp)
        · by_cases a2 : 0 < m
          · exact one_err (by rw [ht2, if_neg a1, if_pos a2]; simp)
          · unfold oneAns
            rw [ht2, if_neg a1, if_neg a2, if_neg (by simp [openAns])]
      · refine one_err ?_
        unfold textAns
        rw [hnum]
        simp only
        rw [if_pos h0]
        exact h0
  · rw [hrec, cutAt_right _ _ _ _ he]
    obtain ⟨j, hj⟩ : ∃ j, j = k - (enc n).length := ⟨_, rfl⟩
    rw [← hj]
    have hjn : j < (sealed r).length := by rw [← hn]; omega
    unfold cutAt
    by_cases ht : turn = 0
    · rw [if_pos ht, List.append_nil]
      exact one_err (text_short hn6 _ (by simp; omega))
    · rw [if_neg ht, List.getElem?_eq_getElem hjn]
      simp only [Option.map_some, Option.toList_some]
      rcases Nat.lt_or_ge (j + 1) n with h1 | h1
      · exact one_err (text_short hn6 _ (by simp; omega))
      · have hlast : sealed r = (sealed r).take j ++ [(sealed r)[j]] := by
          have := List.take_append_drop j (sealed r)
          rw [List.drop_eq_getElem_cons hjn, List.drop_eq_nil_of_le (by omega)] at this
          exact this.symm
        have h2 := open_last r turn ht _ _ hlast
        have h3 := text_enc hn6 ((sealed r).take j ++ [(sealed r)[j] ^^^ turn]) [] (by simp; omega)
        rw [List.append_nil] at h3
        unfold oneAns
        rw [h3]
        rw [if_neg (fun hh => h2 hh.2)]
/-- what is left of records: some first ones, and behind them none -/
theorem cut_lay : ∀ (l : List (List UInt8)) (k : Nat) (turn : UInt8), (∀ r ∈ l, fitR r) → ∃ j s, j ≤ l.length ∧ cutAt (lay l) k turn = lay (l.take j) ++ s ∧ oneAns s = none
  | [], k, turn, _ => ⟨0, [], by simp, by simp [cutAt, lay], one_nil⟩
  | r :: l, k, turn, hl => by
    rw [lay_cons]
    rcases Nat.lt_or_ge k (recB r).length with h | h
    · rw [cutAt_left _ _ _ _ h]
      exact ⟨0, _, by simp, by simp [lay], one_cut (hl r (by simp)) k turn h⟩
    · rw [cutAt_right _ _ _ _ h]
      obtain ⟨j, s, h1, h2, h3⟩ := cut_lay l (k - (recB r).length) turn (fun x hx => hl x (by simp [hx]))
      exact ⟨j + 1, s, by simpa using h1, by rw [h2, List.take_succ_cons, lay_cons, List.append_assoc], h3⟩

/-- bytes that begin with a record begin with its bytes -/
theorem one_take {b r : List UInt8} {u : Nat} (h : oneAns b = some (r, u)) : fitR r ∧ u = (recB r).length ∧ ∃ s, b = recB r ++ s := by
  unfold oneAns at h
  split at h
  · rename_i hh
    injection h with h
    injection h with h1 h2
    obtain ⟨ht, ho⟩ := hh
    rcases hnum : numAns b with ⟨m, v, e⟩
    unfold textAns at ht h1 h2 ho
    rw [hnum] at ht h1 h2 ho
    simp only at ht h1 h2 ho
    by_cases he : e = 0
    · subst he
      obtain ⟨hv, hv9, hv1, s, hs⟩ := numAns_once hnum
      rw [if_neg (by simp)] at ht h1 h2 ho
      by_cases hm : m > 65536
      · rw [if_pos hm] at ht; simp at ht
      · rw [if_neg hm] at ht h1 h2 ho
        by_cases hsh : b.length - v < m
        · rw [if_pos hsh] at ht; simp at ht
        · rw [if_neg hsh] at h1 h2 ho
          simp only at h1 h2 ho
          have hd : b.drop v = s := by rw [hs, hv, List.drop_left]
          rw [hd] at h1 ho
          have hsl : m ≤ s.length := by rw [hs, List.length_append] at hsh; omega
          obtain ⟨X, hX⟩ : ∃ X, X = s.take m := ⟨_, rfl⟩
          rw [← hX] at h1 ho
          have hXl : X.length = m := by rw [hX, List.length_take]; omega
          have hseal : X = sealed r := by
            unfold openAns at h1 ho
            by_cases h4 : X.length < 4
            · rw [if_pos h4] at ho; simp at ho
            · rw [if_neg h4] at h1 ho
              by_cases h5 : val (X.take 4) = sum (X.drop 4)
              · rw [if_pos h5] at h1
                simp only at h1
                subst h1
                unfold sealed
                rw [← h5, four_val (by simp; omega), List.take_append_drop]
              · rw [if_neg h5] at ho; simp at ho
          have hrl : r.length + 4 = m := by rw [← slen, ← hseal, hXl]
          have hrb : recB r = enc m ++ X := by rw [recB, encT, ← hseal, hXl]
          refine ⟨by unfold fitR; omega, by rw [← h2, hrb, List.length_append, hXl, hv], s.drop m, ?_⟩
          rw [hrb, List.append_assoc, hX, List.take_append_drop]
          exact hs
    · rw [if_pos he] at ht
      exact absurd ht he
  · cases h
theorem readGo_take : ∀ (f : Nat) (b : List UInt8), (∀ r ∈ (readGo f b).1, fitR r) ∧ (readGo f b).2 = (lay (readGo f b).1).length ∧ ∃ s, b = lay (readGo f b).1 ++ s ∧ (b.length ≤ f → oneAns s = none)
  | 0, b => ⟨by simp [readGo], by simp [readGo, lay], b, by simp [readGo, lay], fun h => by rw [List.eq_nil_of_length_eq_zero (Nat.le_zero.1 h)]; exact one_nil⟩
  | f + 1, b => by
    rcases ho : oneAns b with _ | ⟨r, u⟩
    · have e : readGo (f + 1) b = ([], 0) := by rw [readGo, ho]
      rw [e]
      exact ⟨by simp, by simp [lay], b, by simp [lay], fun _ => ho⟩
    · obtain ⟨h1, h2, s, hs⟩ := one_take ho
      have e : readGo (f + 1) b = (r :: (readGo f s).1, u + (readGo f s).2) := by
        rw [readGo, ho]
        simp only
        rw [hs, h2, List.drop_left]
      rw [e]
      obtain ⟨i1, i2, s2, i3, i4⟩ := readGo_take f s
      refine ⟨?_, by rw [lay_cons, List.length_append, h2, i2], s2, by rw [lay_cons, List.append_assoc, ← i3]; exact hs, fun hb => i4 ?_⟩
      · intro x hx
        rcases List.mem_cons.1 hx with rfl | hx
        · exact h1
        · exact i1 x hx
      · rw [hs, List.length_append] at hb
        have := recB_ge r
        omega
theorem read_take (b : List UInt8) : (∀ r ∈ (readAns b).1, fitR r) ∧ (readAns b).2 = (lay (readAns b).1).length ∧ ∃ s, b = lay (readAns b).1 ++ s ∧ oneAns s = none := by
  obtain ⟨h1, h2, s, h3, h4⟩ := readGo_take b.length b
  exact ⟨h1, h2, s, h3, h4 (Nat.le_refl _)⟩
end Go.Proofs.Ythoheikbpihflaa
namespace Go.Proofs.Ythoheikbpihflaa

structure Tp where
  sure : List UInt8
  loose : List UInt8
  room : Int
  left : Int
  down : Bool

namespace Tp
/-- one call that leaves so many bytes: 0, ErrFull 10 or ErrDown 11 -/
def write (t : Tp) (size : Nat) : Int × Tp :=
  if t.down = true then (11, t)
  else if (size : Int) > t.room then (10, t)
  else if t.left = 0 then (11, { t with down := true })
  else if t.left > 0 then (0, { t with left := t.left - 1 }) else (0, t)
def add (t : Tp) (b : List UInt8) : Int × Tp :=
  let r := t.write (t.sure.length + t.loose.length + b.length)
  if r.1 = 0 then (0, { r.2 with loose := t.loose ++ b }) else r
def sync (t : Tp) : Int × Tp :=
  let r := t.write 0
  if r.1 = 0 then (0, { r.2 with sure := t.sure ++ t.loose, loose := [] }) else r
def repl (t : Tp) (b : List UInt8) : Int × Tp :=
  let r := t.write b.length
  if r.1 = 0 then (0, { r.2 with sure := b, loose := [] }) else r
def fail (t : Tp) (n : Int) : Tp := { t with left := n }
/-- what lasts of the loose ones -/
def kept (l : List UInt8) (keep : Int) (turn : UInt8) : List UInt8 :=
  if (l.length : Int) ≤ keep then l
  else if turn = 0 then l.take keep.toNat
  else l.take keep.toNat ++ (l[keep.toNat]?.map fun x => x ^^^ turn).toList
def crash (t : Tp) (keep : Int) (turn : UInt8) : Tp :=
  { t with sure := t.sure ++ kept t.loose keep turn, loose := [], down := false, left := -1 }
/-- what is asked of every tape: its bytes have room -/
def Ok (t : Tp) : Prop := 0 ≤ t.room ∧ t.room ≤ 1048576 ∧ ((t.sure.length + t.loose.length : Nat) : Int) ≤ t.room

theorem write_ok {t : Tp} {n : Nat} (h : (t.write n).1 = 0) : (n : Int) ≤ t.room := by
  unfold write at h
  split at h
  · cases h
  · split at h
    · cases h
    · omega
theorem write_keeps (t : Tp) (n : Nat) : (t.write n).2.sure = t.sure ∧ (t.write n).2.loose = t.loose ∧ (t.write n).2.room = t.room := by
  unfold write; repeat' split
  all_goals exact ⟨rfl, rfl, rfl⟩
theorem Ok.write {t : Tp} (h : t.Ok) (n : Nat) : (t.write n).2.Ok := by
  obtain ⟨h1, h2, h3⟩ := write_keeps t n
  unfold Ok at h ⊢; rw [h1, h2, h3]; exact h
theorem Ok.add {t : Tp} (h : t.Ok) (b : List UInt8) : (t.add b).2.Ok := by
  unfold Tp.add
  simp only
  split
  · rename_i h0
    have hr := write_ok h0
    obtain ⟨h1, h2, h3⟩ := write_keeps t (t.sure.length + t.loose.length + b.length)
    unfold Ok at h ⊢
    simp only [h1, h3, List.length_append]
    omega
  · exact h.write _
theorem Ok.sync {t : Tp} (h : t.Ok) : (t.sync).2.Ok := by
  unfold Tp.sync
  simp only
  split
  · obtain ⟨h1, h2, h3⟩ := write_keeps t 0
    unfold Ok at h ⊢
    simp only [h3, List.length_append, List.length_nil]
    omega
  · exact h.write _
theorem Ok.repl {t : Tp} (h : t.Ok) (b : List UInt8) : (t.repl b).2.Ok := by
  unfold Tp.repl
  simp only
  split
  · rename_i h0
    have hr := write_ok h0
    obtain ⟨h1, h2, h3⟩ := write_keeps t b.length
    unfold Ok at h ⊢
    simp only [h3, List.length_nil]
    omega
  · exact h.write _
theorem kept_len (l : List UInt8) (keep : Int) (turn : UInt8) : (kept l keep turn).length ≤ l.length := by
  unfold kept
  split
  · exact Nat.le_refl _
  · split
    · simp; omega
    · rename_i h _
      have hk : keep.toNat < l.length ∨ l.length = 0 := by omega
      rcases hk with hk | hk
      · simp [List.getElem?_eq_getElem hk]; omega
      · rw [List.eq_nil_of_length_eq_zero hk]; simp
theorem Ok.crash {t : Tp} (h : t.Ok) (keep : Int) (turn : UInt8) : (t.crash keep turn).Ok := by
  have := kept_len t.loose keep turn
  unfold Ok at h ⊢
  simp only [Tp.crash, List.length_append, List.length_nil]
  omega
/-- what lasts begins as what was there, but for perhaps the last one -/
theorem kept_at (l : List UInt8) (keep : Int) (turn : UInt8) (i : Nat) (hi : i + 1 < (kept l keep turn).length) : (kept l keep turn)[i]? = l[i]? := by
  unfold kept at hi ⊢
  split at hi
  · rename_i h; simp only [if_pos h]
  · rename_i h
    simp only [if_neg h]
    split at hi
    · rename_i h2
      simp only [if_pos h2]
      rw [List.getElem?_take]
      simp only [List.length_take] at hi
      rw [if_pos (by omega)]
    · rename_i h2
      simp only [if_neg h2]
      have hlt : keep.toNat < l.length := by
        rcases Nat.lt_or_ge keep.toNat l.length with h' | h'
        · exact h'
        · have : l.length = 0 := by omega
          rw [List.eq_nil_of_length_eq_zero this] at hi
          simp at hi
      simp only [List.getElem?_eq_getElem hlt, Option.map_some, Option.toList_some, List.length_append, List.length_take, List.length_cons, List.length_nil] at hi ⊢
      have hik : i < keep.toNat := by omega
      rw [List.getElem?_append_left (by simp; omega), List.getElem?_take, if_pos hik]
theorem crash_at (t : Tp) (keep : Int) (turn : UInt8) (i : Nat) (hi : i < (t.crash keep turn).sure.length) (hne : (t.crash keep turn).sure[i]? ≠ (t.sure ++ t.loose)[i]?) : t.sure.length ≤ i ∧ i + 1 = (t.crash keep turn).sure.length := by
  simp only [Tp.crash] at hi hne ⊢
  rcases Nat.lt_or_ge i t.sure.length with h | h
  · exact absurd (by rw [List.getElem?_append_left h, List.getElem?_append_left h]) hne
  · refine ⟨h, ?_⟩
    rcases Nat.lt_or_ge (i + 1) (t.sure ++ kept t.loose keep turn).length with h2 | h2
    · refine absurd ?_ hne
      rw [List.getElem?_append_right h, List.getElem?_append_right h]
      exact kept_at _ _ _ _ (by simp only [List.length_append] at h2; omega)
    · omega

/-- a tape that has not to go down: what one call says hangs on the room alone -/
theorem write_live {t : Tp} (hd : t.down = false) (hl : t.left < 0) (n : Nat) : t.write n = if (n : Int) > t.room then (10, t) else (0, t) := by
  unfold write
  rw [if_neg (by simp [hd])]
  split
  · rfl
  · rw [if_neg (by omega), if_neg (by omega)]
theorem add_live {t : Tp} (hd : t.down = false) (hl : t.left < 0) (b : List UInt8) (hr : ((t.sure.length + t.loose.length + b.length : Nat) : Int) ≤ t.room) : t.add b = (0, { t with loose := t.loose ++ b }) := by
  have h := write_live hd hl (t.sure.length + t.loose.length + b.length)
  rw [if_neg (by omega)] at h
  unfold add
  rw [h]
  rfl
theorem sync_live {t : Tp} (hd : t.down = false) (hl : t.left < 0) (hr : 0 ≤ t.room) : t.sync = (0, { t with sure := t.sure ++ t.loose, loose := [] }) := by
  have h := write_live hd hl 0
  rw [if_neg (by omega)] at h
  unfold sync
  rw [h]
  rfl
theorem crash_sync {t : Tp} (hr : 0 ≤ t.room) (keep : Int) (turn : UInt8) : ((t.crash keep turn).sync).1 = 0 := by
  have h := sync_live (t := t.crash keep turn) rfl (by show (-1 : Int) < 0; omega) hr
  rw [h]

/-- TapeFails: what holds ahead of call i -/
def FailInv (n i : Nat) (t : Tp) : Prop :=
  t.room = 1000 ∧ t.sure.length + t.loose.length ≤ 1 ∧ (i ≤ n → t.down = false ∧ t.left = (n : Int) - i) ∧ (n < i → t.down = true)
theorem FailInv.write {n i : Nat} {t : Tp} (h : FailInv n i t) {k : Nat} (hk : k ≤ 1) :
    (i < n ∧ t.write k = (0, { t with left := t.left - 1 })) ∨ (n ≤ i ∧ (t.write k).1 = 11 ∧ FailInv n (i + 1) (t.write k).2) := by
  obtain ⟨h1, h2, h3, h4⟩ := h
  rcases Nat.lt_or_ge i n with hi | hi
  · obtain ⟨h5, h6⟩ := h3 (by omega)
    refine .inl ⟨hi, ?_⟩
    unfold Tp.write
    rw [if_neg (by simp [h5]), if_neg (by omega), if_neg (by omega), if_pos (by omega)]
  · refine .inr ⟨hi, ?_⟩
    rcases Nat.lt_or_ge n i with hn | hn
    · have h5 := h4 hn
      unfold Tp.write
      rw [if_pos h5]
      exact ⟨rfl, h1, h2, fun h => by omega, fun _ => h5⟩
    · obtain ⟨h5, h6⟩ := h3 hn
      unfold Tp.write
      rw [if_neg (by simp [h5]), if_neg (by omega), if_pos (by omega)]
      exact ⟨rfl, h1, h2, fun h => by omega, fun _ => rfl⟩
theorem FailInv.add {n i : Nat} {t : Tp} (h : FailInv n i t) :
    ((t.add []).1 = if i < n then 0 else 11) ∧ FailInv n (i + 1) (t.add []).2 := by
  have h0 := h
  obtain ⟨h1, h2, h3, _⟩ := h0
  unfold Tp.add
  simp only [List.length_nil, Nat.add_zero, List.append_nil]
  rcases h.write h2 with ⟨hi, hw⟩ | ⟨hi, hw, hn⟩
  · rw [hw, if_pos rfl, if_pos hi]
    obtain ⟨h5, h6⟩ := h3 (by omega)
    exact ⟨rfl, h1, h2, fun _ => ⟨h5, by show t.left - 1 = _; omega⟩, fun h => by omega⟩
  · rw [if_neg (by omega), if_neg (by omega)]
    exact ⟨hw, hn⟩
theorem FailInv.sync {n i : Nat} {t : Tp} (h : FailInv n i t) :
    (t.sync.1 = if i < n then 0 else 11) ∧ FailInv n (i + 1) t.sync.2 := by
  have h0 := h
  obtain ⟨h1, h2, h3, _⟩ := h0
  unfold Tp.sync
  simp only
  rcases h.write (k := 0) (by omega) with ⟨hi, hw⟩ | ⟨hi, hw, hn⟩
  · rw [hw, if_pos rfl, if_pos hi]
    obtain ⟨h5, h6⟩ := h3 (by omega)
    exact ⟨rfl, h1, by simpa using h2, fun _ => ⟨h5, by show t.left - 1 = _; omega⟩, fun h => by omega⟩
  · rw [if_neg (by omega), if_neg (by omega)]
    exact ⟨hw, hn⟩
theorem FailInv.repl {n i : Nat} {t : Tp} (h : FailInv n i t) (x : UInt8) :
    ((t.repl [x]).1 = if i < n then 0 else 11) ∧ FailInv n (i + 1) (t.repl [x]).2 := by
  have h0 := h
  obtain ⟨h1, h2, h3, _⟩ := h0
  unfold Tp.repl
  simp only [List.length_cons, List.length_nil]
  rcases h.write (k := 0 + 1) (by omega) with ⟨hi, hw⟩ | ⟨hi, hw, hn⟩
  · rw [hw, if_pos rfl, if_pos hi]
    obtain ⟨h5, h6⟩ := h3 (by omega)
    exact ⟨rfl, h1, by simp, fun _ => ⟨h5, by show t.left - 1 = _; omega⟩, fun h => by omega⟩
  · rw [if_neg (by omega), if_neg (by omega)]
    exact ⟨hw, hn⟩
theorem FailInv.start (n : Nat) : FailInv n 0 (fail ⟨[], [], 1000, -1, false⟩ n) :=
  ⟨rfl, by simp [fail], fun _ => ⟨rfl, by simp [fail]⟩, fun h => by omega⟩
end Tp
end Go.Proofs.Ythoheikbpihflaa
namespace Go.Proofs.Ythoheikbpihflaa

/-- the records that it has, whether a call of it was answered with ErrDown, and its tape -/
structure Bks where
  l : List (List UInt8)
  dead : Bool
  t : Tp
def fits (l : List (List UInt8)) : Prop := ∀ r ∈ l, fitR r
instance (l : List (List UInt8)) : Decidable (fits l) := by unfold fits fitR; exact inferInstance
namespace Bks
def add (b : Bks) (list : List (List UInt8)) : Int × Bks :=
  if b.dead = true then (11, b) else if ¬ fits list then (6, b) else
  if (b.t.add (lay list)).1 ≠ 0 then ((b.t.add (lay list)).1, { b with t := (b.t.add (lay list)).2, dead := decide ((b.t.add (lay list)).1 = 11) })
  else if (b.t.add (lay list)).2.sync.1 ≠ 0 then ((b.t.add (lay list)).2.sync.1, { b with t := (b.t.add (lay list)).2.sync.2, dead := decide ((b.t.add (lay list)).2.sync.1 = 11) })
  else (0, ⟨b.l ++ list, false, (b.t.add (lay list)).2.sync.2⟩)
def reset (b : Bks) (list : List (List UInt8)) : Int × Bks :=
  if b.dead = true then (11, b) else if ¬ fits list then (6, b) else
  if (b.t.repl (lay list)).1 ≠ 0 then ((b.t.repl (lay list)).1, { b with t := (b.t.repl (lay list)).2, dead := decide ((b.t.repl (lay list)).1 = 11) })
  else (0, ⟨list, false, (b.t.repl (lay list)).2⟩)
/-- the bytes of a tape -/
def all (t : Tp) : List UInt8 := t.sure ++ t.loose
/-- Open: the error, the book, the tape behind it -/
def opens (t : Tp) : Int × Bks :=
  if t.down = true then (11, ⟨[], false, t⟩) else
  if (readAns (all t)).2 < (all t).length then
    (if (t.repl ((all t).take (readAns (all t)).2)).1 ≠ 0 then ((t.repl ((all t).take (readAns (all t)).2)).1, ⟨[], false, (t.repl ((all t).take (readAns (all t)).2)).2⟩) else (0, ⟨(readAns (all t)).1, false, (t.repl ((all t).take (readAns (all t)).2)).2⟩))
  else (0, ⟨(readAns (all t)).1, false, t⟩)

/-- what BookPlays knows -/
def Inv (now cut : List (List UInt8)) (b : Bks) : Prop :=
  fits now ∧ b.t.sure = lay now ∧ b.t.room = 262144 ∧ b.t.Ok ∧
    ((b.dead = false ∧ b.l = now ∧ b.t.down = false ∧ b.t.loose = []) ∨
     (b.dead = true ∧ b.t.down = true ∧ (b.t.loose = [] ∨ ∃ list, fits list ∧ b.t.loose = lay list ∧ cut = now ++ list)))

theorem write_not_down {t : Tp} (hd : t.down = false) (n : Nat) (h : (t.write n).1 ≠ 11) : (t.write n).2.down = false ∧ ((t.write n).1 = 10 → (t.write n).2 = t ∧ (n : Int) > t.room) := by
  unfold Tp.write at h ⊢
  rw [if_neg (by simp [hd])] at h ⊢
  split
  · rename_i h1; exact ⟨hd, fun _ => ⟨rfl, h1⟩⟩
  · rename_i h1
    rw [if_neg h1] at h
    split
    · rename_i h2; rw [if_pos h2] at h; exact absurd rfl h
    · split
      · exact ⟨hd, fun h => by simp at h⟩
      · exact ⟨hd, fun h => by simp at h⟩
theorem write_down {t : Tp} (hd : t.down = false) (n : Nat) (h : (t.write n).1 = 11) : (t.write n).2 = { t with down := true } := by
  unfold Tp.write at h ⊢
  rw [if_neg (by simp [hd])] at h ⊢
  split
  · rename_i h1; rw [if_pos h1] at h; simp at h
  · rename_i h1
    rw [if_neg h1] at h
    split
    · rfl
    · rename_i h2
      rw [if_neg h2] at h
      split at h <;> simp at h
theorem write_err (t : Tp) (n : Nat) : (t.write n).1 = 0 ∨ (t.write n).1 = 10 ∨ (t.write n).1 = 11 := by
  unfold Tp.write
  split
  · exact .inr (.inr rfl)
  · split
    · exact .inr (.inl rfl)
    · split
      · exact .inr (.inr rfl)
      · split <;> exact .inl rfl

/-- Add, of a book that lives -/
theorem add_law {now cut list : List (List UInt8)} {b : Bks} (h : Inv now cut b) (hd : b.dead = false) (hf : fits list) :
    ((b.add list).1 = 11 ∧ (b.add list).2.dead = true ∧ Inv now (now ++ list) (b.add list).2) ∨
    ((b.add list).1 = 0 ∧ (b.add list).2.dead = false ∧ Inv (now ++ list) (now ++ list) (b.add list).2) ∨
    ((b.add list).1 = 10 ∧ (b.add list).2.dead = false ∧ (lay (now ++ list)).length > 262144 ∧ Inv now cut (b.add list).2) := by
  obtain ⟨l, dead, t⟩ := b
  obtain ⟨h1, h2, h3, h4, h5⟩ := h
  simp only at hd h2 h3 h4 h5
  subst hd
  have h5' : l = now ∧ t.down = false ∧ t.loose = [] := by
    rcases h5 with ⟨_, a⟩ | ⟨a, _⟩
    · exact a
    · cases a
  obtain ⟨hl, h6, h7⟩ := h5'
  obtain ⟨n, hn⟩ : ∃ n, n = t.sure.length + t.loose.length + (lay list).length := ⟨_, rfl⟩
  have hadd : t.add (lay list) = if (t.write n).1 = 0 then (0, { (t.write n).2 with loose := t.loose ++ lay list }) else t.write n := by rw [hn]; rfl
  obtain ⟨k1, k2, k3⟩ := Tp.write_keeps t n
  unfold add
  simp only
  rw [if_neg (by simp), if_neg (by simpa using hf)]
  rcases write_err t n with he | he | he
  · rw [hadd, if_pos he]
    simp only [ne_eq, not_true, if_false]
    have hok1 : Tp.Ok { (t.write n).2 with loose := t.loose ++ lay list } := by
      have := Tp.Ok.add h4 (lay list)
      rw [hadd, if_pos he] at this
      exact this
    obtain ⟨g1, _⟩ := write_not_down h6 n (by rw [he]; decide)
    obtain ⟨t1, ht1⟩ : ∃ t1, t1 = { (t.write n).2 with loose := t.loose ++ lay list } := ⟨_, rfl⟩
    rw [← ht1] at hok1 ⊢
    have e1 : t1.sure = lay now := by rw [ht1]; simp only [k1, h2]
    have e2 : t1.loose = lay list := by rw [ht1]; simp only [h7, List.nil_append]
    have e3 : t1.room = 262144 := by rw [ht1]; simp only [k3, h3]
    have e4 : t1.down = false := by rw [ht1]; exact g1
    have hsy : t1.sync = if (t1.write 0).1 = 0 then (0, { (t1.write 0).2 with sure := t1.sure ++ t1.loose, loose := [] }) else t1.write 0 := rfl
    obtain ⟨m1, m2, m3⟩ := Tp.write_keeps t1 0
    rcases write_err t1 0 with he1 | he1 | he1
    · rw [hsy, if_pos he1]
      simp only [not_true, if_false]
      refine .inr (.inl ⟨trivial, trivial, ?_, ?_, ?_, ?_, .inl ⟨rfl, by simp only [hl], ?_, rfl⟩⟩)
      · intro x hx
        rcases List.mem_append.1 hx with hx | hx
        · exact h1 x hx
        · exact hf x hx
      · simp only [e1, e2, lay_append]
      · simp only [m3, e3]
      · have := Tp.Ok.sync hok1
        rw [hsy, if_pos he1] at this
        exact this
      · exact (write_not_down e4 0 (by rw [he1]; decide)).1
    · exfalso
      have := (write_not_down e4 0 (by rw [he1]; decide)).2 he1
      rw [e3] at this
      have h9 := this.2
      omega
    · have hsy2 : t1.sync = t1.write 0 := by rw [hsy, if_neg (by rw [he1]; decide)]
      rw [hsy2, if_pos (by rw [he1]; decide)]
      refine .inl ⟨he1, by simp [he1], h1, ?_, ?_, hok1.write 0, .inr ⟨by simp [he1], ?_, .inr ⟨list, hf, ?_, rfl⟩⟩⟩
      · simp only [m1, e1]
      · simp only [m3, e3]
      · simp only [write_down e4 0 he1]
      · simp only [m2, e2]
  · have hadd2 : t.add (lay list) = t.write n := by rw [hadd, if_neg (by rw [he]; decide)]
    rw [hadd2, if_pos (by rw [he]; decide)]
    obtain ⟨g1, g2⟩ := write_not_down h6 n (by rw [he]; decide)
    obtain ⟨g3, g4⟩ := g2 he
    refine .inr (.inr ⟨he, by simp [he], ?_, h1, ?_, ?_, h4.write n, .inl ⟨by simp [he], hl, g1, ?_⟩⟩)
    · rw [lay_append, List.length_append]
      rw [hn, h2, h7, h3] at g4
      simp only [List.length_nil] at g4
      omega
    · simp only [k1, h2]
    · simp only [k3, h3]
    · simp only [k2, h7]
  · have hadd2 : t.add (lay list) = t.write n := by rw [hadd, if_neg (by rw [he]; decide)]
    rw [hadd2, if_pos (by rw [he]; decide)]
    refine .inl ⟨he, by simp [he], h1, ?_, ?_, h4.write n, .inr ⟨by simp [he], ?_, .inl ?_⟩⟩
    · simp only [k1, h2]
    · simp only [k3, h3]
    · simp only [write_down h6 n he]
    · simp only [k2, h7]
/-- Reset, of a book that lives -/
theorem reset_law {now cut list : List (List UInt8)} {b : Bks} (h : Inv now cut b) (hd : b.dead = false) (hf : fits list) :
    ((b.reset list).1 = 11 ∧ (b.reset list).2.dead = true ∧ Inv now list (b.reset list).2) ∨
    ((b.reset list).1 = 0 ∧ (b.reset list).2.dead = false ∧ Inv list list (b.reset list).2) ∨
    ((b.reset list).1 = 10 ∧ (b.reset list).2.dead = false ∧ (lay list).length > 262144 ∧ Inv now cut (b.reset list).2) := by
  obtain ⟨l, dead, t⟩ := b
  obtain ⟨h1, h2, h3, h4, h5⟩ := h
  simp only at hd h2 h3 h4 h5
  subst hd
  have h5' : l = now ∧ t.down = false ∧ t.loose = [] := by
    rcases h5 with ⟨_, a⟩ | ⟨a, _⟩
    · exact a
    · cases a
  obtain ⟨hl, h6, h7⟩ := h5'
  obtain ⟨n, hn⟩ : ∃ n, n = (lay list).length := ⟨_, rfl⟩
  have hrep : t.repl (lay list) = if (t.write n).1 = 0 then (0, { (t.write n).2 with sure := lay list, loose := [] }) else t.write n := by rw [hn]; rfl
  obtain ⟨k1, k2, k3⟩ := Tp.write_keeps t n
  unfold reset
  simp only
  rw [if_neg (by simp), if_neg (by simpa using hf)]
  rcases write_err t n with he | he | he
  · rw [hrep, if_pos he]
    simp only [ne_eq, not_true, if_false]
    refine .inr (.inl ⟨trivial, trivial, hf, rfl, ?_, ?_, .inl ⟨rfl, rfl, ?_, rfl⟩⟩)
    · simp only [k3, h3]
    · have := Tp.Ok.repl h4 (lay list)
      rw [hrep, if_pos he] at this
      exact this
    · exact (write_not_down h6 n (by rw [he]; decide)).1
  · have hrep2 : t.repl (lay list) = t.write n := by rw [hrep, if_neg (by rw [he]; decide)]
    rw [hrep2, if_pos (by rw [he]; decide)]
    obtain ⟨g1, g2⟩ := write_not_down h6 n (by rw [he]; decide)
    obtain ⟨g3, g4⟩ := g2 he
    refine .inr (.inr ⟨he, by simp [he], ?_, h1, ?_, ?_, h4.write n, .inl ⟨by simp [he], hl, g1, ?_⟩⟩)
    · rw [hn, h3] at g4; omega
    · simp only [k1, h2]
    · simp only [k3, h3]
    · simp only [k2, h7]
  · have hrep2 : t.repl (lay list) = t.write n := by rw [hrep, if_neg (by rw [he]; decide)]
    rw [hrep2, if_pos (by rw [he]; decide)]
    refine .inl ⟨he, by simp [he], h1, ?_, ?_, h4.write n, .inr ⟨by simp [he], ?_, .inl ?_⟩⟩
    · simp only [k1, h2]
    · simp only [k3, h3]
    · simp only [write_down h6 n he]
    · simp only [k2, h7]
theorem fail_law {now cut : List (List UInt8)} {b : Bks} (h : Inv now cut b) (n : Int) : Inv now cut { b with t := b.t.fail n } := h

theorem kept_cutAt (l : List UInt8) (keep : Int) (turn : UInt8) : ∃ k, Tp.kept l keep turn = cutAt l k turn := by
  unfold Tp.kept
  split
  · exact ⟨l.length, by unfold cutAt; rw [List.take_length, List.getElem?_eq_none (Nat.le_refl _)]; simp⟩
  · refine ⟨keep.toNat, ?_⟩
    unfold cutAt
    split <;> simp
/-- a crash, and Open: what is there is what was, or with it some first ones of what was cut off -/
theorem crash_law {now cut : List (List UInt8)} {b : Bks} (h : Inv now cut b) (keep : Int) (turn : UInt8) :
    (opens (b.t.crash keep turn)).1 = 0 ∧ (opens (b.t.crash keep turn)).2.dead = false ∧ Inv (opens (b.t.crash keep turn)).2.l (opens (b.t.crash keep turn)).2.l (opens (b.t.crash keep turn)).2 ∧
      ((opens (b.t.crash keep turn)).2.l = now ∨ (b.dead = true ∧ ∃ list j, cut = now ++ list ∧ j ≤ list.length ∧ (opens (b.t.crash keep turn)).2.l = now ++ list.take j)) := by
  obtain ⟨l, dead, t⟩ := b
  obtain ⟨h1, h2, h3, h4, h5⟩ := h
  simp only at h2 h3 h4 h5 ⊢
  -- what is there, and what is left behind it
  have key : ∃ x s, fits x ∧ t.sure ++ Tp.kept t.loose keep turn = lay x ++ s ∧ oneAns s = none ∧ (x = now ∨ (dead = true ∧ ∃ list j, cut = now ++ list ∧ j ≤ list.length ∧ x = now ++ list.take j)) := by
    have hnil : t.loose = [] → ∃ x s, fits x ∧ t.sure ++ Tp.kept t.loose keep turn = lay x ++ s ∧ oneAns s = none ∧ (x = now ∨ (dead = true ∧ ∃ list j, cut = now ++ list ∧ j ≤ list.length ∧ x = now ++ list.take j)) := fun hz => by
      refine ⟨now, [], h1, ?_, one_nil, .inl rfl⟩
      rw [h2, hz]
      have : Tp.kept [] keep turn = [] := by
        have := Tp.kept_len [] keep turn
        exact List.eq_nil_of_length_eq_zero (by simpa using this)
      rw [this]
    rcases h5 with ⟨_, _, _, h7⟩ | ⟨h6, _, h7 | ⟨list, hf, h7, h8⟩⟩
    · exact hnil h7
    · exact hnil h7
    · obtain ⟨k, hk⟩ := kept_cutAt t.loose keep turn
      obtain ⟨j, s, hj, hc, hs⟩ := cut_lay list k turn hf
      refine ⟨now ++ list.take j, s, ?_, ?_, hs, .inr ⟨h6, list, j, h8, hj, rfl⟩⟩
      · intro x hx
        rcases List.mem_append.1 hx with hx | hx
        · exact h1 x hx
        · exact hf x (List.mem_of_mem_take hx)
      · rw [hk, h7, hc, h2, lay_append, List.append_assoc]
  obtain ⟨x, s, hx, he, hs, hcase⟩ := key
  have hall : all (t.crash keep turn) = lay x ++ s := by unfold all Tp.crash; simp only [List.append_nil]; exact he
  have hrd : readAns (all (t.crash keep turn)) = (x, (lay x).length) := by rw [hall]; exact read_lay x s hx hs
  have hok := h4.crash keep turn
  have hrm : (t.crash keep turn).room = 262144 := h3
  unfold opens
  rw [hrd]
  simp only
  rw [if_neg (by simp [Tp.crash])]
  by_cases hlt : (lay x).length < (all (t.crash keep turn)).length
  · rw [if_pos hlt]
    have htk : (all (t.crash keep turn)).take (lay x).length = lay x := by rw [hall, List.take_left]
    rw [htk]
    have hroom : ((lay x).length : Int) ≤ (t.crash keep turn).room := by
      obtain ⟨_, _, h9⟩ := hok
      have : (all (t.crash keep turn)).length = (t.crash keep turn).sure.length + (t.crash keep turn).loose.length := by unfold all; rw [List.length_append]
      omega
    have hw := Tp.write_live (t := t.crash keep turn) rfl (by show (-1 : Int) < 0; omega) (lay x).length
    rw [if_neg (by omega)] at hw
    have hrep : (t.crash keep turn).repl (lay x) = (0, { t.crash keep turn with sure := lay x, loose := [] }) := by
      unfold Tp.repl
      rw [hw]
      rfl
    have hokr := hok.repl (lay x)
    rw [hrep] at hokr ⊢
    simp only [ne_eq, not_true, if_false]
    exact ⟨trivial, trivial, ⟨hx, rfl, hrm, hokr, .inl ⟨rfl, rfl, rfl, rfl⟩⟩, hcase⟩
  · rw [if_neg hlt]
    simp only
    have hs0 : s = [] := by
      rw [hall, List.length_append] at hlt
      exact List.eq_nil_of_length_eq_zero (by omega)
    refine ⟨trivial, trivial, ⟨hx, ?_, hrm, hok, .inl ⟨rfl, rfl, rfl, rfl⟩⟩, hcase⟩
    subst hs0
    rw [List.append_nil] at hall
    unfold all at hall
    rw [show (t.crash keep turn).loose = [] from rfl, List.append_nil] at hall
    exact hall
end Bks
end Go.Proofs.Ythoheikbpihflaa
namespace Go.Proofs.Ythoheikbpihflaa

abbrev Bal := Int × Int
def lessB (a b : Bal) : Bool := if a.1 ≠ b.1 then decide (a.1 < b.1) else decide (a.2 < b.2)
theorem lessB_iff (a b : Bal) : lessB a b = true ↔ a.1 < b.1 ∨ (a.1 = b.1 ∧ a.2 < b.2) := by
  unfold lessB
  split <;> simp only [decide_eq_true_eq] <;> omega
theorem lessB_not (a b : Bal) : lessB a b = false ↔ b.1 < a.1 ∨ (a.1 = b.1 ∧ b.2 ≤ a.2) := by
  unfold lessB
  split <;> simp only [decide_eq_false_iff_not] <;> omega
theorem lessB_self (a : Bal) : lessB a a = false := by rw [lessB_not]; omega
theorem lessB_asymm {a b : Bal} (h : lessB a b = true) : lessB b a = false := by rw [lessB_iff] at h; rw [lessB_not]; omega
theorem lessB_trans {a b c : Bal} (h : lessB a b = true) (g : lessB b c = true) : lessB a c = true := by rw [lessB_iff] at *; omega
theorem lessB_total {a b : Bal} (h : a ≠ b) : lessB a b = true ∨ lessB b a = true := by
  rw [lessB_iff, lessB_iff]
  have : ¬ (a.1 = b.1 ∧ a.2 = b.2) := fun e => h (Prod.ext e.1 e.2)
  omega
theorem lessB_or (a b : Bal) : (lessB a b || lessB b a) = decide (a ≠ b) := by
  by_cases h : a = b
  · subst h; simp [lessB_self]
  · rcases lessB_total h with e | e <;> simp [e, h]

/-- a vow -/
structure Vw where
  prom : Bal
  at' : Bal
  took : Sta
instance : DecidableEq Vw := fun x y => decidable_of_iff (x.prom = y.prom ∧ x.at' = y.at' ∧ x.took = y.took) ⟨fun h => by cases x; cases y; simp only at h; obtain ⟨rfl, rfl, rfl⟩ := h; rfl, fun h => by subst h; simp⟩
def zeroV : Vw := ⟨(0, 0), (0, 0), zeroS⟩
def promV (v : Vw) (b : Bal) : Vw := if lessB v.prom b then { v with prom := b } else v
def takeV (v : Vw) (b : Bal) (s : Sta) : Vw := if lessB b v.prom then v else ⟨b, b, s⟩
/-- the vow that was taken at the greatest ballot, of equal ones the first -/
def bestV : Vw → List Vw → Vw
  | b, [] => b
  | b, x :: l => bestV (if lessB b.at' x.at' then x else b) l
theorem bestV_append (b : Vw) (l : List Vw) (x : Vw) : bestV b (l ++ [x]) = if lessB (bestV b l).at' x.at' then x else bestV b l := by
  induction l generalizing b with
  | nil => rfl
  | cons y l ih => exact ih _
theorem bestV_mem (b : Vw) (l : List Vw) : bestV b l = b ∨ bestV b l ∈ l := by
  induction l generalizing b with
  | nil => exact .inl rfl
  | cons y l ih =>
    rcases ih (if lessB b.at' y.at' then y else b) with e | e
    · rw [bestV, e]
      split
      · exact .inr (List.mem_cons_self ..)
      · exact .inl rfl
    · exact .inr (List.mem_cons_of_mem _ e)
/-- what stands for a vow: its state's numbers are Go's, its chests are not too many to read -/
def Vw.fits (v : Vw) : Prop := (v.prom.1 < 9223372036854775808 ∧ v.prom.2 < 9223372036854775808 ∧ v.at'.1 < 9223372036854775808 ∧ v.at'.2 < 9223372036854775808) ∧ v.took.gen < 9223372036854775808 ∧ v.took.epoch < 9223372036854775808 ∧ v.took.recd < 9223372036854775808

def soundV (v : Vw) : Prop := (0 ≤ v.prom.1 ∧ 0 ≤ v.prom.2 ∧ 0 ≤ v.at'.1 ∧ 0 ≤ v.at'.2) ∧ soundS v.took ∧ lessB v.prom v.at' = false
instance (v : Vw) : Decidable (soundV v) := by unfold soundV; exact inferInstance
def vowB (v : Vw) : List UInt8 := encs [v.prom.1, v.prom.2, v.at'.1, v.at'.2] ++ staB v.took
def encV (v : Vw) : List UInt8 × Int := if soundV v then (vowB v, 0) else ([], 2)
/-- the four numbers ahead of the state -/
def rd4 (S : Rest) : (Int × Int × Int × Int) × Rest := let a := rdN S; let b := rdN a.2; let c := rdN b.2; let d := rdN c.2; ((a.1, b.1, c.1, d.1), d.2)
def decV (l : List UInt8) : Vw × Int :=
  match (rd4 (some l)).2 with
  | none => (zeroV, 2)
  | some r =>
    let v : Vw := ⟨((rd4 (some l)).1.1, (rd4 (some l)).1.2.1), ((rd4 (some l)).1.2.2.1, (rd4 (some l)).1.2.2.2), (getSta r).1⟩
    if (getSta r).2 = 0 ∧ soundV v then (v, 0) else (zeroV, 2)
theorem decV_bad {l : List UInt8} (h : (rd4 (some l)).2 = none) : decV l = (zeroV, 2) := by
  unfold decV
  rw [h]
theorem decV_some {l r : List UInt8} {a b c d : Int} (h : rd4 (some l) = ((a, b, c, d), some r)) : decV l = if (getSta r).2 = 0 ∧ soundV ⟨(a, b), (c, d), (getSta r).1⟩ then (⟨(a, b), (c, d), (getSta r).1⟩, 0) else (zeroV, 2) := by
  unfold decV
  rw [h]
theorem dec_encV {v : Vw} (hs : soundV v) (hf : v.fits) : decV (vowB v) = (v, 0) := by
  have hs0 := hs
  obtain ⟨⟨h1, h2, h3, h4⟩, h5, h6⟩ := hs
  obtain ⟨⟨f1, f2, f3, f4⟩, f5⟩ := hf
  have e1 := rdN_enc (n := v.prom.1.toNat) (by omega) (enc v.prom.2.toNat ++ (enc v.at'.1.toNat ++ (enc v.at'.2.toNat ++ staB v.took)))
  have e2 := rdN_enc (n := v.prom.2.toNat) (by omega) (enc v.at'.1.toNat ++ (enc v.at'.2.toNat ++ staB v.took))
  have e3 := rdN_enc (n := v.at'.1.toNat) (by omega) (enc v.at'.2.toNat ++ staB v.took)
  have e4 := rdN_enc (n := v.at'.2.toNat) (by omega) (staB v.took)
  have eb : vowB v = enc v.prom.1.toNat ++ (enc v.prom.2.toNat ++ (enc v.at'.1.toNat ++ (enc v.at'.2.toNat ++ staB v.took))) := by simp [vowB, encs]
  have e : rd4 (some (vowB v)) = ((v.prom.1, v.prom.2, v.at'.1, v.at'.2), some (staB v.took)) := by
    rw [rd4, eb]
    simp only [e1, e2, e3, e4, Int.toNat_of_nonneg h1, Int.toNat_of_nonneg h2, Int.toNat_of_nonneg h3, Int.toNat_of_nonneg h4]
  rw [decV_some e, get_putS h5 f5, if_pos ⟨rfl, hs0⟩]
end Go.Proofs.Ythoheikbpihflaa
namespace Go.Proofs.Ythoheikbpihflaa

theorem vowB_len {v : Vw} (hs : soundV v) (hf : v.fits) : (vowB v).length ≤ 216 := by
  obtain ⟨_, h5, _⟩ := hs
  obtain ⟨⟨f1, f2, f3, f4⟩, g1, g2, g3⟩ := hf
  obtain ⟨_, h2, h3⟩ := h5
  unfold vowB staB
  rw [List.length_append, List.length_append]
  have e1 := encs_len [v.prom.1, v.prom.2, v.at'.1, v.at'.2] (by simp; omega)
  have e2 := encs_len [v.took.gen, v.took.epoch, v.took.recd, (v.took.chests.length : Int)] (by simp; omega)
  have e3 := encs_len v.took.chests (fun n hn => by have := (h3 n hn).2; omega)
  simp only [List.length_cons, List.length_nil] at e1 e2
  omega
theorem lay_one_len {v : Vw} (hs : soundV v) (hf : v.fits) : (lay [vowB v]).length ≤ 1000 := by
  have h1 := vowB_len hs hf
  rw [lay_cons, lay_nil, List.append_nil, recB_len]
  have h2 := enc_len9 (n := (vowB v).length + 4) (by omega)
  omega
theorem zeroV_sound : soundV zeroV := ⟨⟨by decide, by decide, by decide, by decide⟩, ⟨⟨by decide, by decide, by decide⟩, by decide, by simp [zeroV, zeroS]⟩, by decide⟩
theorem zeroV_fits : zeroV.fits := ⟨⟨by decide, by decide, by decide, by decide⟩, by decide, by decide, by decide⟩

/-- the vow, whether it is a record of the tape, so many calls till the tape goes down, whether one was answered so, the tape's room -/
structure Co where
  v : Vw
  put : Bool
  left : Int
  dead : Bool
  room : Int
namespace Co
def l (c : Co) : List (List UInt8) := if c.put then [vowB c.v] else []
def t (c : Co) : Tp := ⟨lay c.l, [], c.room, c.left, c.dead⟩
def b (c : Co) : Bks := ⟨c.l, c.dead, c.t⟩
structure Ok (c : Co) : Prop where
  none : c.put = false → c.v = zeroV
  sound : soundV c.v
  fits : c.v.fits
  low : 1000 ≤ c.room
  high : c.room ≤ 1048576
def start (room : Int) : Co := ⟨zeroV, false, -1, false, room⟩
theorem start_ok {room : Int} (h1 : 1000 ≤ room) (h2 : room ≤ 1048576) : (start room).Ok := ⟨fun _ => rfl, zeroV_sound, zeroV_fits, h1, h2⟩
theorem start_t (room : Int) : (start room).t = ⟨[], [], room, -1, false⟩ := rfl
/-- a vow is laid down -/
def keep (c : Co) (x : Vw) : Int × Co := if c.left = 0 then (11, { c with dead := true }) else (0, { c with v := x, put := true, left := if 0 < c.left then c.left - 1 else c.left })
theorem fits_l {c : Co} (h : c.Ok) : _root_.Go.Proofs.Ythoheikbpihflaa.fits c.l := by
  intro r hr
  unfold l at hr
  split at hr
  · simp only [List.mem_cons, List.not_mem_nil, or_false] at hr
    rw [hr]
    have := vowB_len h.sound h.fits
    show _ ≤ _
    omega
  · cases hr
theorem keep_reset {c : Co} (hd : c.dead = false) (hok : c.Ok) {x : Vw} (hs : soundV x) (hf : x.fits) : c.b.reset [vowB x] = ((c.keep x).1, (c.keep x).2.b) := by
  have h1 := lay_one_len hs hf
  have hfit : _root_.Go.Proofs.Ythoheikbpihflaa.fits [vowB x] := fun r hr => by
    simp only [List.mem_cons, List.not_mem_nil, or_false] at hr
    rw [hr]
    have := vowB_len hs hf
    show _ ≤ _
    omega
  have hlow := hok.low
  obtain ⟨v, put, left, dead, room⟩ := c
  simp only at hd hlow
  subst hd
  have hw : (⟨lay (Co.l ⟨v, put, left, false, room⟩), [], room, left, false⟩ : Tp).repl (lay [vowB x]) = (if left = 0 then (11, ⟨lay (Co.l ⟨v, put, left, false, room⟩), [], room, left, true⟩) else (0, ⟨lay [vowB x], [], room, (if 0 < left then left - 1 else left), false⟩)) := by
    unfold Tp.repl Tp.write
    have hrm : ¬ room < ((lay [vowB x]).length : Int) := by omega
    by_cases h0 : left = 0
    · simp [h0, hrm]
    · by_cases h2 : 0 < left
      · simp [h0, h2, hrm]
      · simp [h0, h2, hrm]
  unfold Bks.reset keep b t
  simp only [Bool.false_eq_true, if_false]
  rw [if_neg (by simpa using hfit), hw]
  by_cases h0 : left = 0
  · subst h0
    simp [l]
  · simp [h0, l]
theorem keep_err (c : Co) (x : Vw) : (c.keep x).1 = 0 ∨ (c.keep x).1 = 11 := by
  unfold keep
  split
  · exact .inr rfl
  · exact .inl rfl
theorem keep_ok {c : Co} (h : c.Ok) {x : Vw} (hs : soundV x) (hf : x.fits) : (c.keep x).2.Ok := by
  unfold keep
  split
  · exact ⟨h.none, h.sound, h.fits, h.low, h.high⟩
  · exact ⟨(fun e => by cases e), hs, hf, h.low, h.high⟩
end Co

/-- the vow behind a call, whether it was given, and the error: What 0 and 1 ask for a promise, the others have a state to be taken -/
def nextV (v : Vw) (what : Int) (b : Bal) (s : Sta) : Vw × Bool × Int :=
  if b.1 < 0 ∨ b.2 < 0 then (v, false, 1) else if what < 2 then (promV v b, lessB v.prom b, 0) else if soundS s then (takeV v b s, !lessB b v.prom, 0) else (v, false, 2)
theorem nextV_same {v : Vw} {what : Int} {b : Bal} {s : Sta} (h : (nextV v what b s).2.1 = false) : (nextV v what b s).1 = v := by
  unfold nextV at h ⊢
  split
  · rfl
  · rename_i h1
    rw [if_neg h1] at h
    split
    · rename_i h2
      rw [if_pos h2] at h
      unfold promV
      rw [if_neg (by simp only at h; rw [h]; decide)]
    · rename_i h2
      rw [if_neg h2] at h
      split
      · rename_i h3
        rw [if_pos h3] at h
        unfold takeV
        simp only [Bool.not_eq_false'] at h
        rw [if_pos h]
      · rfl
theorem nextV_err {v : Vw} {what : Int} {b : Bal} {s : Sta} (h : (nextV v what b s).2.2 ≠ 0) : (nextV v what b s).2.1 = false := by
  unfold nextV at h ⊢
  split
  · rfl
  · rename_i h1
    rw [if_neg h1] at h
    split
    · rename_i h2; rw [if_pos h2] at h; exact absurd rfl h
    · rename_i h2
      rw [if_neg h2] at h
      split
      · rename_i h3; rw [if_pos h3] at h; exact absurd rfl h
      · rfl
theorem promV_sound {v : Vw} {b : Bal} (h : soundV v) (h1 : 0 ≤ b.1) (h2 : 0 ≤ b.2) : soundV (promV v b) := by
  unfold promV
  split
  · rename_i hl
    obtain ⟨⟨a1, a2, a3, a4⟩, a5, a6⟩ := h
    refine ⟨⟨h1, h2, a3, a4⟩, a5, ?_⟩
    rw [lessB_iff] at hl
    rw [lessB_not] at a6 ⊢
    simp only
    omega
  · exact h
theorem takeV_sound {v : Vw} {b : Bal} {s : Sta} (h : soundV v) (h1 : 0 ≤ b.1) (h2 : 0 ≤ b.2) (hs : soundS s) : soundV (takeV v b s) := by
  unfold takeV
  split
  · exact h
  · exact ⟨⟨h1, h2, h1, h2⟩, hs, lessB_self _⟩
def Sta.small (s : Sta) : Prop := s.gen < 9223372036854775808 ∧ s.epoch < 9223372036854775808 ∧ s.recd < 9223372036854775808
theorem nextV_sound {v : Vw} {what : Int} {b : Bal} {s : Sta} (h : soundV v) : soundV (nextV v what b s).1 := by
  unfold nextV
  split
  · exact h
  · rename_i h1
    split
    · exact promV_sound h (by omega) (by omega)
    · split
      · rename_i h3
        exact takeV_sound h (by omega) (by omega) h3
      · exact h
theorem nextV_fits {v : Vw} {what : Int} {b : Bal} {s : Sta} (h : v.fits) (h1 : b.1 < 9223372036854775808) (h2 : b.2 < 9223372036854775808) (hs : s.small) : (nextV v what b s).1.fits := by
  obtain ⟨⟨a1, a2, a3, a4⟩, a5⟩ := h
  unfold nextV
  split
  · exact ⟨⟨a1, a2, a3, a4⟩, a5⟩
  · split
    · unfold promV
      split
      · exact ⟨⟨h1, h2, a3, a4⟩, a5⟩
      · exact ⟨⟨a1, a2, a3, a4⟩, a5⟩
    · split
      · unfold takeV
        split
        · exact ⟨⟨a1, a2, a3, a4⟩, a5⟩
        · exact ⟨⟨h1, h2, h1, h2⟩, hs⟩
      · exact ⟨⟨a1, a2, a3, a4⟩, a5⟩

namespace Co
/-- a call of it: the error, whether it was given, and the council behind -/
def step (c : Co) (what : Int) (b : Bal) (s : Sta) : Int × Bool × Co :=
  if c.dead then (11, false, c) else
  if (nextV c.v what b s).2.2 ≠ 0 then ((nextV c.v what b s).2.2, false, c) else
  if (nextV c.v what b s).2.1 = false then (0, false, c) else
  ((c.keep (nextV c.v what b s).1).1, decide ((c.keep (nextV c.v what b s).1).1 = 0), (c.keep (nextV c.v what b s).1).2)
variable {c : Co} {what : Int} {b : Bal} {s : Sta}
theorem step_ok (h : c.Ok) (h1 : b.1 < 9223372036854775808) (h2 : b.2 < 9223372036854775808) (hs : s.small) : (c.step what b s).2.2.Ok := by
  unfold step
  split
  · exact h
  · split
    · exact h
    · split
      · exact h
      · exact keep_ok h (nextV_sound h.sound) (nextV_fits h.fits h1 h2 hs)
theorem step_dead (h : c.dead = true) : c.step what b s = (11, false, c) := by unfold step; rw [if_pos h]
theorem step_room : (c.step what b s).2.2.room = c.room := by
  unfold step
  repeat' split
  all_goals (first | rfl | (unfold keep; split <;> rfl))
/-- what a council that lives answers -/
theorem step_live (h : c.dead = false) :
    ((nextV c.v what b s).2.2 ≠ 0 ∧ c.step what b s = ((nextV c.v what b s).2.2, false, c)) ∨
    ((nextV c.v what b s).2.2 = 0 ∧ (c.step what b s).1 = 11 ∧ (c.step what b s).2.1 = false ∧ (c.step what b s).2.2.dead = true ∧ (c.step what b s).2.2.v = c.v) ∨
    ((nextV c.v what b s).2.2 = 0 ∧ (c.step what b s).1 = 0 ∧ (c.step what b s).2.1 = (nextV c.v what b s).2.1 ∧ (c.step what b s).2.2.dead = false ∧ (c.step what b s).2.2.v = (nextV c.v what b s).1) := by
  unfold step
  rw [if_neg (by rw [h]; decide)]
  by_cases h1 : (nextV c.v what b s).2.2 ≠ 0
  · rw [if_pos h1]
    exact .inl ⟨h1, rfl⟩
  · rw [if_neg h1]
    have h1' : (nextV c.v what b s).2.2 = 0 := by simpa using h1
    by_cases h2 : (nextV c.v what b s).2.1 = false
    · rw [if_pos h2]
      exact .inr (.inr ⟨h1', rfl, h2.symm, h, (nextV_same h2).symm⟩)
    · rw [if_neg h2]
      have h2' : (nextV c.v what b s).2.1 = true := by simpa using h2
      unfold keep
      by_cases h3 : c.left = 0
      · rw [if_pos h3]
        exact .inr (.inl ⟨h1', rfl, by simp, rfl, rfl⟩)
      · rw [if_neg h3]
        exact .inr (.inr ⟨h1', rfl, by simp [h2'], h, rfl⟩)
/-- one that has not to go down -/
theorem step_calm (h : c.dead = false) (hl : c.left < 0) : (c.step what b s).2.2.dead = false ∧ (c.step what b s).2.2.left = c.left ∧ (c.step what b s).1 = (nextV c.v what b s).2.2 ∧ (c.step what b s).2.1 = (nextV c.v what b s).2.1 ∧ (c.step what b s).2.2.v = (nextV c.v what b s).1 := by
  unfold step
  rw [if_neg (by rw [h]; decide)]
  by_cases h1 : (nextV c.v what b s).2.2 ≠ 0
  · rw [if_pos h1]
    exact ⟨h, rfl, rfl, (nextV_err h1).symm, (nextV_same (nextV_err h1)).symm⟩
  · rw [if_neg h1]
    have h1' : (nextV c.v what b s).2.2 = 0 := by simpa using h1
    by_cases h2 : (nextV c.v what b s).2.1 = false
    · rw [if_pos h2]
      exact ⟨h, rfl, h1'.symm, h2.symm, (nextV_same h2).symm⟩
    · rw [if_neg h2]
      have h2' : (nextV c.v what b s).2.1 = true := by simpa using h2
      unfold keep
      rw [if_neg (by omega), if_neg (by omega)]
      exact ⟨h, rfl, h1'.symm, by simp [h2'], rfl⟩
/-- behind a crash the tape has what it had -/
theorem crash_t (keep : Int) (turn : UInt8) : c.t.crash keep turn = ({ c with dead := false, left := -1 } : Co).t := by
  have h : Tp.kept [] keep turn = [] := List.eq_nil_of_length_eq_zero (by have := Tp.kept_len [] keep turn; simpa using this)
  unfold t Tp.crash
  simp only [h, List.append_nil]
  rfl
theorem crash_ok (h : c.Ok) : ({ c with dead := false, left := -1 } : Co).Ok := ⟨h.none, h.sound, h.fits, h.low, h.high⟩
theorem fail_ok (h : c.Ok) (n : Int) : ({ c with left := n } : Co).Ok := ⟨h.none, h.sound, h.fits, h.low, h.high⟩
/-- Open finds it -/
theorem opens_t (h : c.Ok) (hd : c.dead = false) : Bks.opens c.t = (0, c.b) := by
  have hr : readAns (Bks.all c.t) = (c.l, (lay c.l).length) := by
    have := read_lay c.l [] (fits_l h) one_nil
    unfold Bks.all t
    exact this
  unfold Bks.opens
  rw [hr]
  simp only
  rw [if_neg (by show ¬ c.dead = true; rw [hd]; decide), if_neg (by unfold Bks.all t; simp)]
  unfold b
  rw [hd]
theorem tape_ok (h : c.Ok) : c.t.Ok := by
  have h1 := h.low
  have h2 := h.high
  refine ⟨by show (0 : Int) ≤ c.room; omega, h.high, ?_⟩
  show (((lay c.l).length + 0 : Nat) : Int) ≤ c.room
  have : (lay c.l).length ≤ 1000 := by
    unfold l
    split
    · exact lay_one_len h.sound h.fits
    · simp [lay]
  omega
end Co
end Go.Proofs.Ythoheikbpihflaa

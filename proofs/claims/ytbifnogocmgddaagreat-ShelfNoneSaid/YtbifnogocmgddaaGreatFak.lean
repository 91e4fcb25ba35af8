/- The tape as a state, and what the laws of stage 6 need of it: pure, no program. The book as a state, and what BookPlays asks of it: pure. The program's tape: what each of its calls leaves, told by the tape as a state. The program's tape: its calls. The program's book at its blocks, over its tape; what its Records answer. What the reference's Seal and Open answer. What the reference's Lay and Same answer, and the law's own fits. The writer: what its calls leave. -/
import Derived.Test.YtbifnogocmgddaaGreatFaj
import Derived.Test.YtbifnogocmgddaaGreatFab
import Derived.Test.YtbifnogocmgddaaGreatFai
import Derived.Lib.SlBytesConst
import Derived.Lib.SmallJoins
namespace Go.Proofs.YtbifnogocmgddaaGreat

structure Tp where
  sure : List UInt8
  loose : List UInt8
  room : Int
  left : Int
  down : Bool

namespace Tp
/-- one call that leaves so many bytes: 0, ErrFull 10 or ErrDown 11 -/
def write (t : Tp) (size : Nat) : Int × Tp :=
  if t.down = true then (11, t)
  else if (size : Int) > t.room then (10, t)
  else if t.left = 0 then (11, { t with down := true })
  else if t.left > 0 then (0, { t with left := t.left - 1 }) else (0, t)
def add (t : Tp) (b : List UInt8) : Int × Tp :=
  let r := t.write (t.sure.length + t.loose.length + b.length)
  if r.1 = 0 then (0, { r.2 with loose := t.loose ++ b }) else r
def sync (t : Tp) : Int × Tp :=
  let r := t.write 0
  if r.1 = 0 then (0, { r.2 with sure := t.sure ++ t.loose, loose := [] }) else r
def repl (t : Tp) (b : List UInt8) : Int × Tp :=
  let r := t.write b.length
  if r.1 = 0 then (0, { r.2 with sure := b, loose := [] }) else r
def fail (t : Tp) (n : Int) : Tp := { t with left := n }
/-- what lasts of the loose ones -/
def kept (l : List UInt8) (keep : Int) (turn : UInt8) : List UInt8 :=
  if (l.length : Int) ≤ keep then l
  else if turn = 0 then l.take keep.toNat
  else l.take keep.toNat ++ (l[keep.toNat]?.map fun x => x ^^^ turn).toList
def crash (t : Tp) (keep : Int) (turn : UInt8) : Tp :=
  { t with sure := t.sure ++ kept t.loose keep turn, loose := [], down := false, left := -1 }
/-- what is asked of every tape: its bytes have room -/
def Ok (t : Tp) : Prop := 0 ≤ t.room ∧ t.room ≤ 1048576 ∧ ((t.sure.length + t.loose.length : Nat) : Int) ≤ t.room

theorem write_ok {t : Tp} {n : Nat} (h : (t.write n).1 = 0) : (n : Int) ≤ t.room := by
  unfold write at h
  split at h
  · cases h
  · split at h
    · cases h
    · omega
theorem write_keeps (t : Tp) (n : Nat) : (t.write n).2.sure = t.sure ∧ (t.write n).2.loose = t.loose ∧ (t.write n).2.room = t.room := by
  unfold write; repeat' split
  all_goals exact ⟨rfl, rfl, rfl⟩
theorem Ok.write {t : Tp} (h : t.Ok) (n : Nat) : (t.write n).2.Ok := by
  obtain ⟨h1, h2, h3⟩ := write_keeps t n
  unfold Ok at h ⊢; rw [h1, h2, h3]; exact h
theorem Ok.add {t : Tp} (h : t.Ok) (b : List UInt8) : (t.add b).2.Ok := by
  unfold Tp.add
  simp only
  split
  · rename_i h0
    have hr := write_ok h0
    obtain ⟨h1, h2, h3⟩ := write_keeps t (t.sure.length + t.loose.length + b.length)
    unfold Ok at h ⊢
    simp only [h1, h3, List.length_append]
    omega
  · exact h.write _
theorem Ok.sync {t : Tp} (h : t.Ok) : (t.sync).2.Ok := by
  unfold Tp.sync
  simp only
  split
  · obtain ⟨h1, h2, h3⟩ := write_keeps t 0
    unfold Ok at h ⊢
    simp only [h3, List.length_append, List.length_nil]
    omega
  · exact h.write _
theorem Ok.repl {t : Tp} (h : t.Ok) (b : List UInt8) : (t.repl b).2.Ok := by
  unfold Tp.repl
  simp only
  split
  · rename_i h0
    have hr := write_ok h0
    obtain ⟨h1, h2, h3⟩ := write_keeps t b.length
    unfold Ok at h ⊢
    simp only [h3, List.length_nil]
    omega
  · exact h.write _
theorem kept_len (l : List UInt8) (keep : Int) (turn : UInt8) : (kept l keep turn).length ≤ l.length := by
  unfold kept
  split
  · exact Nat.le_refl _
  · split
    · simp; omega
    · rename_i h _
      have hk : keep.toNat < l.length ∨ l.length = 0 := by omega
      rcases hk with hk | hk
      · simp [List.getElem?_eq_getElem hk]; omega
      · rw [List.eq_nil_of_length_eq_zero hk]; simp
theorem Ok.crash {t : Tp} (h : t.Ok) (keep : Int) (turn : UInt8) : (t.crash keep turn).Ok := by
  have := kept_len t.loose keep turn
  unfold Ok at h ⊢
  simp only [Tp.crash, List.length_append, List.length_nil]
  omega
/-- what lasts begins as what was there, but for perhaps the last one -/
theorem kept_at (l : List UInt8) (keep : Int) (turn : UInt8) (i : Nat) (hi : i + 1 < (kept l keep turn).length) : (kept l keep turn)[i]? = l[i]? := by
  unfold kept at hi ⊢
  split at hi
  · rename_i h; simp only [if_pos h]
  · rename_i h
    simp only [if_neg h]
    split at hi
    · rename_i h2
      simp only [if_pos h2]
      rw [List.getElem?_take]
      simp only [List.length_take] at hi
      rw [if_pos (by omega)]
    · rename_i h2
      simp only [if_neg h2]
      have hlt : keep.toNat < l.length := by
        rcases Nat.lt_or_ge keep.toNat l.length with h' | h'
        · exact h'
        · have : l.length = 0 := by omega
          rw [List.eq_nil_of_length_eq_zero this] at hi
          simp at hi
      simp only [List.getElem?_eq_getElem hlt, Option.map_some, Option.toList_some, List.length_append, List.length_take, List.length_cons, List.length_nil] at hi ⊢
      have hik : i < keep.toNat := by omega
      rw [List.getElem?_append_left (by simp; omega), List.getElem?_take, if_pos hik]
theorem crash_at (t : Tp) (keep : Int) (turn : UInt8) (i : Nat) (hi : i < (t.crash keep turn).sure.length) (hne : (t.crash keep turn).sure[i]? ≠ (t.sure ++ t.loose)[i]?) : t.sure.length ≤ i ∧ i + 1 = (t.crash keep turn).sure.length := by
  simp only [Tp.crash] at hi hne ⊢
  rcases Nat.lt_or_ge i t.sure.length with h | h
  · exact absurd (by rw [List.getElem?_append_left h, List.getElem?_append_left h]) hne
  · refine ⟨h, ?_⟩
    rcases Nat.lt_or_ge (i + 1) (t.sure ++ kept t.loose keep turn).length with h2 | h2
    · refine absurd ?_ hne
      rw [List.getElem?_append_right h, List.getElem?_append_right h]
      exact kept_at _ _ _ _ (by simp only [List.length_append] at h2; omega)
    · omega

/-- a tape that has not to go down: what one call says hangs on the room alone -/
theorem write_live {t : Tp} (hd : t.down = false) (hl : t.left < 0) (n : Nat) : t.write n = if (n : Int) > t.room then (10, t) else (0, t) := by
  unfold write
  rw [if_neg (by simp [hd])]
  split
  · rfl
  · rw [if_neg (by omega), if_neg (by omega)]
theorem add_live {t : Tp} (hd : t.down = false) (hl : t.left < 0) (b : List UInt8) (hr : ((t.sure.length + t.loose.length + b.length : Nat) : Int) ≤ t.room) : t.add b = (0, { t with loose := t.loose ++ b }) := by
  have h := write_live hd hl (t.sure.length + t.loose.length + b.length)
  rw [if_neg (by omega)] at h
  unfold add
  rw [h]
  rfl
theorem sync_live {t : Tp} (hd : t.down = false) (hl : t.left < 0) (hr : 0 ≤ t.room) : t.sync = (0, { t with sure := t.sure ++ t.loose, loose := [] }) := by
  have h := write_live hd hl 0
  rw [if_neg (by omega)] at h
  unfold sync
  rw [h]
  rfl
theorem crash_sync {t : Tp} (hr : 0 ≤ t.room) (keep : Int) (turn : UInt8) : ((t.crash keep turn).sync).1 = 0 := by
  have h := sync_live (t := t.crash keep turn) rfl (by show (-1 : Int) < 0; omega) hr
  rw [h]

/-- TapeFails: what holds ahead of call i -/
def FailInv (n i : Nat) (t : Tp) : Prop :=
  t.room = 1000 ∧ t.sure.length + t.loose.length ≤ 1 ∧ (i ≤ n → t.down = false ∧ t.left = (n : Int) - i) ∧ (n < i → t.down = true)
theorem FailInv.write {n i : Nat} {t : Tp} (h : FailInv n i t) {k : Nat} (hk : k ≤ 1) :
    (i < n ∧ t.write k = (0, { t with left := t.left - 1 })) ∨ (n ≤ i ∧ (t.write k).1 = 11 ∧ FailInv n (i + 1) (t.write k).2) := by
  obtain ⟨h1, h2, h3, h4⟩ := h
  rcases Nat.lt_or_ge i n with hi | hi
  · obtain ⟨h5, h6⟩ := h3 (by omega)
    refine .inl ⟨hi, ?_⟩
    unfold Tp.write
    rw [if_neg (by simp [h5]), if_neg (by omega), if_neg (by omega), if_pos (by omega)]
  · refine .inr ⟨hi, ?_⟩
    rcases Nat.lt_or_ge n i with hn | hn
    · have h5 := h4 hn
      unfold Tp.write
      rw [if_pos h5]
      exact ⟨rfl, h1, h2, fun h => by omega, fun _ => h5⟩
    · obtain ⟨h5, h6⟩ := h3 hn
      unfold Tp.write
      rw [if_neg (by simp [h5]), if_neg (by omega), if_pos (by omega)]
      exact ⟨rfl, h1, h2, fun h => by omega, fun _ => rfl⟩
theorem FailInv.add {n i : Nat} {t : Tp} (h : FailInv n i t) :
    ((t.add []).1 = if i < n then 0 else 11) ∧ FailInv n (i + 1) (t.add []).2 := by
  have h0 := h
  obtain ⟨h1, h2, h3, _⟩ := h0
  unfold Tp.add
  simp only [List.length_nil, Nat.add_zero, List.append_nil]
  rcases h.write h2 with ⟨hi, hw⟩ | ⟨hi, hw, hn⟩
  · rw [hw, if_pos rfl, if_pos hi]
    obtain ⟨h5, h6⟩ := h3 (by omega)
    exact ⟨rfl, h1, h2, fun _ => ⟨h5, by show t.left - 1 = _; omega⟩, fun h => by omega⟩
  · rw [if_neg (by omega), if_neg (by omega)]
    exact ⟨hw, hn⟩
theorem FailInv.sync {n i : Nat} {t : Tp} (h : FailInv n i t) :
    (t.sync.1 = if i < n then 0 else 11) ∧ FailInv n (i + 1) t.sync.2 := by
  have h0 := h
  obtain ⟨h1, h2, h3, _⟩ := h0
  unfold Tp.sync
  simp only
  rcases h.write (k := 0) (by omega) with ⟨hi, hw⟩ | ⟨hi, hw, hn⟩
  · rw [hw, if_pos rfl, if_pos hi]
    obtain ⟨h5, h6⟩ := h3 (by omega)
    exact ⟨rfl, h1, by simpa using h2, fun _ => ⟨h5, by show t.left - 1 = _; omega⟩, fun h => by omega⟩
  · rw [if_neg (by omega), if_neg (by omega)]
    exact ⟨hw, hn⟩
theorem FailInv.repl {n i : Nat} {t : Tp} (h : FailInv n i t) (x : UInt8) :
    ((t.repl [x]).1 = if i < n then 0 else 11) ∧ FailInv n (i + 1) (t.repl [x]).2 := by
  have h0 := h
  obtain ⟨h1, h2, h3, _⟩ := h0
  unfold Tp.repl
  simp only [List.length_cons, List.length_nil]
  rcases h.write (k := 0 + 1) (by omega) with ⟨hi, hw⟩ | ⟨hi, hw, hn⟩
  · rw [hw, if_pos rfl, if_pos hi]
    obtain ⟨h5, h6⟩ := h3 (by omega)
    exact ⟨rfl, h1, by simp, fun _ => ⟨h5, by show t.left - 1 = _; omega⟩, fun h => by omega⟩
  · rw [if_neg (by omega), if_neg (by omega)]
    exact ⟨hw, hn⟩
theorem FailInv.start (n : Nat) : FailInv n 0 (fail ⟨[], [], 1000, -1, false⟩ n) :=
  ⟨rfl, by simp [fail], fun _ => ⟨rfl, by simp [fail]⟩, fun h => by omega⟩
end Tp
end Go.Proofs.YtbifnogocmgddaaGreat
namespace Go.Proofs.YtbifnogocmgddaaGreat

/-- the records that it has, whether a call of it was answered with ErrDown, and its tape -/
structure Bks where
  l : List (List UInt8)
  dead : Bool
  t : Tp
def fits (l : List (List UInt8)) : Prop := ∀ r ∈ l, fitR r
instance (l : List (List UInt8)) : Decidable (fits l) := by unfold fits fitR; exact inferInstance
namespace Bks
def add (b : Bks) (list : List (List UInt8)) : Int × Bks :=
  if b.dead = true then (11, b) else if ¬ fits list then (6, b) else
  if (b.t.add (lay list)).1 ≠ 0 then ((b.t.add (lay list)).1, { b with t := (b.t.add (lay list)).2, dead := decide ((b.t.add (lay list)).1 = 11) })
  else if (b.t.add (lay list)).2.sync.1 ≠ 0 then ((b.t.add (lay list)).2.sync.1, { b with t := (b.t.add (lay list)).2.sync.2, dead := decide ((b.t.add (lay list)).2.sync.1 = 11) })
  else (0, ⟨b.l ++ list, false, (b.t.add (lay list)).2.sync.2⟩)
def reset (b : Bks) (list : List (List UInt8)) : Int × Bks :=
  if b.dead = true then (11, b) else if ¬ fits list then (6, b) else
  if (b.t.repl (lay list)).1 ≠ 0 then ((b.t.repl (lay list)).1, { b with t := (b.t.repl (lay list)).2, dead := decide ((b.t.repl (lay list)).1 = 11) })
  else (0, ⟨list, false, (b.t.repl (lay list)).2⟩)
/-- the bytes of a tape -/
def all (t : Tp) : List UInt8 := t.sure ++ t.loose
/-- Open: the error, the book, the tape behind it -/
def opens (t : Tp) : Int × Bks :=
  if t.down = true then (11, ⟨[], false, t⟩) else
  if (readAns (all t)).2 < (all t).length then
    (if (t.repl ((all t).take (readAns (all t)).2)).1 ≠ 0 then ((t.repl ((all t).take (readAns (all t)).2)).1, ⟨[], false, (t.repl ((all t).take (readAns (all t)).2)).2⟩) else (0, ⟨(readAns (all t)).1, false, (t.repl ((all t).take (readAns (all t)).2)).2⟩))
  else (0, ⟨(readAns (all t)).1, false, t⟩)

/-- what BookPlays knows -/
def Inv (now cut : List (List UInt8)) (b : Bks) : Prop :=
  fits now ∧ b.t.sure = lay now ∧ b.t.room = 262144 ∧ b.t.Ok ∧
    ((b.dead = false ∧ b.l = now ∧ b.t.down = false ∧ b.t.loose = []) ∨
     (b.dead = true ∧ b.t.down = true ∧ (b.t.loose = [] ∨ ∃ list, fits list ∧ b.t.loose = lay list ∧ cut = now ++ list)))

theorem write_not_down {t : Tp} (hd : t.down = false) (n : Nat) (h : (t.write n).1 ≠ 11) : (t.write n).2.down = false ∧ ((t.write n).1 = 10 → (t.write n).2 = t ∧ (n : Int) > t.room) := by
  unfold Tp.write at h ⊢
  rw [if_neg (by simp [hd])] at h ⊢
  split
  · rename_i h1; exact ⟨hd, fun _ => ⟨rfl, h1⟩⟩
  · rename_i h1
    rw [if_neg h1] at h
    split
    · rename_i h2; rw [if_pos h2] at h; exact absurd rfl h
    · split
      · exact ⟨hd, fun h => by simp at h⟩
      · exact ⟨hd, fun h => by simp at h⟩
theorem write_down {t : Tp} (hd : t.down = false) (n : Nat) (h : (t.write n).1 = 11) : (t.write n).2 = { t with down := true } := by
  unfold Tp.write at h ⊢
  rw [if_neg (by simp [hd])] at h ⊢
  split
  · rename_i h1; rw [if_pos h1] at h; simp at h
  · rename_i h1
    rw [if_neg h1] at h
    split
    · rfl
    · rename_i h2
      rw [if_neg h2] at h
      split at h <;> simp at h
theorem write_err (t : Tp) (n : Nat) : (t.write n).1 = 0 ∨ (t.write n).1 = 10 ∨ (t.write n).1 = 11 := by
  unfold Tp.write
  split
  · exact .inr (.inr rfl)
  · split
    · exact .inr (.inl rfl)
    · split
      · exact .inr (.inr rfl)
      · split <;> exact .inl rfl

/-- Add, of a book that lives -/
theorem add_law {now cut list : List (List UInt8)} {b : Bks} (h : Inv now cut b) (hd : b.dead = false) (hf : fits list) :
    ((b.add list).1 = 11 ∧ (b.add list).2.dead = true ∧ Inv now (now ++ list) (b.add list).2) ∨
    ((b.add list).1 = 0 ∧ (b.add list).2.dead = false ∧ Inv (now ++ list) (now ++ list) (b.add list).2) ∨
    ((b.add list).1 = 10 ∧ (b.add list).2.dead = false ∧ (lay (now ++ list)).length > 262144 ∧ Inv now cut (b.add list).2) := by
  obtain ⟨l, dead, t⟩ := b
  obtain ⟨h1, h2, h3, h4, h5⟩ := h
  simp only at hd h2 h3 h4 h5
  subst hd
  have h5' : l = now ∧ t.down = false ∧ t.loose = [] := by
    rcases h5 with ⟨_, a⟩ | ⟨a, _⟩
    · exact a
    · cases a
  obtain ⟨hl, h6, h7⟩ := h5'
  obtain ⟨n, hn⟩ : ∃ n, n = t.sure.length + t.loose.length + (lay list).length := ⟨_, rfl⟩
  have hadd : t.add (lay list) = if (t.write n).1 = 0 then (0, { (t.write n).2 with loose := t.loose ++ lay list }) else t.write n := by rw [hn]; rfl
  obtain ⟨k1, k2, k3⟩ := Tp.write_keeps t n
  unfold add
  simp only
  rw [if_neg (by simp), if_neg (by simpa using hf)]
  rcases write_err t n with he | he | he
  · rw [hadd, if_pos he]
    simp only [ne_eq, not_true, if_false]
    have hok1 : Tp.Ok { (t.write n).2 with loose := t.loose ++ lay list } := by
      have := Tp.Ok.add h4 (lay list)
      rw [hadd, if_pos he] at this
      exact this
    obtain ⟨g1, _⟩ := write_not_down h6 n (by rw [he]; decide)
    obtain ⟨t1, ht1⟩ : ∃ t1, t1 = { (t.write n).2 with loose := t.loose ++ lay list } := ⟨_, rfl⟩
    rw [← ht1] at hok1 ⊢
    have e1 : t1.sure = lay now := by rw [ht1]; simp only [k1, h2]
    have e2 : t1.loose = lay list := by rw [ht1]; simp only [h7, List.nil_append]
    have e3 : t1.room = 262144 := by rw [ht1]; simp only [k3, h3]
    have e4 : t1.down = false := by rw [ht1]; exact g1
    have hsy : t1.sync = if (t1.write 0).1 = 0 then (0, { (t1.write 0).2 with sure := t1.sure ++ t1.loose, loose := [] }) else t1.write 0 := rfl
    obtain ⟨m1, m2, m3⟩ := Tp.write_keeps t1 0
    rcases write_err t1 0 with he1 | he1 | he1
    · rw [hsy, if_pos he1]
      simp only [not_true, if_false]
      refine .inr (.inl ⟨trivial, trivial, ?_, ?_, ?_, ?_, .inl ⟨rfl, by simp only [hl], ?_, rfl⟩⟩)
      · intro x hx
        rcases List.mem_append.1 hx with hx | hx
        · exact h1 x hx
        · exact hf x hx
      · simp only [e1, e2, lay_append]
      · simp only [m3, e3]
      · have := Tp.Ok.sync hok1
        rw [hsy, if_pos he1] at this
        exact this
      · exact (write_not_down e4 0 (by rw [he1]; decide)).1
    · exfalso
      have := (write_not_down e4 0 (by rw [he1]; decide)).2 he1
      rw [e3] at this
      have h9 := this.2
      omega
    · have hsy2 : t1.sync = t1.write 0 := by rw [hsy, if_neg (by rw [he1]; decide)]
      rw [hsy2, if_pos (by rw [he1]; decide)]
      refine .inl ⟨he1, by simp [he1], h1, ?_, ?_, hok1.write 0, .inr ⟨by simp [he1], ?_, .inr ⟨list, hf, ?_, rfl⟩⟩⟩
      · simp only [m1, e1]
      · simp only [m3, e3]
      · simp only [write_down e4 0 he1]
      · simp only [m2, e2]
  · have hadd2 : t.add (lay list) = t.write n := by rw [hadd, if_neg (by rw [he]; decide)]
    rw [hadd2, if_pos (by rw [he]; decide)]
    obtain ⟨g1, g2⟩ := write_not_down h6 n (by rw [he]; decide)
    obtain ⟨g3, g4⟩ := g2 he
    refine .inr (.inr ⟨he, by simp [he], ?_, h1, ?_, ?_, h4.write n, .inl ⟨by simp [he], hl, g1, ?_⟩⟩)
    · rw [lay_append, List.length_append]
      rw [hn, h2, h7, h3] at g4
      simp only [List.length_nil] at g4
      omega
    · simp only [k1, h2]
    · simp only [k3, h3]
    · simp only [k2, h7]
  · have hadd2 : t.add (lay list) = t.write n := by rw [hadd, if_neg (by rw [he]; decide)]
    rw [hadd2, if_pos (by rw [he]; decide)]
    refine .inl ⟨he, by simp [he], h1, ?_, ?_, h4.write n, .inr ⟨by simp [he], ?_, .inl ?_⟩⟩
    · simp only [k1, h2]
    · simp only [k3, h3]
    · simp only [write_down h6 n he]
    · simp only [k2, h7]
/-- Reset, of a book that lives -/
theorem reset_law {now cut list : List (List UInt8)} {b : Bks} (h : Inv now cut b) (hd : b.dead = false) (hf : fits list) :
    ((b.reset list).1 = 11 ∧ (b.reset list).2.dead = true ∧ Inv now list (b.reset list).2) ∨
    ((b.reset list).1 = 0 ∧ (b.reset list).2.dead = false ∧ Inv list list (b.reset list).2) ∨
    ((b.reset list).1 = 10 ∧ (b.reset list).2.dead = false ∧ (lay list).length > 262144 ∧ Inv now cut (b.reset list).2) := by
  obtain ⟨l, dead, t⟩ := b
  obtain ⟨h1, h2, h3, h4, h5⟩ := h
  simp only at hd h2 h3 h4 h5
  subst hd
  have h5' : l = now ∧ t.down = false ∧ t.loose = [] := by
    rcases h5 with ⟨_, a⟩ | ⟨a, _⟩
    · exact a
    · cases a
  obtain ⟨hl, h6, h7⟩ := h5'
  obtain ⟨n, hn⟩ : ∃ n, n = (lay list).length := ⟨_, rfl⟩
  have hrep : t.repl (lay list) = if (t.write n).1 = 0 then (0, { (t.write n).2 with sure := lay list, loose := [] }) else t.write n := by rw [hn]; rfl
  obtain ⟨k1, k2, k3⟩ := Tp.write_keeps t n
  unfold reset
  simp only
  rw [if_neg (by simp), if_neg (by simpa using hf)]
  rcases write_err t n with he | he | he
  · rw [hrep, if_pos he]
    simp only [ne_eq, not_true, if_false]
    refine .inr (.inl ⟨trivial, trivial, hf, rfl, ?_, ?_, .inl ⟨rfl, rfl, ?_, rfl⟩⟩)
    · simp only [k3, h3]
    · have := Tp.Ok.repl h4 (lay list)
      rw [hrep, if_pos he] at this
      exact this
    · exact (write_not_down h6 n (by rw [he]; decide)).1
  · have hrep2 : t.repl (lay list) = t.write n := by rw [hrep, if_neg (by rw [he]; decide)]
    rw [hrep2, if_pos (by rw [he]; decide)]
    obtain ⟨g1, g2⟩ := write_not_down h6 n (by rw [he]; decide)
    obtain ⟨g3, g4⟩ := g2 he
    refine .inr (.inr ⟨he, by simp [he], ?_, h1, ?_, ?_, h4.write n, .inl ⟨by simp [he], hl, g1, ?_⟩⟩)
    · rw [hn, h3] at g4; omega
    · simp only [k1, h2]
    · simp only [k3, h3]
    · simp only [k2, h7]
  · have hrep2 : t.repl (lay list) = t.write n := by rw [hrep, if_neg (by rw [he]; decide)]
    rw [hrep2, if_pos (by rw [he]; decide)]
    refine .inl ⟨he, by simp [he], h1, ?_, ?_, h4.write n, .inr ⟨by simp [he], ?_, .inl ?_⟩⟩
    · simp only [k1, h2]
    · simp only [k3, h3]
    · simp only [write_down h6 n he]
    · simp only [k2, h7]
theorem fail_law {now cut : List (List UInt8)} {b : Bks} (h : Inv now cut b) (n : Int) : Inv now cut { b with t := b.t.fail n } := h

theorem kept_cutAt (l : List UInt8) (keep : Int) (turn : UInt8) : ∃ k, Tp.kept l keep turn = cutAt l k turn := by
  unfold Tp.kept
  split
  · exact ⟨l.length, by unfold cutAt; rw [List.take_length, List.getElem?_eq_none (Nat.le_refl _)]; simp⟩
  · refine ⟨keep.toNat, ?_⟩
    unfold cutAt
    split <;> simp
/-- a crash, and Open: what is there is what was, or with it some first ones of what was cut off -/
theorem crash_law {now cut : List (List UInt8)} {b : Bks} (h : Inv now cut b) (keep : Int) (turn : UInt8) :
    (opens (b.t.crash keep turn)).1 = 0 ∧ (opens (b.t.crash keep turn)).2.dead = false ∧ Inv (opens (b.t.crash keep turn)).2.l (opens (b.t.crash keep turn)).2.l (opens (b.t.crash keep turn)).2 ∧
      ((opens (b.t.crash keep turn)).2.l = now ∨ (b.dead = true ∧ ∃ list j, cut = now ++ list ∧ j ≤ list.length ∧ (opens (b.t.crash keep turn)).2.l = now ++ list.take j)) := by
  obtain ⟨l, dead, t⟩ := b
  obtain ⟨h1, h2, h3, h4, h5⟩ := h
  simp only at h2 h3 h4 h5 ⊢
  -- what is there, and what is left behind it
  have key : ∃ x s, fits x ∧ t.sure ++ Tp.kept t.loose keep turn = lay x ++ s ∧ oneAns s = none ∧ (x = now ∨ (dead = true ∧ ∃ list j, cut = now ++ list ∧ j ≤ list.length ∧ x = now ++ list.take j)) := by
    have hnil : t.loose = [] → ∃ x s, fits x ∧ t.sure ++ Tp.kept t.loose keep turn = lay x ++ s ∧ oneAns s = none ∧ (x = now ∨ (dead = true ∧ ∃ list j, cut = now ++ list ∧ j ≤ list.length ∧ x = now ++ list.take j)) := fun hz => by
      refine ⟨now, [], h1, ?_, one_nil, .inl rfl⟩
      rw [h2, hz]
      have : Tp.kept [] keep turn = [] := by
        have := Tp.kept_len [] keep turn
        exact List.eq_nil_of_length_eq_zero (by simpa using this)
      rw [this]
    rcases h5 with ⟨_, _, _, h7⟩ | ⟨h6, _, h7 | ⟨list, hf, h7, h8⟩⟩
    · exact hnil h7
    · exact hnil h7
    · obtain ⟨k, hk⟩ := kept_cutAt t.loose keep turn
      obtain ⟨j, s, hj, hc, hs⟩ := cut_lay list k turn hf
      refine ⟨now ++ list.take j, s, ?_, ?_, hs, .inr ⟨h6, list, j, h8, hj, rfl⟩⟩
      · intro x hx
        rcases List.mem_append.1 hx with hx | hx
        · exact h1 x hx
        · exact hf x (List.mem_of_mem_take hx)
      · rw [hk, h7, hc, h2, lay_append, List.append_assoc]
  obtain ⟨x, s, hx, he, hs, hcase⟩ := key
  have hall : all (t.crash keep turn) = lay x ++ s := by unfold all Tp.crash; simp only [List.append_nil]; exact he
  have hrd : readAns (all (t.crash keep turn)) = (x, (lay x).length) := by rw [hall]; exact read_lay x s hx hs
  have hok := h4.crash keep turn
  have hrm : (t.crash keep turn).room = 262144 := h3
  unfold opens
  rw [hrd]
  simp only
  rw [if_neg (by simp [Tp.crash])]
  by_cases hlt : (lay x).length < (all (t.crash keep turn)).length
  · rw [if_pos hlt]
    have htk : (all (t.crash keep turn)).take (lay x).length = lay x := by rw [hall, List.take_left]
    rw [htk]
    have hroom : ((lay x).length : Int) ≤ (t.crash keep turn).room := by
      obtain ⟨_, _, h9⟩ := hok
      have : (all (t.crash keep turn)).length = (t.crash keep turn).sure.length + (t.crash keep turn).loose.length := by unfold all; rw [List.length_append]
      omega
    have hw := Tp.write_live (t := t.crash keep turn) rfl (by show (-1 : Int) < 0; omega) (lay x).length
    rw [if_neg (by omega)] at hw
    have hrep : (t.crash keep turn).repl (lay x) = (0, { t.crash keep turn with sure := lay x, loose := [] }) := by
      unfold Tp.repl
      rw [hw]
      rfl
    have hokr := hok.repl (lay x)
    rw [hrep] at hokr ⊢
    simp only [ne_eq, not_true, if_false]
    exact ⟨trivial, trivial, ⟨hx, rfl, hrm, hokr, .inl ⟨rfl, rfl, rfl, rfl⟩⟩, hcase⟩
  · rw [if_neg hlt]
    simp only
    have hs0 : s = [] := by
      rw [hall, List.length_append] at hlt
      exact List.eq_nil_of_length_eq_zero (by omega)
    refine ⟨trivial, trivial, ⟨hx, ?_, hrm, hok, .inl ⟨rfl, rfl, rfl, rfl⟩⟩, hcase⟩
    subst hs0
    rw [List.append_nil] at hall
    unfold all at hall
    rw [show (t.crash keep turn).loose = [] from rfl, List.append_nil] at hall
    exact hall
end Bks
end Go.Proofs.YtbifnogocmgddaaGreat
namespace Go.Proofs.YtbifnogocmgddaaGreat
open Go.RowKit

/-- a tape at block p, whose bytes lie in row ov -/
def TapeAt (w : World) (base p : Nat) (ov : Option Nat) (t : Tp) : Prop :=
  ∃ A c, Whole w p 53 [.int .i64 t.room, .slice A (t.sure.length + t.loose.length) c, .int .i64 (t.sure.length : Int), .bool t.down, .bool (decide (0 ≤ t.left)), .int .i64 (max t.left 0)] ∧
    HoldB w base (.slice A (t.sure.length + t.loose.length) c) (t.sure ++ t.loose) ∧ Value.ownBlock (.slice A (t.sure.length + t.loose.length) c) = ov ∧ base ≤ p ∧ base ≤ w.heap.size ∧ t.Ok ∧ t.left < 9223372036854775808
section
variable {w w' : World} {base p : Nat} {ov : Option Nat} {t : Tp}
theorem TapeAt.mv {D : Nat → Prop} (h : TapeAt w base p ov t) (hm : Mv D w w') (h1 : ¬ D p) (h2 : ∀ g, ov = some g → ¬ D g) : TapeAt w' base p ov t := by
  obtain ⟨A, c, hb, ho, hv, hp, hs, hk⟩ := h
  exact ⟨A, c, hm.whole hb h1, ho.mv hm (fun g hg => h2 g (hv ▸ hg)), hv, hp, Nat.le_trans hs hm.size, hk⟩
theorem TapeAt.low (h : TapeAt w base p ov t) : base ≤ p ∧ p < w.heap.size ∧ base ≤ w.heap.size := by
  obtain ⟨A, c, hb, ho, hv, hp, hs, hk⟩ := h
  exact ⟨hp, hb.size, hs⟩
theorem TapeAt.row (h : TapeAt w base p ov t) {g : Nat} (hg : ov = some g) : base ≤ g ∧ g < w.heap.size := by
  obtain ⟨A, c, hb, ho, hv, hp, hs, hk⟩ := h
  exact ho.low (hv.trans hg)
theorem TapeAt.ok (h : TapeAt w base p ov t) : t.Ok := by
  obtain ⟨A, c, hb, ho, hv, hp, hs, hk, _⟩ := h
  exact hk
theorem TapeAt.left (h : TapeAt w base p ov t) : t.left < 9223372036854775808 := by
  obtain ⟨A, c, hb, ho, hv, hp, hs, hk, h⟩ := h
  exact h
set_option maxRecDepth 100000 in
theorem TapeAt.apart (h : TapeAt w base p ov t) {g : Nat} {T : TypeId} {cs : List Value} (hg : Whole w g T cs) (h1 : 53 ≠ T) (h2 : 5 ≠ T) : g ≠ p ∧ ov ≠ some g := by
  obtain ⟨A, c, hb, ho, hv, hp, hs, hk⟩ := h
  exact ⟨hg.apart hb (Ne.symm h1), hv ▸ ho.apart hg h2⟩
end
/-- what a call of a tape moves -/
def TapeD (p : Nat) (ov : Option Nat) : Nat → Prop := fun i => i = p ∨ some i = ov
/-- a call that moves the tape alone: the tape is t behind it -/
structure Went (w w' : World) (base p : Nat) (ov : Option Nat) (t : Tp) (ov' : Option Nat) : Prop where
  now : TapeAt w' base p ov' t
  moved : Mv (TapeD p ov) w w'
  new : NewRow w ov ov'
theorem Went.below {w w' : World} {base p : Nat} {ov ov' : Option Nat} {t t0 : Tp} (h : Went w w' base p ov t ov') (h0 : TapeAt w base p ov t0) : Below base w w' :=
  h.moved.below h0.low.2.2 (by
    rintro i (rfl | hi)
    · exact h0.low.1
    · exact (h0.row hi.symm).1)

set_option maxHeartbeats 1000000 in
set_option maxRecDepth 100000 in
theorem begin_any (base p : Nat) (ov : Option Nat) (t : Tp) (n : Nat) (w : World) (h : TapeAt w base p ov t) :
    Calls Tryz.prog 66 #[.pointer (some ⟨p, 0, none⟩), .int .i64 (n : Int)] w fun e w' => e = .returned (.int .i64 (t.write n).1) ∧ Went w w' base p ov (t.write n).2 ov := by
  obtain ⟨sure, loose, room, left, down⟩ := t
  obtain ⟨A, c, hb, ho, hv, hp, hs, hk, hl⟩ := h
  simp only at hb ho hv hk hl
  obtain ⟨L, hL⟩ : ∃ L, L = sure.length + loose.length := ⟨_, rfl⟩
  rw [← hL] at hb ho hv
  have hmr : Mv (TapeD p ov) w w := Mv.refl _ _
  have c0 := hb.cell 0 _ rfl
  have c3 := hb.cell 3 _ rfl
  have c4 := hb.cell 4 _ rfl
  have c5 := hb.cell 5 _ rfl
  have f3 := hb.frozen 3
  have f5 := hb.frozen 5
  have hlt := hb.size
  have hne : Value.ownBlock (.slice A L c) ≠ some p := ho.apart hb (by decide)
  have HB := Lib.hid hb; clear hb
  have HO := Lib.hid ho; clear ho
  have HV := Lib.hid hv; clear hv
  have HK := Lib.hid hk; clear hk
  have HN := Lib.hid hne; clear hne
  have HL := Lib.hid hL; clear hL
  have hput : ∀ (i : Nat) (u : Value), HoldB (w.setCell ⟨p, i, none⟩ u) base (.slice A L c) (sure ++ loose) := fun i u =>
    HO.out.mv ((Mv.refl (fun j => j = p) w).setCell (p := ⟨p, i, none⟩) (fun _ => rfl) u) (fun g hg e => HN.out (hg.trans (congrArg some e)))
  have HP := Lib.hid hput; clear hput
  have hmp : ∀ (i : Nat) (u : Value), Mv (TapeD p ov) w (w.setCell ⟨p, i, none⟩ u) := fun i u => (Mv.refl _ w).setCell (p := ⟨p, i, none⟩) (fun _ => .inl rfl) u
  have HM := Lib.hid hmp; clear hmp
  cases down with
  | true =>
    have e : (Tp.write ⟨sure, loose, room, left, true⟩ n) = (11, ⟨sure, loose, room, left, true⟩) := rfl
    rw [e]
    go_enter Tryz.func66, Tryz.ntmps66
    go_wp2_with fail
    go_ret
    exact ⟨rfl, ⟨A, c, by rw [← HL.out]; exact HB.out, by rw [← HL.out]; exact HO.out, by rw [← HL.out]; exact HV.out, hp, hs, HK.out, hl⟩, hmr, NewRow.refl _ _⟩
  | false =>
    by_cases h1 : (n : Int) > room
    · have e : (Tp.write ⟨sure, loose, room, left, false⟩ n) = (10, ⟨sure, loose, room, left, false⟩) := by simp [Tp.write, h1]
      rw [e]; clear e
      go_enter Tryz.func66, Tryz.ntmps66
      go_wp2_with fail
      go_ret
      exact ⟨rfl, ⟨A, c, by rw [← HL.out]; exact HB.out, by rw [← HL.out]; exact HO.out, by rw [← HL.out]; exact HV.out, hp, hs, HK.out, hl⟩, hmr, NewRow.refl _ _⟩
    · rcases Int.lt_trichotomy left 0 with h2 | h2 | h2
      · have e : (Tp.write ⟨sure, loose, room, left, false⟩ n) = (0, ⟨sure, loose, room, left, false⟩) := by
          simp only [Tp.write, if_neg h1]
          rw [if_neg (by simp), if_neg (by omega), if_neg (by omega)]
        rw [e]; clear e
        rw [decide_eq_false (show ¬ 0 ≤ left by omega)] at c4
        go_enter Tryz.func66, Tryz.ntmps66
        go_wp2_with fail
        go_ret
        exact ⟨rfl, ⟨A, c, by rw [← HL.out]; exact HB.out, by rw [← HL.out]; exact HO.out, by rw [← HL.out]; exact HV.out, hp, hs, HK.out, hl⟩, hmr, NewRow.refl _ _⟩
      · subst h2
        have e : (Tp.write ⟨sure, loose, room, 0, false⟩ n) = (11, ⟨sure, loose, room, 0, true⟩) := by simp [Tp.write, h1]
        rw [e]; clear e
        rw [decide_eq_true (show (0 : Int) ≤ 0 by omega)] at c4
        rw [show max (0 : Int) 0 = 0 from rfl] at c5
        go_enter Tryz.func66, Tryz.ntmps66
        go_wp2_with fail
        go_ret
        exact ⟨rfl, ⟨A, c, by rw [← HL.out]; exact HB.out.put 3 _, by rw [← HL.out]; exact HP.out 3 _, by rw [← HL.out]; exact HV.out, hp, by simpa using hs, HK.out, hl⟩, HM.out 3 _, NewRow.refl _ _⟩
      · have e : (Tp.write ⟨sure, loose, room, left, false⟩ n) = (0, ⟨sure, loose, room, left - 1, false⟩) := by
          simp only [Tp.write, if_neg h1]
          rw [if_neg (by simp), if_neg (by omega), if_pos (by omega)]
        rw [e]; clear e
        rw [decide_eq_true (show (0 : Int) ≤ left by omega)] at c4
        rw [show max left 0 = left by omega] at c5
        have hw : IntKind.i64.wrap (left - 1) = left - 1 := wrap_small _ (by omega) (by omega)
        have hz : ¬ left = 0 := by omega
        go_enter Tryz.func66, Tryz.ntmps66
        go_wp2_with fail
        go_ret
        refine ⟨rfl, ⟨A, c, ?_, by rw [← HL.out]; exact HP.out 5 _, by rw [← HL.out]; exact HV.out, hp, by simpa using hs, HK.out, by show left - 1 < _; omega⟩, HM.out 5 _, NewRow.refl _ _⟩
        have := HB.out.put 5 (.int .i64 (left - 1))
        simp only [List.set] at this
        rw [HL.out] at this
        simp only [show decide (0 ≤ left - 1) = decide (0 ≤ left) by simp; omega, show max (left - 1) 0 = left - 1 by omega]
        exact this
end Go.Proofs.YtbifnogocmgddaaGreat
namespace Go.Proofs.YtbifnogocmgddaaGreat
open Go.RowKit

set_option maxHeartbeats 1000000 in
set_option maxRecDepth 100000 in
theorem fresh_any (l : List UInt8) (v : Value) (w : World) (hv : RdB w w.heap.size v l) (hl : l.length ≤ 140737488351232) :
    Calls Tryz.prog 63 #[v] w fun e w' => ∃ A c, e = .returned (.slice A l.length c) ∧ OwnB w' w.heap.size (.slice A l.length c) l ∧ Below w.heap.size w w' := by
  obtain ⟨A, c, rfl, hc, hi⟩ := hv.at
  have HV := Lib.hid hv; clear hv
  clear hi
  go_enter Tryz.func63, Tryz.ntmps63
  go_wp2_with (at_builtin; go_must (refine wpList_addBG rfl _ _ rfl w.heap.size _ [] rfl (Own.nil _ _) w.heap.size _ l rfl HV.out (by simp; omega) (by simp) ?_))
  intro A' c' w' ho hg
  have HO := Lib.hid (show OwnB w' w.heap.size (.slice A' l.length c') l from ho.out)
  have HG := Lib.hid hg.out
  go_wp2_with fail
  go_ret
  exact ⟨A', c', rfl, HO.out, (Below.refl _ w).grown HG.out (Nat.le_refl _) (by simp [Value.ownBlock])⟩

set_option maxHeartbeats 1000000 in
set_option maxRecDepth 100000 in
theorem bytes_any (base p : Nat) (ov : Option Nat) (t : Tp) (w : World) (h : TapeAt w base p ov t) :
    Calls Tryz.prog 35 #[.pointer (some ⟨p, 0, none⟩)] w fun e w' => ∃ A c, e = .returned (.tuple #[.slice A (if t.down = true then [] else t.sure ++ t.loose).length c, .int .i64 (if t.down = true then 11 else 0)]) ∧
      OwnB w' w.heap.size (.slice A (if t.down = true then [] else t.sure ++ t.loose).length c) (if t.down = true then [] else t.sure ++ t.loose) ∧ Below w.heap.size w w' := by
  obtain ⟨sure, loose, room, left, down⟩ := t
  obtain ⟨A, c, hb, ho, hv, hp, hs, hk, hl⟩ := h
  simp only at hb ho hv hk hl ⊢
  have c1 := hb.cell 1 _ rfl
  have c3 := hb.cell 3 _ rfl
  obtain ⟨L, hL⟩ : ∃ L, L = sure ++ loose := ⟨_, rfl⟩
  have hLl : sure.length + loose.length = L.length := by rw [hL, List.length_append]
  rw [← hL] at ho ⊢
  rw [hLl] at ho c1
  have hrd := ho.rdB
  have hlen : L.length ≤ 140737488351232 := by obtain ⟨k1, k2, k3⟩ := hk; simp only at k1 k2 k3; omega
  clear hb hv hL hLl hk
  have HR := Lib.hid (fresh_any L _ w hrd hlen); clear hrd ho
  cases down with
  | true =>
    go_enter Tryz.func35, Tryz.ntmps35
    go_wp2_with fail
    go_ret2
    exact ⟨none, 0, rfl, Own.nil _ _, Below.refl _ _⟩
  | false =>
    go_enter Tryz.func35, Tryz.ntmps35
    go_wp2_with fail
    refine HR.out.mono ?_
    rintro e w1 ⟨A1, c1', rfl, ho1, hb1⟩
    have HO := Lib.hid ho1; clear ho1
    have HB := Lib.hid hb1; clear hb1
    go_wp2_with fail
    go_ret2
    exact ⟨A1, c1', rfl, HO.out, HB.out⟩

set_option maxHeartbeats 1000000 in
set_option maxRecDepth 100000 in
theorem new_any (room : Int) (h0 : 0 ≤ room) (h1 : room ≤ 1048576) (w : World) :
    Calls Tryz.prog 6 #[.int .i64 room] w fun e w' => ∃ p, e = .returned (.tuple #[.pointer (some ⟨p, 0, none⟩), .int .i64 0]) ∧ TapeAt w' w.heap.size p none ⟨[], [], room, -1, false⟩ ∧ Below w.heap.size w w' := by
  go_enter Tryz.func6, Tryz.ntmps6
  go_wp2_with fail
  go_ret2
  exact ⟨_, rfl, ⟨none, 0, Whole.fresh _ _ [_, _, _, _, _, _], HoldB.nil _ _, rfl, Nat.le_refl _, by simp, ⟨h0, h1, by simpa using h0⟩, by show (-1 : Int) < _; omega⟩, (Below.refl _ _).alloc (Nat.le_refl _) _⟩

set_option maxHeartbeats 1000000 in
set_option maxRecDepth 100000 in
theorem new_bad (room : Int) (h0 : room < 0 ∨ 1048576 < room) (w : World) :
    Calls Tryz.prog 6 #[.int .i64 room] w fun e w' => e = .returned (.tuple #[.pointer none, .int .i64 1]) ∧ w' = w := by
  rcases h0 with h | h
  · go_enter Tryz.func6, Tryz.ntmps6
    go_wp2_with fail
    go_ret2
    exact ⟨rfl, rfl⟩
  · have h2 : ¬ room < 0 := by omega
    go_enter Tryz.func6, Tryz.ntmps6
    go_wp2_with fail
    go_ret2
    exact ⟨rfl, rfl⟩

end Go.Proofs.YtbifnogocmgddaaGreat
namespace Go.Proofs.YtbifnogocmgddaaGreat
open Go.RowKit

/-- the book at block q over the tape at block p; its blocks and the tape's are among G -/
def BkAt (w : World) (base q p : Nat) (G : Nat → Prop) (b : Bks) : Prop :=
  ∃ (ov : Option Nat) (A : Option Addr) (c n : Nat) (rows : List Row), Whole w q 84 [.pointer (some ⟨p, 0, none⟩), .slice A n c, .bool b.dead] ∧ n = rows.length ∧ OwnR w base (.slice A n c) rows ∧ HoldRs w base rows ∧ texts rows = b.l ∧
    (∀ r ∈ rows, r.l.length ≤ 140737488351232) ∧ TapeAt w base p ov b.t ∧ (∀ r ∈ rows, ∀ g, r.v.ownBlock = some g → ov ≠ some g) ∧
    G q ∧ G p ∧ (∀ g, ov = some g → G g) ∧ (∀ g, Value.ownBlock (.slice A n c) = some g → G g) ∧ (∀ r ∈ rows, ∀ g, r.v.ownBlock = some g → G g) ∧ base ≤ w.heap.size ∧ ∀ i, G i → base ≤ i ∧ i < w.heap.size
theorem TapeAt.uniq {w : World} {base p : Nat} {ov ov2 : Option Nat} {t t2 : Tp} (h : TapeAt w base p ov t) (h2 : TapeAt w base p ov2 t2) : ov = ov2 := by
  obtain ⟨A, c, hb, _, hv, _⟩ := h
  obtain ⟨A2, c2, hb2, _, hv2, _⟩ := h2
  have h3 := hb.cell 1 _ rfl
  rw [hb2.cell 1 _ rfl] at h3
  injection h3 with h3
  rw [← hv, ← hv2, h3]
section
variable {w w' : World} {base q p : Nat} {G : Nat → Prop} {b : Bks}
theorem BkAt.tape (h : BkAt w base q p G b) : ∃ ov, TapeAt w base p ov b.t ∧ ∀ i, TapeD p ov i → G i := by
  obtain ⟨ov, A, c, n, rows, h1, h2, h3, h4, h5, h6, h7, h8, h9, h10, h11, h12, h13, h14, h15⟩ := h
  refine ⟨ov, h7, ?_⟩
  rintro i (rfl | hi)
  · exact h10
  · exact h11 i hi.symm
theorem BkAt.low (h : BkAt w base q p G b) : base ≤ w.heap.size ∧ ∀ i, G i → base ≤ i ∧ i < w.heap.size := by
  obtain ⟨ov, A, c, n, rows, h1, h2, h3, h4, h5, h6, h7, h8, h9, h10, h11, h12, h13, h14, h15⟩ := h
  exact ⟨h14, h15⟩
theorem BkAt.at (h : BkAt w base q p G b) : G q ∧ G p := by
  obtain ⟨ov, A, c, n, rows, h1, h2, h3, h4, h5, h6, h7, h8, h9, h10, h11, h12, h13, h14, h15⟩ := h
  exact ⟨h9, h10⟩
theorem OwnR.mv {D : Nat → Prop} {v : Value} {rows : List Row} (h : OwnR w base v rows) (hm : Mv D w w') (hn : ∀ g, v.ownBlock = some g → ¬ D g) : OwnR w' base v rows := by
  refine ⟨h.1, ?_⟩
  rcases h.2 with h2 | ⟨g, cap, cur, rfl, hb, hh, r⟩
  · exact .inl h2
  · exact .inr ⟨g, cap, cur, rfl, hb, (hm.block g (Array.getElem?_eq_some_iff.1 hh).1 (hn g rfl)).trans hh, r⟩
theorem BkAt.mv {D : Nat → Prop} (h : BkAt w base q p G b) (hm : Mv D w w') (hn : ∀ i, G i → ¬ D i) : BkAt w' base q p G b := by
  obtain ⟨ov, A, c, n, rows, h1, h2, h3, h4, h5, h6, h7, h8, h9, h10, h11, h12, h13, h14, h15⟩ := h
  exact ⟨ov, A, c, n, rows, hm.whole h1 (hn q h9), h2, OwnR.mv h3 hm (fun g hg => hn g (h12 g hg)), h4.mv hm (fun r hr g hg => hn g (h13 r hr g hg)), h5, h6, h7.mv hm (hn p h10) (fun g hg => hn g (h11 g hg)), h8, h9, h10, h11, h12, h13, Nat.le_trans h14 hm.size,
    fun i hi => ⟨(h15 i hi).1, Nat.lt_of_lt_of_le (h15 i hi).2 hm.size⟩⟩
set_option maxRecDepth 100000 in
/-- rows and a block of another type -/
theorem OwnR.off {v : Value} {rows : List Row} (h : OwnR w base v rows) {g : Nat} {T : TypeId} {cs : List Value} (hg : Whole w g T cs) (hne : 51 ≠ T) : v.ownBlock ≠ some g := fun he => Own.apart h hg hne he.symm
set_option maxRecDepth 100000 in
theorem BkAt.went {ov ov' : Option Nat} {t' : Tp} (h : BkAt w base q p G b) (ht : TapeAt w base p ov b.t) (hw : Went w w' base p ov t' ov') : ∃ G', BkAt w' base q p G' { b with t := t' } ∧ ∀ i, G' i → G i ∨ w.heap.size ≤ i := by
  obtain ⟨ov2, A, c, n, rows, h1, h2, h3, h4, h5, h6, h7, h8, h9, h10, h11, h12, h13, h14, h15⟩ := h
  obtain rfl := ht.uniq h7
  obtain ⟨hnow, hm, hnew⟩ := hw
  obtain ⟨k1, k2⟩ := ht.apart h1 (by decide) (by decide)
  have hD : ∀ g, (g ≠ p ∧ ov ≠ some g) → ¬ TapeD p ov g := by
    rintro g ⟨a1, a2⟩ (a | a)
    · exact a1 a
    · exact a2 a.symm
  have hrows : ∀ g, Value.ownBlock (.slice A n c) = some g → g ≠ p ∧ ov ≠ some g := by
    intro g hg
    obtain ⟨A2, c2, hb2, ho2, hv2, _⟩ := ht
    refine ⟨fun e => OwnR.off h3 hb2 (by decide) (e ▸ hg), fun e => ?_⟩
    exact ho2.ne_rows h3 g (hv2.trans e) hg
  have hcont : ∀ r ∈ rows, ∀ g, r.v.ownBlock = some g → g ≠ p ∧ ov ≠ some g := by
    intro r hr g hg
    obtain ⟨A2, c2, hb2, ho2, hv2, _⟩ := ht
    exact ⟨fun e => (h4 r hr).apart hb2 (by decide) (e ▸ hg), h8 r hr g hg⟩
  refine ⟨fun i => G i ∨ ov' = some i, ⟨ov', A, c, n, rows, hm.whole h1 (hD q ⟨k1, k2⟩), h2, OwnR.mv h3 hm (fun g hg => hD g (hrows g hg)), h4.mv hm (fun r hr g hg => hD g (hcont r hr g hg)), h5, h6, hnow, ?_, .inl h9, .inl h10, fun g hg => .inr hg, fun g hg => .inl (h12 g hg), fun r hr g hg => .inl (h13 r hr g hg), Nat.le_trans h14 hm.size, ?_⟩, ?_⟩
  · exact fun r hr g hg => hnew.out (h15 g (h13 r hr g hg)).2 (h8 r hr g hg)
  · rintro i (hi | hi)
    · exact ⟨(h15 i hi).1, Nat.lt_of_lt_of_le (h15 i hi).2 hm.size⟩
    · exact hnow.row hi
  · rintro i (hi | hi)
    · exact .inl hi
    · rcases hnew i hi with h | h
      · exact .inl (h11 i h)
      · exact .inr h
end

set_option maxHeartbeats 1000000 in
set_option maxRecDepth 100000 in
theorem brec_any (base q p : Nat) (G : Nat → Prop) (b : Bks) (w : World) (h : BkAt w base q p G b) (hl : b.l.length ≤ 4000000) :
    Calls Tryz.prog 20 #[.pointer (some ⟨q, 0, none⟩)] w fun e w' => ∃ A c rows, e = .returned (.slice A rows.length c) ∧ RdRs w' w'.heap.size (fun i => i < w.heap.size) (.slice A rows.length c) rows ∧ texts rows = b.l ∧ Below w.heap.size w w' := by
  obtain ⟨ov, A, c, n, rows, h1, h2, h3, h4, h5, h6, h7, h8, h9, h10, h11, h12, h13, h14, h15⟩ := h
  have c1 := h1.cell 1 _ rfl
  have hrd : RdRs w w.heap.size (fun _ => False) (.slice A n c) rows := OwnR.held h3 h4 (fun _ _ h => h) (fun _ _ _ _ h => h)
  have hrl : rows.length ≤ 4000000 := by have := congrArg List.length h5; simp [texts] at this; omega
  have HF := Lib.hid (bfresh_any rows _ _ w hrd hrl h6)
  have H5 := Lib.hid h5
  clear h1 h2 h3 h4 h5 h6 h7 h8 h9 h10 h11 h12 h13 h14 h15 hrd
  go_enter Tryz.func20, Tryz.ntmps20
  go_wp2_with fail
  refine HF.out.mono ?_
  rintro e w1 ⟨A1, c1', n1, rfl, rows1, rfl, ho, hh, ht, hb⟩
  have hrs : RdRs w1 w1.heap.size (fun i => i < w.heap.size) (.slice A1 rows1.length c1') rows1 := OwnR.held ho hh (fun g hg hd => by have := (ho.low hg).1; omega) (fun r hr g hg hd => by have := ((hh r hr).low hg).1; omega)
  have HS := Lib.hid hrs
  have HT := Lib.hid (ht.trans H5.out)
  have HB := Lib.hid hb
  clear ho hh ht hb hrs
  go_wp2_with fail
  go_ret
  exact ⟨A1, c1', rows1, rfl, HS.out, HT.out, HB.out⟩

set_option maxHeartbeats 1000000 in
set_option maxRecDepth 100000 in
theorem bnone_rec (w : World) : Calls Tryz.prog 20 #[.pointer none] w fun e w' => ∃ A c, e = .returned (.slice A 0 c) ∧ Below w.heap.size w w' := by
  go_enter Tryz.func20, Tryz.ntmps20
  go_wp2_with fail
  go_ret
  exact ⟨none, 0, rfl, Below.refl _ _⟩
end Go.Proofs.YtbifnogocmgddaaGreat
namespace Go.Proofs.YtbifnogocmgddaaGreat
open Go.RowKit


set_option maxRecDepth 100000 in
theorem sealed_eq {p r : List UInt8} (hp : p.length = 4) : sealed r = p ++ r ↔ val p = sum r := by
  unfold sealed
  rw [List.append_left_inj]
  constructor
  · intro h
    rw [← h, val_four (sum_lt r)]
  · intro h
    rw [← h, four_val hp]
end Go.Proofs.YtbifnogocmgddaaGreat
namespace Go.Proofs.YtbifnogocmgddaaGreat
open Go.RowKit
attribute [local go_sem] same_str

theorem lay_take (L : List (List UInt8)) (i : Nat) (h : i < L.length) : lay (L.take (i + 1)) = lay (L.take i) ++ recB L[i] := by
  rw [List.take_add_one, List.getElem?_eq_getElem h, lay_append]
  simp [lay]
theorem lay_bound (L : List (List UInt8)) (h : fits L) : (lay L).length ≤ L.length * 65545 := by
  induction L with
  | nil => simp [lay]
  | cons r L ih =>
    have h1 := ih (fun x hx => h x (by simp [hx]))
    have h2 : r.length ≤ 65532 := h r (by simp)
    rw [lay_cons, List.length_append, recB_len, List.length_cons]
    have := enc_len9 (n := r.length + 4) (by omega)
    omega
theorem data_strB (l : List UInt8) : (strB l).data.toList = l := by simp [strB]
theorem strB_size' (a : List UInt8) : (strB a).size = a.length := by simp [strB, ByteArray.size]

end Go.Proofs.YtbifnogocmgddaaGreat
namespace Go.Proofs.YtbifnogocmgddaaGreat
open Go.RowKit

/-- a writer at block p: what was written till now, and its error -/
def Wr (w : World) (base p : Nat) (l : List UInt8) (e : Int) : Prop :=
  ∃ A c, Whole w p 163 [.slice A l.length c, .int .i64 e] ∧ OwnB w base (.slice A l.length c) l ∧ base ≤ p ∧ base ≤ w.heap.size
set_option maxRecDepth 100000 in
theorem Wr.more {w w' : World} {base p B : Nat} {l : List UInt8} {e : Int} (h : Wr w base p l e) (hb : Below B w w') (hB : w.heap.size ≤ B) : Wr w' base p l e := by
  obtain ⟨A, c, hw, ho, hp, hs⟩ := h
  exact ⟨A, c, hw.below hb (Nat.lt_of_lt_of_le hw.size hB), ho.below hb hB, hp, Nat.le_trans hs hb.size⟩

set_option maxHeartbeats 1000000 in
set_option maxRecDepth 100000 in
theorem clone_any (l : List UInt8) (v : Value) (w : World) (hv : RdB w w.heap.size v l) (hl : l.length ≤ 140737488351232) :
    Calls Tryz.prog 98 #[v] w fun e w' => ∃ A c, e = .returned (.slice A l.length c) ∧ OwnB w' w.heap.size (.slice A l.length c) l ∧ Below w.heap.size w w' := by
  obtain ⟨A, c, rfl, hc, hi⟩ := hv.at
  have HV := Lib.hid hv; clear hv
  cases A with
  | none =>
    have hl0 : l = [] := by
      cases l with
      | nil => rfl
      | cons x r => obtain ⟨b, o, hA, _⟩ := hi 0 (by simp); cases hA
    subst hl0
    clear hi
    have hnil := fun W => Lib.run_eql_slice_nil (P := Tryz.prog) W 51 5 none 0 c 0 0 Tryz.underlying51
    go_enter Tryz.func98, Tryz.ntmps98
    go_wp2_with fail
    go_ret
    exact ⟨_, _, rfl, Own.nil _ _, Below.refl _ _⟩
  | some ad =>
    clear hi
    have hnil := fun W => Lib.run_eql_slice_nil (P := Tryz.prog) W 51 5 (some ad) l.length c 0 0 Tryz.underlying51
    go_enter Tryz.func98, Tryz.ntmps98
    go_wp2_with (at_builtin; go_must (refine wpList_addBG rfl _ _ rfl w.heap.size _ [] rfl (Own.empty _ _ (Nat.le_refl _)) w.heap.size _ l rfl (HV.out.below ((Below.refl _ _).alloc (Nat.le_refl _) _) (Nat.le_refl _)) (by simp; omega) (by simp) ?_))
    intro A' c' w' ho hg
    have HO := Lib.hid (show OwnB w' w.heap.size (.slice A' l.length c') l from ho.out)
    have HG := Lib.hid hg.out
    go_wp2_with fail
    go_ret
    exact ⟨A', c', rfl, HO.out, ((Below.refl _ w).alloc (Nat.le_refl _) _).grown HG.out (by simp) (by simp [Value.ownBlock])⟩

set_option maxHeartbeats 1000000 in
set_option maxRecDepth 100000 in
theorem behind_any (l : List UInt8) (v : Value) (w : World) (hv : RdB w w.heap.size v l) (hl : l.length ≤ 140737488351232) :
    Calls Tryz.prog 82 #[v] w fun e w' => ∃ p, e = .returned (.pointer (some ⟨p, 0, none⟩)) ∧ Wr w' w.heap.size p l 0 ∧ Below w.heap.size w w' := by
  have hc := clone_any l v w hv hl
  have HC := Lib.hid hc; clear hc
  clear hv
  go_enter Tryz.func82, Tryz.ntmps82
  go_wp2_with fail
  refine HC.out.mono ?_
  rintro e w1 ⟨A, c, rfl, ho, hb⟩
  have HO := Lib.hid ho; clear ho
  have HB := Lib.hid hb; clear hb
  go_wp2_with fail
  go_ret
  exact ⟨_, rfl, ⟨A, c, Whole.fresh _ _ [_, _], HO.out.alloc _, HB.out.size, by simp; exact Nat.le_succ_of_le HB.out.size⟩, HB.out.alloc HB.out.size _⟩

/-- the first error -/
def firstErr (e f : Int) : Int := if e = 0 then f else e
def IsZ (e : Int) : Prop := e = 0

set_option maxHeartbeats 1000000 in
set_option maxRecDepth 100000 in
theorem or_any (e f : Int) (g c : Nat) (w : World) (h0 : w.cell? ⟨g, 0, none⟩ = some (.int .i64 e)) (h1 : w.cell? ⟨g, 1, none⟩ = some (.int .i64 f)) :
    Calls Tryz.prog 105 #[.slice (some ⟨g, 0, none⟩) 2 c] w fun x w' => x = .returned (.int .i64 (firstErr e f)) ∧ w' = w := by
  obtain ⟨R, hR⟩ : ∃ R, R = firstErr e f := ⟨_, rfl⟩
  rw [← hR]
  unfold firstErr at hR
  have HR := Lib.hid hR; clear hR
  go_enter Tryz.func105, Tryz.ntmps105
  go_wp2_with fail
  go_loop [8] (fun kv => kv = .int .i64 0 ∨ (kv = .int .i64 1 ∧ IsZ e) ∨ (kv = .int .i64 2 ∧ IsZ e ∧ IsZ f)) (fun kv => 2 - (intOf kv).toNat)
  case atStart => exact .inl rfl
  case round =>
    rcases hrel with rfl | ⟨rfl, he⟩ | ⟨rfl, he, hf⟩
    · by_cases hz : e = 0
      · have HZ : IsZ e := hz
        subst hz
        go_wp2_with fail
        go_round
        case rel => exact .inr (.inl ⟨by go_num, HZ⟩)
        case measure => simp [intOf]
      · have hr := HR.out
        rw [if_neg hz] at hr
        have HR2 := Lib.hid hr; clear hr
        go_wp2_with fail
        go_ret
        exact ⟨by rw [HR2.out]; rfl, rfl⟩
    · have hr := HR.out
      rw [if_pos (show e = 0 from he)] at hr
      have HR2 := Lib.hid hr; clear hr
      by_cases hz : f = 0
      · have HZ : IsZ f := hz
        subst hz
        go_wp2_with fail
        go_round
        case rel => exact .inr (.inr ⟨by go_num, he, HZ⟩)
        case measure => simp [intOf]
      · go_wp2_with fail
        go_ret
        exact ⟨by rw [HR2.out]; rfl, rfl⟩
    · have hr := HR.out
      rw [if_pos (show e = 0 from he), show f = 0 from hf] at hr
      have HR2 := Lib.hid hr; clear hr
      go_wp2_with fail
      go_ret
      exact ⟨by rw [HR2.out]; rfl, rfl⟩

set_option maxHeartbeats 1000000 in
set_option maxRecDepth 100000 in
theorem wfail_any (base p : Nat) (l : List UInt8) (e f : Int) (w : World) (hw : Wr w base p l e) :
    Calls Tryz.prog 99 #[.pointer (some ⟨p, 0, none⟩), .int .i64 f] w fun x w' => x = .returned (.pointer (some ⟨p, 0, none⟩)) ∧ Wr w' base p l (firstErr e f) ∧ Below base w w' := by
  obtain ⟨A, c, hb, ho, hp, hs⟩ := hw
  have c0 := hb.cell 0 _ rfl
  have c1 := hb.cell 1 _ rfl
  have f1 := hb.frozen 1
  have hlt := hb.size
  have HB := Lib.hid hb; clear hb
  have HO := Lib.hid ho; clear ho
  go_enter Tryz.func99, Tryz.ntmps99
  go_wp2_with fail
  refine (or_any e f w.heap.size 2 _ (by go_simp) (by go_simp)).mono ?_
  rintro x w1 ⟨rfl, rfl⟩
  go_wp2_with fail
  go_ret
  refine ⟨rfl, ⟨A, c, (HB.out.put 1 _).alloc _, (HO.out.put HB.out (by decide) 1 _).alloc _, hp, by simp; omega⟩, ((Below.refl _ _).setCell hp _).alloc (by simpa using hs) _⟩

set_option maxHeartbeats 1000000 in
set_option maxRecDepth 100000 in
theorem wdoneO_any (base p : Nat) (l : List UInt8) (e : Int) (w : World) (hw : Wr w base p l e) :
    Calls Tryz.prog 84 #[.pointer (some ⟨p, 0, none⟩)] w fun x w' => ∃ v', x = .returned (.tuple #[v', .int .i64 e]) ∧ OwnB w' base v' (if e = 0 then l else []) ∧ Below base w w' := by
  obtain ⟨A, c, hb, ho, hp, hs⟩ := hw
  have c0 := hb.cell 0 _ rfl
  have c1 := hb.cell 1 _ rfl
  have hlt := hb.size
  have HO := Lib.hid ho; clear ho
  clear hb
  by_cases he : e = 0
  · subst he
    go_enter Tryz.func84, Tryz.ntmps84
    go_wp2_with fail
    go_ret2
    exact ⟨_, rfl, HO.out, Below.refl _ _⟩
  · rw [if_neg he]
    go_enter Tryz.func84, Tryz.ntmps84
    go_wp2_with fail
    refine wp_region_planB [(true, 0), (true, 1), (true, 2), (true, 3), (true, 4), (true, 5)] (by kernel_rfl) (by kernel_rfl) (fun _ _ d _ _ h => by cases d <;> exact h) ?_
    repeat (refine PlanB.take (v := ?_) rfl rfl ?_ ?_; rotate_left; (focus (intro W hW; have k1 := (hW.cell (p := ⟨p, 1, none⟩) hlt).trans c1; go_simp; (try with_reducible rfl); done)); (try simp only [Act.put, List.setIfInBounds_toArray, List.set_cons_zero, List.set_cons_succ]))
    simp only [PlanB]
    go_wp2_with fail
    go_ret2
    exact ⟨_, rfl, Own.nil _ _, (Below.refl _ _).drew⟩
theorem wdone_any (base p : Nat) (l : List UInt8) (e : Int) (w : World) (hw : Wr w base p l e) :
    Calls Tryz.prog 84 #[.pointer (some ⟨p, 0, none⟩)] w fun x w' => ∃ v', x = .returned (.tuple #[v', .int .i64 e]) ∧ RdB w' w'.heap.size v' (if e = 0 then l else []) ∧ Below base w w' := by
  refine (wdoneO_any base p l e w hw).mono ?_
  rintro x w' ⟨v', h1, h2, h3⟩
  exact ⟨v', h1, h2.rdB, h3⟩
end Go.Proofs.YtbifnogocmgddaaGreat

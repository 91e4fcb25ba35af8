/- The book as a state, and what BookPlays asks of it: pure. -/
import Derived.Test.YtaenlkopjmgniaaRec
import Derived.Test.YtaenlkopjmgniaaTp
namespace Go.Proofs.Ytaenlkopjmgniaa

/-- the records that it has, whether a call of it was answered with ErrDown, and its tape -/
structure Bks where
  l : List (List UInt8)
  dead : Bool
  t : Tp
def fits (l : List (List UInt8)) : Prop := ∀ r ∈ l, fitR r
instance (l : List (List UInt8)) : Decidable (fits l) := by unfold fits fitR; exact inferInstance
namespace Bks
def add (b : Bks) (list : List (List UInt8)) : Int × Bks :=
  if b.dead = true then (11, b) else if ¬ fits list then (6, b) else
  if (b.t.add (lay list)).1 ≠ 0 then ((b.t.add (lay list)).1, { b with t := (b.t.add (lay list)).2, dead := decide ((b.t.add (lay list)).1 = 11) })
  else if (b.t.add (lay list)).2.sync.1 ≠ 0 then ((b.t.add (lay list)).2.sync.1, { b with t := (b.t.add (lay list)).2.sync.2, dead := decide ((b.t.add (lay list)).2.sync.1 = 11) })
  else (0, ⟨b.l ++ list, false, (b.t.add (lay list)).2.sync.2⟩)
def reset (b : Bks) (list : List (List UInt8)) : Int × Bks :=
  if b.dead = true then (11, b) else if ¬ fits list then (6, b) else
  if (b.t.repl (lay list)).1 ≠ 0 then ((b.t.repl (lay list)).1, { b with t := (b.t.repl (lay list)).2, dead := decide ((b.t.repl (lay list)).1 = 11) })
  else (0, ⟨list, false, (b.t.repl (lay list)).2⟩)
/-- the bytes of a tape -/
def all (t : Tp) : List UInt8 := t.sure ++ t.loose
/-- Open: the error, the book, the tape behind it -/
def opens (t : Tp) : Int × Bks :=
  if t.down = true then (11, ⟨[], false, t⟩) else
  if (readAns (all t)).2 < (all t).length then
    (if (t.repl ((all t).take (readAns (all t)).2)).1 ≠ 0 then ((t.repl ((all t).take (readAns (all t)).2)).1, ⟨[], false, (t.repl ((all t).take (readAns (all t)).2)).2⟩) else (0, ⟨(readAns (all t)).1, false, (t.repl ((all t).take (readAns (all t)).2)).2⟩))
  else (0, ⟨(readAns (all t)).1, false, t⟩)

/-- what BookPlays knows -/
def Inv (now cut : List (List UInt8)) (b : Bks) : Prop :=
  fits now ∧ b.t.sure = lay now ∧ b.t.room = 262144 ∧ b.t.Ok ∧
    ((b.dead = false ∧ b.l = now ∧ b.t.down = false ∧ b.t.loose = []) ∨
     (b.dead = true ∧ b.t.down = true ∧ (b.t.loose = [] ∨ ∃ list, fits list ∧ b.t.loose = lay list ∧ cut = now ++ list)))

theorem write_not_down {t : Tp} (hd : t.down = false) (n : Nat) (h : (t.write n).1 ≠ 11) : (t.write n).2.down = false ∧ ((t.write n).1 = 10 → (t.write n).2 = t ∧ (n : Int) > t.room) := by
  unfold Tp.write at h ⊢
  rw [if_neg (by simp [hd])] at h ⊢
  split
  · rename_i h1; exact ⟨hd, fun _ => ⟨rfl, h1⟩⟩
  · rename_i h1
    rw [if_neg h1] at h
    split
    · rename_i h2; rw [if_pos h2] at h; exact absurd rfl h
    · split
      · exact ⟨hd, fun h => by simp at h⟩
      · exact ⟨hd, fun h => by simp at h⟩
theorem write_down {t : Tp} (hd : t.down = false) (n : Nat) (h : (t.write n).1 = 11) : (t.write n).2 = { t with down := true } := by
  unfold Tp.write at h ⊢
  rw [if_neg (by simp [hd])] at h ⊢
  split
  · rename_i h1; rw [if_pos h1] at h; simp at h
  · rename_i h1
    rw [if_neg h1] at h
    split
    · rfl
    · rename_i h2
      rw [if_neg h2] at h
      split at h <;> simp at h
theorem write_err (t : Tp) (n : Nat) : (t.write n).1 = 0 ∨ (t.write n).1 = 10 ∨ (t.write n).1 = 11 := by
  unfold Tp.write
  split
  · exact .inr (.inr rfl)
  · split
    · exact .inr (.inl rfl)
    · split
      · exact .inr (.inr rfl)
      · split <;> exact .inl rfl

/-- Add, of a book that lives -/
theorem add_law {now cut list : List (List UInt8)} {b : Bks} (h : Inv now cut b) (hd : b.dead = false) (hf : fits list) :
    ((b.add list).1 = 11 ∧ (b.add list).2.dead = true ∧ Inv now (now ++ list) (b.add list).2) ∨
    ((b.add list).1 = 0 ∧ (b.add list).2.dead = false ∧ Inv (now ++ list) (now ++ list) (b.add list).2) ∨
    ((b.add list).1 = 10 ∧ (b.add list).2.dead = false ∧ (lay (now ++ list)).length > 262144 ∧ Inv now cut (b.add list).2) := by
  obtain ⟨l, dead, t⟩ := b
  obtain ⟨h1, h2, h3, h4, h5⟩ := h
  simp only at hd h2 h3 h4 h5
  subst hd
  have h5' : l = now ∧ t.down = false ∧ t.loose = [] := by
    rcases h5 with ⟨_, a⟩ | ⟨a, _⟩
    · exact a
    · cases a
  obtain ⟨hl, h6, h7⟩ := h5'
  obtain ⟨n, hn⟩ : ∃ n, n = t.sure.length + t.loose.length + (lay list).length := ⟨_, rfl⟩
  have hadd : t.add (lay list) = if (t.write n).1 = 0 then (0, { (t.write n).2 with loose := t.loose ++ lay list }) else t.write n := by rw [hn]; rfl
  obtain ⟨k1, k2, k3⟩ := Tp.write_keeps t n
  unfold add
  simp only
  rw [if_neg (by simp), if_neg (by simpa using hf)]
  rcases write_err t n with he | he | he
  · rw [hadd, if_pos he]
    simp only [ne_eq, not_true, if_false]
    have hok1 : Tp.Ok { (t.write n).2 with loose := t.loose ++ lay list } := by
      have := Tp.Ok.add h4 (lay list)
      rw [hadd, if_pos he] at this
      exact this
    obtain ⟨g1, _⟩ := write_not_down h6 n (by rw [he]; decide)
    obtain ⟨t1, ht1⟩ : ∃ t1, t1 = { (t.write n).2 with loose := t.loose ++ lay list } := ⟨_, rfl⟩
    rw [← ht1] at hok1 ⊢
    have e1 : t1.sure = lay now := by rw [ht1]; simp only [k1, h2]
    have e2 : t1.loose = lay list := by rw [ht1]; simp only [h7, List.nil_append]
    have e3 : t1.room = 262144 := by rw [ht1]; simp only [k3, h3]
    have e4 : t1.down = false := by rw [ht1]; exact g1
    have hsy : t1.sync = if (t1.write 0).1 = 0 then (0, { (t1.write 0).2 with sure := t1.sure ++ t1.loose, loose := [] }) else t1.write 0 := rfl
    obtain ⟨m1, m2, m3⟩ := Tp.write_keeps t1 0
    rcases write_err t1 0 with he1 | he1 | he1
    · rw [hsy, if_pos he1]
      simp only [ne_eq, not_true, if_false]
      refine .inr (.inl ⟨trivial, trivial, ?_, ?_, ?_, ?_, .inl ⟨rfl, by simp only [hl], ?_, rfl⟩⟩)
      · intro x hx
        rcases List.mem_append.1 hx with hx | hx
        · exact h1 x hx
        · exact hf x hx
      · simp only [e1, e2, lay_append]
      · simp only [m3, e3]
      · have := Tp.Ok.sync hok1
        rw [hsy, if_pos he1] at this
        exact this
      · exact (write_not_down e4 0 (by rw [he1]; decide)).1
    · exfalso
      have := (write_not_down e4 0 (by rw [he1]; decide)).2 he1
      rw [e3] at this
      have h9 := this.2
      omega
    · have hsy2 : t1.sync = t1.write 0 := by rw [hsy, if_neg (by rw [he1]; decide)]
      rw [hsy2, if_pos (by rw [he1]; decide)]
      refine .inl ⟨he1, by simp [he1], h1, ?_, ?_, hok1.write 0, .inr ⟨by simp [he1], ?_, .inr ⟨list, hf, ?_, rfl⟩⟩⟩
      · simp only [m1, e1]
      · simp only [m3, e3]
      · simp only [write_down e4 0 he1]
      · simp only [m2, e2]
  · have hadd2 : t.add (lay list) = t.write n := by rw [hadd, if_neg (by rw [he]; decide)]
    rw [hadd2, if_pos (by rw [he]; decide)]
    obtain ⟨g1, g2⟩ := write_not_down h6 n (by rw [he]; decide)
    obtain ⟨g3, g4⟩ := g2 he
    refine .inr (.inr ⟨he, by simp [he], ?_, h1, ?_, ?_, h4.write n, .inl ⟨by simp [he], hl, g1, ?_⟩⟩)
    · rw [lay_append, List.length_append]
      rw [hn, h2, h7, h3] at g4
      simp only [List.length_nil] at g4
      omega
    · simp only [k1, h2]
    · simp only [k3, h3]
    · simp only [k2, h7]
  · have hadd2 : t.add (lay list) = t.write n := by rw [hadd, if_neg (by rw [he]; decide)]
    rw [hadd2, if_pos (by rw [he]; decide)]
    refine .inl ⟨he, by simp [he], h1, ?_, ?_, h4.write n, .inr ⟨by simp [he], ?_, .inl ?_⟩⟩
    · simp only [k1, h2]
    · simp only [k3, h3]
    · simp only [write_down h6 n he]
    · simp only [k2, h7]
/-- Reset, of a book that lives -/
theorem reset_law {now cut list : List (List UInt8)} {b : Bks} (h : Inv now cut b) (hd : b.dead = false) (hf : fits list) :
    ((b.reset list).1 = 11 ∧ (b.reset list).2.dead = true ∧ Inv now list (b.reset list).2) ∨
    ((b.reset list).1 = 0 ∧ (b.reset list).2.dead = false ∧ Inv list list (b.reset list).2) ∨
    ((b.reset list).1 = 10 ∧ (b.reset list).2.dead = false ∧ (lay list).length > 262144 ∧ Inv now cut (b.reset list).2) := by
  obtain ⟨l, dead, t⟩ := b
  obtain ⟨h1, h2, h3, h4, h5⟩ := h
  simp only at hd h2 h3 h4 h5
  subst hd
  have h5' : l = now ∧ t.down = false ∧ t.loose = [] := by
    rcases h5 with ⟨_, a⟩ | ⟨a, _⟩
    · exact a
    · cases a
  obtain ⟨hl, h6, h7⟩ := h5'
  obtain ⟨n, hn⟩ : ∃ n, n = (lay list).length := ⟨_, rfl⟩
  have hrep : t.repl (lay list) = if (t.write n).1 = 0 then (0, { (t.write n).2 with sure := lay list, loose := [] }) else t.write n := by rw [hn]; rfl
  obtain ⟨k1, k2, k3⟩ := Tp.write_keeps t n
  unfold reset
  simp only
  rw [if_neg (by simp), if_neg (by simpa using hf)]
  rcases write_err t n with he | he | he
  · rw [hrep, if_pos he]
    simp only [ne_eq, not_true, if_false]
    refine .inr (.inl ⟨trivial, trivial, hf, rfl, ?_, ?_, .inl ⟨rfl, rfl, ?_, rfl⟩⟩)
    · simp only [k3, h3]
    · have := Tp.Ok.repl h4 (lay list)
      rw [hrep, if_pos he] at this
      exact this
    · exact (write_not_down h6 n (by rw [he]; decide)).1
  · have hrep2 : t.repl (lay list) = t.write n := by rw [hrep, if_neg (by rw [he]; decide)]
    rw [hrep2, if_pos (by rw [he]; decide)]
    obtain ⟨g1, g2⟩ := write_not_down h6 n (by rw [he]; decide)
    obtain ⟨g3, g4⟩ := g2 he
    refine .inr (.inr ⟨he, by simp [he], ?_, h1, ?_, ?_, h4.write n, .inl ⟨by simp [he], hl, g1, ?_⟩⟩)
    · rw [hn, h3] at g4; omega
    · simp only [k1, h2]
    · simp only [k3, h3]
    · simp only [k2, h7]
  · have hrep2 : t.repl (lay list) = t.write n := by rw [hrep, if_neg (by rw [he]; decide)]
    rw [hrep2, if_pos (by rw [he]; decide)]
    refine .inl ⟨he, by simp [he], h1, ?_, ?_, h4.write n, .inr ⟨by simp [he], ?_, .inl ?_⟩⟩
    · simp only [k1, h2]
    · simp only [k3, h3]
    · simp only [write_down h6 n he]
    · simp only [k2, h7]
theorem fail_law {now cut : List (List UInt8)} {b : Bks} (h : Inv now cut b) (n : Int) : Inv now cut { b with t := b.t.fail n } := h

theorem kept_cutAt (l : List UInt8) (keep : Int) (turn : UInt8) : ∃ k, Tp.kept l keep turn = cutAt l k turn := by
  unfold Tp.kept
  split
  · exact ⟨l.length, by unfold cutAt; rw [List.take_length, List.getElem?_eq_none (Nat.le_refl _)]; simp⟩
  · refine ⟨keep.toNat, ?_⟩
    unfold cutAt
    split <;> simp
/-- a crash, and Open: what is there is what was, or with it some first ones of what was cut off -/
theorem crash_law {now cut : List (List UInt8)} {b : Bks} (h : Inv now cut b) (keep : Int) (turn : UInt8) :
    (opens (b.t.crash keep turn)).1 = 0 ∧ (opens (b.t.crash keep turn)).2.dead = false ∧ Inv (opens (b.t.crash keep turn)).2.l (opens (b.t.crash keep turn)).2.l (opens (b.t.crash keep turn)).2 ∧
      ((opens (b.t.crash keep turn)).2.l = now ∨ (b.dead = true ∧ ∃ list j, cut = now ++ list ∧ j ≤ list.length ∧ (opens (b.t.crash keep turn)).2.l = now ++ list.take j)) := by
  obtain ⟨l, dead, t⟩ := b
  obtain ⟨h1, h2, h3, h4, h5⟩ := h
  simp only at h2 h3 h4 h5 ⊢
  -- what is there, and what is left behind it
  have key : ∃ x s, fits x ∧ t.sure ++ Tp.kept t.loose keep turn = lay x ++ s ∧ oneAns s = none ∧ (x = now ∨ (dead = true ∧ ∃ list j, cut = now ++ list ∧ j ≤ list.length ∧ x = now ++ list.take j)) := by
    have hnil : t.loose = [] → ∃ x s, fits x ∧ t.sure ++ Tp.kept t.loose keep turn = lay x ++ s ∧ oneAns s = none ∧ (x = now ∨ (dead = true ∧ ∃ list j, cut = now ++ list ∧ j ≤ list.length ∧ x = now ++ list.take j)) := fun hz => by
      refine ⟨now, [], h1, ?_, one_nil, .inl rfl⟩
      rw [h2, hz]
      have : Tp.kept [] keep turn = [] := by
        have := Tp.kept_len [] keep turn
        exact List.eq_nil_of_length_eq_zero (by simpa using this)
      rw [this]
    rcases h5 with ⟨_, _, _, h7⟩ | ⟨h6, _, h7 | ⟨list, hf, h7, h8⟩⟩
    · exact hnil h7
    · exact hnil h7
    · obtain ⟨k, hk⟩ := kept_cutAt t.loose keep turn
      obtain ⟨j, s, hj, hc, hs⟩ := cut_lay list k turn hf
      refine ⟨now ++ list.take j, s, ?_, ?_, hs, .inr ⟨h6, list, j, h8, hj, rfl⟩⟩
      · intro x hx
        rcases List.mem_append.1 hx with hx | hx
        · exact h1 x hx
        · exact hf x (List.mem_of_mem_take hx)
      · rw [hk, h7, hc, h2, lay_append, List.append_assoc]
  obtain ⟨x, s, hx, he, hs, hcase⟩ := key
  have hall : all (t.crash keep turn) = lay x ++ s := by unfold all Tp.crash; simp only [List.append_nil]; exact he
  have hrd : readAns (all (t.crash keep turn)) = (x, (lay x).length) := by rw [hall]; exact read_lay x s hx hs
  have hok := h4.crash keep turn
  have hrm : (t.crash keep turn).room = 262144 := h3
  unfold opens
  rw [hrd]
  simp only
  rw [if_neg (by simp [Tp.crash])]
  by_cases hlt : (lay x).length < (all (t.crash keep turn)).length
  · rw [if_pos hlt]
    have htk : (all (t.crash keep turn)).take (lay x).length = lay x := by rw [hall, List.take_left]
    rw [htk]
    have hroom : ((lay x).length : Int) ≤ (t.crash keep turn).room := by
      obtain ⟨_, _, h9⟩ := hok
      have : (all (t.crash keep turn)).length = (t.crash keep turn).sure.length + (t.crash keep turn).loose.length := by unfold all; rw [List.length_append]
      omega
    have hw := Tp.write_live (t := t.crash keep turn) rfl (by show (-1 : Int) < 0; omega) (lay x).length
    rw [if_neg (by omega)] at hw
    have hrep : (t.crash keep turn).repl (lay x) = (0, { t.crash keep turn with sure := lay x, loose := [] }) := by
      unfold Tp.repl
      rw [hw]
      rfl
    have hokr := hok.repl (lay x)
    rw [hrep] at hokr ⊢
    simp only [ne_eq, not_true, if_false]
    exact ⟨trivial, trivial, ⟨hx, rfl, hrm, hokr, .inl ⟨rfl, rfl, rfl, rfl⟩⟩, hcase⟩
  · rw [if_neg hlt]
    simp only
    have hs0 : s = [] := by
      rw [hall, List.length_append] at hlt
      exact List.eq_nil_of_length_eq_zero (by omega)
    refine ⟨trivial, trivial, ⟨hx, ?_, hrm, hok, .inl ⟨rfl, rfl, rfl, rfl⟩⟩, hcase⟩
    subst hs0
    rw [List.append_nil] at hall
    unfold all at hall
    rw [show (t.crash keep turn).loose = [] from rfl, List.append_nil] at hall
    exact hall
end Bks
end Go.Proofs.Ytaenlkopjmgniaa

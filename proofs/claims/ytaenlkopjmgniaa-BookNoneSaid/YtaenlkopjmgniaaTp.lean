/- The tape as a state, and what the laws of stage 6 need of it: pure, no program. -/
namespace Go.Proofs.Ytaenlkopjmgniaa

structure Tp where
  sure : List UInt8
  loose : List UInt8
  room : Int
  left : Int
  down : Bool

namespace Tp
/-- one call that leaves so many bytes: 0, ErrFull 10 or ErrDown 11 -/
def write (t : Tp) (size : Nat) : Int × Tp :=
  if t.down = true then (11, t)
  else if (size : Int) > t.room then (10, t)
  else if t.left = 0 then (11, { t with down := true })
  else if t.left > 0 then (0, { t with left := t.left - 1 }) else (0, t)
def add (t : Tp) (b : List UInt8) : Int × Tp :=
  let r := t.write (t.sure.length + t.loose.length + b.length)
  if r.1 = 0 then (0, { r.2 with loose := t.loose ++ b }) else r
def sync (t : Tp) : Int × Tp :=
  let r := t.write 0
  if r.1 = 0 then (0, { r.2 with sure := t.sure ++ t.loose, loose := [] }) else r
def repl (t : Tp) (b : List UInt8) : Int × Tp :=
  let r := t.write b.length
  if r.1 = 0 then (0, { r.2 with sure := b, loose := [] }) else r
def fail (t : Tp) (n : Int) : Tp := { t with left := n }
/-- what lasts of the loose ones -/
def kept (l : List UInt8) (keep : Int) (turn : UInt8) : List UInt8 :=
  if (l.length : Int) ≤ keep then l
  else if turn = 0 then l.take keep.toNat
  else l.take keep.toNat ++ (l[keep.toNat]?.map fun x => x ^^^ turn).toList
def crash (t : Tp) (keep : Int) (turn : UInt8) : Tp :=
  { t with sure := t.sure ++ kept t.loose keep turn, loose := [], down := false, left := -1 }
/-- what is asked of every tape: its bytes have room -/
def Ok (t : Tp) : Prop := 0 ≤ t.room ∧ t.room ≤ 1048576 ∧ ((t.sure.length + t.loose.length : Nat) : Int) ≤ t.room

theorem write_ok {t : Tp} {n : Nat} (h : (t.write n).1 = 0) : (n : Int) ≤ t.room := by
  unfold write at h
  split at h
  · cases h
  · split at h
    · cases h
    · omega
theorem write_keeps (t : Tp) (n : Nat) : (t.write n).2.sure = t.sure ∧ (t.write n).2.loose = t.loose ∧ (t.write n).2.room = t.room := by
  unfold write; repeat' split
  all_goals exact ⟨rfl, rfl, rfl⟩
theorem Ok.write {t : Tp} (h : t.Ok) (n : Nat) : (t.write n).2.Ok := by
  obtain ⟨h1, h2, h3⟩ := write_keeps t n
  unfold Ok at h ⊢; rw [h1, h2, h3]; exact h
theorem Ok.add {t : Tp} (h : t.Ok) (b : List UInt8) : (t.add b).2.Ok := by
  unfold Tp.add
  simp only
  split
  · rename_i h0
    have hr := write_ok h0
    obtain ⟨h1, h2, h3⟩ := write_keeps t (t.sure.length + t.loose.length + b.length)
    unfold Ok at h ⊢
    simp only [h1, h3, List.length_append]
    omega
  · exact h.write _
theorem Ok.sync {t : Tp} (h : t.Ok) : (t.sync).2.Ok := by
  unfold Tp.sync
  simp only
  split
  · obtain ⟨h1, h2, h3⟩ := write_keeps t 0
    unfold Ok at h ⊢
    simp only [h3, List.length_append, List.length_nil]
    omega
  · exact h.write _
theorem Ok.repl {t : Tp} (h : t.Ok) (b : List UInt8) : (t.repl b).2.Ok := by
  unfold Tp.repl
  simp only
  split
  · rename_i h0
    have hr := write_ok h0
    obtain ⟨h1, h2, h3⟩ := write_keeps t b.length
    unfold Ok at h ⊢
    simp only [h3, List.length_nil]
    omega
  · exact h.write _
theorem kept_len (l : List UInt8) (keep : Int) (turn : UInt8) : (kept l keep turn).length ≤ l.length := by
  unfold kept
  split
  · exact Nat.le_refl _
  · split
    · simp; omega
    · rename_i h _
      have hk : keep.toNat < l.length ∨ l.length = 0 := by omega
      rcases hk with hk | hk
      · simp [List.getElem?_eq_getElem hk]; omega
      · rw [List.eq_nil_of_length_eq_zero hk]; simp
theorem Ok.crash {t : Tp} (h : t.Ok) (keep : Int) (turn : UInt8) : (t.crash keep turn).Ok := by
  have := kept_len t.loose keep turn
  unfold Ok at h ⊢
  simp only [Tp.crash, List.length_append, List.length_nil]
  omega
/-- what lasts begins as what was there, but for perhaps the last one -/
theorem kept_at (l : List UInt8) (keep : Int) (turn : UInt8) (i : Nat) (hi : i + 1 < (kept l keep turn).length) : (kept l keep turn)[i]? = l[i]? := by
  unfold kept at hi ⊢
  split at hi
  · rename_i h; simp only [if_pos h]
  · rename_i h
    simp only [if_neg h]
    split at hi
    · rename_i h2
      simp only [if_pos h2]
      rw [List.getElem?_take]
      simp only [List.length_take] at hi
      rw [if_pos (by omega)]
    · rename_i h2
      simp only [if_neg h2]
      have hlt : keep.toNat < l.length := by
        rcases Nat.lt_or_ge keep.toNat l.length with h' | h'
        · exact h'
        · have : l.length = 0 := by omega
          rw [List.eq_nil_of_length_eq_zero this] at hi
          simp at hi
      simp only [List.getElem?_eq_getElem hlt, Option.map_some, Option.toList_some, List.length_append, List.length_take, List.length_cons, List.length_nil] at hi ⊢
      have hik : i < keep.toNat := by omega
      rw [List.getElem?_append_left (by simp; omega), List.getElem?_take, if_pos hik]
theorem crash_at (t : Tp) (keep : Int) (turn : UInt8) (i : Nat) (hi : i < (t.crash keep turn).sure.length) (hne : (t.crash keep turn).sure[i]? ≠ (t.sure ++ t.loose)[i]?) : t.sure.length ≤ i ∧ i + 1 = (t.crash keep turn).sure.length := by
  simp only [Tp.crash] at hi hne ⊢
  rcases Nat.lt_or_ge i t.sure.length with h | h
  · exact absurd (by rw [List.getElem?_append_left h, List.getElem?_append_left h]) hne
  · refine ⟨h, ?_⟩
    rcases Nat.lt_or_ge (i + 1) (t.sure ++ kept t.loose keep turn).length with h2 | h2
    · refine absurd ?_ hne
      rw [List.getElem?_append_right h, List.getElem?_append_right h]
      exact kept_at _ _ _ _ (by simp only [List.length_append] at h2; omega)
    · omega

/-- a tape that has not to go down: what one call says hangs on the room alone -/
theorem write_live {t : Tp} (hd : t.down = false) (hl : t.left < 0) (n : Nat) : t.write n = if (n : Int) > t.room then (10, t) else (0, t) := by
  unfold write
  rw [if_neg (by simp [hd])]
  split
  · rfl
  · rw [if_neg (by omega), if_neg (by omega)]
theorem add_live {t : Tp} (hd : t.down = false) (hl : t.left < 0) (b : List UInt8) (hr : ((t.sure.length + t.loose.length + b.length : Nat) : Int) ≤ t.room) : t.add b = (0, { t with loose := t.loose ++ b }) := by
  have h := write_live hd hl (t.sure.length + t.loose.length + b.length)
  rw [if_neg (by omega)] at h
  unfold add
  rw [h]
  rfl
theorem sync_live {t : Tp} (hd : t.down = false) (hl : t.left < 0) (hr : 0 ≤ t.room) : t.sync = (0, { t with sure := t.sure ++ t.loose, loose := [] }) := by
  have h := write_live hd hl 0
  rw [if_neg (by omega)] at h
  unfold sync
  rw [h]
  rfl
theorem crash_sync {t : Tp} (hr : 0 ≤ t.room) (keep : Int) (turn : UInt8) : ((t.crash keep turn).sync).1 = 0 := by
  have h := sync_live (t := t.crash keep turn) rfl (by show (-1 : Int) < 0; omega) hr
  rw [h]

/-- TapeFails: what holds ahead of call i -/
def FailInv (n i : Nat) (t : Tp) : Prop :=
  t.room = 1000 ∧ t.sure.length + t.loose.length ≤ 1 ∧ (i ≤ n → t.down = false ∧ t.left = (n : Int) - i) ∧ (n < i → t.down = true)
theorem FailInv.write {n i : Nat} {t : Tp} (h : FailInv n i t) {k : Nat} (hk : k ≤ 1) :
    (i < n ∧ t.write k = (0, { t with left := t.left - 1 })) ∨ (n ≤ i ∧ (t.write k).1 = 11 ∧ FailInv n (i + 1) (t.write k).2) := by
  obtain ⟨h1, h2, h3, h4⟩ := h
  rcases Nat.lt_or_ge i n with hi | hi
  · obtain ⟨h5, h6⟩ := h3 (by omega)
    refine .inl ⟨hi, ?_⟩
    unfold Tp.write
    rw [if_neg (by simp [h5]), if_neg (by omega), if_neg (by omega), if_pos (by omega)]
  · refine .inr ⟨hi, ?_⟩
    rcases Nat.lt_or_ge n i with hn | hn
    · have h5 := h4 hn
      unfold Tp.write
      rw [if_pos h5]
      exact ⟨rfl, h1, h2, fun h => by omega, fun _ => h5⟩
    · obtain ⟨h5, h6⟩ := h3 hn
      unfold Tp.write
      rw [if_neg (by simp [h5]), if_neg (by omega), if_pos (by omega)]
      exact ⟨rfl, h1, h2, fun h => by omega, fun _ => rfl⟩
theorem FailInv.add {n i : Nat} {t : Tp} (h : FailInv n i t) :
    ((t.add []).1 = if i < n then 0 else 11) ∧ FailInv n (i + 1) (t.add []).2 := by
  have h0 := h
  obtain ⟨h1, h2, h3, _⟩ := h0
  unfold Tp.add
  simp only [List.length_nil, Nat.add_zero, List.append_nil]
  rcases h.write h2 with ⟨hi, hw⟩ | ⟨hi, hw, hn⟩
  · rw [hw, if_pos rfl, if_pos hi]
    obtain ⟨h5, h6⟩ := h3 (by omega)
    exact ⟨rfl, h1, h2, fun _ => ⟨h5, by show t.left - 1 = _; omega⟩, fun h => by omega⟩
  · rw [if_neg (by omega), if_neg (by omega)]
    exact ⟨hw, hn⟩
theorem FailInv.sync {n i : Nat} {t : Tp} (h : FailInv n i t) :
    (t.sync.1 = if i < n then 0 else 11) ∧ FailInv n (i + 1) t.sync.2 := by
  have h0 := h
  obtain ⟨h1, h2, h3, _⟩ := h0
  unfold Tp.sync
  simp only
  rcases h.write (k := 0) (by omega) with ⟨hi, hw⟩ | ⟨hi, hw, hn⟩
  · rw [hw, if_pos rfl, if_pos hi]
    obtain ⟨h5, h6⟩ := h3 (by omega)
    exact ⟨rfl, h1, by simpa using h2, fun _ => ⟨h5, by show t.left - 1 = _; omega⟩, fun h => by omega⟩
  · rw [if_neg (by omega), if_neg (by omega)]
    exact ⟨hw, hn⟩
theorem FailInv.repl {n i : Nat} {t : Tp} (h : FailInv n i t) (x : UInt8) :
    ((t.repl [x]).1 = if i < n then 0 else 11) ∧ FailInv n (i + 1) (t.repl [x]).2 := by
  have h0 := h
  obtain ⟨h1, h2, h3, _⟩ := h0
  unfold Tp.repl
  simp only [List.length_cons, List.length_nil]
  rcases h.write (k := 0 + 1) (by omega) with ⟨hi, hw⟩ | ⟨hi, hw, hn⟩
  · rw [hw, if_pos rfl, if_pos hi]
    obtain ⟨h5, h6⟩ := h3 (by omega)
    exact ⟨rfl, h1, by simp, fun _ => ⟨h5, by show t.left - 1 = _; omega⟩, fun h => by omega⟩
  · rw [if_neg (by omega), if_neg (by omega)]
    exact ⟨hw, hn⟩
theorem FailInv.start (n : Nat) : FailInv n 0 (fail ⟨[], [], 1000, -1, false⟩ n) :=
  ⟨rfl, by simp [fail], fun _ => ⟨rfl, by simp [fail]⟩, fun h => by omega⟩
end Tp
end Go.Proofs.Ytaenlkopjmgniaa

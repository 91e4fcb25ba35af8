/- A bag as a state: pure. -/
namespace Go.Proofs.Ytjkhdlmdgdcimaa

/-- one message on the way -/
structure Ltr where
  to : Int
  text : List UInt8
  sp : Bool
instance : Inhabited Ltr := ⟨⟨0, [], false⟩⟩
/-- what is on the way, and for how many there is room -/
structure Bg where
  room : Nat
  l : List Ltr
namespace Bg
def none_ : Ltr := ⟨0, [], false⟩
def send (b : Bg) (to : Int) (t : List UInt8) : Int × Bg :=
  if to < 0 ∨ 255 < to then (1, b) else if 131072 < t.length then (6, b) else if b.room ≤ b.l.length then (10, b) else (0, { b with l := b.l ++ [⟨to, t, false⟩] })
/-- is there an i-th? -/
def has (b : Bg) (i : Int) : Prop := 0 ≤ i ∧ i < (b.l.length : Int)
instance (b : Bg) (i : Int) : Decidable (b.has i) := by unfold has; exact inferInstance
def look (b : Bg) (i : Int) : Ltr × Int := if b.has i then (b.l[i.toNat]?.getD none_, 0) else (none_, 4)
def take (b : Bg) (i : Int) : Bg := if b.has i then { b with l := b.l.eraseIdx i.toNat } else b
def twin (b : Bg) (i : Int) : Int × Bg :=
  if ¬ b.has i then (4, b) else if b.room ≤ b.l.length then (10, b) else (0, { b with l := b.l ++ [(b.look i).1] })
def xorAt (t : List UInt8) (k : Nat) (turn : UInt8) : List UInt8 := t.set k (t[k]?.getD 0 ^^^ turn)
def spoil (b : Bg) (i at_ : Int) (turn : UInt8) : Int × Bg :=
  if ¬ b.has i then (4, b) else if at_ < 0 ∨ ((b.look i).1.text.length : Int) ≤ at_ then (5, b) else if (b.look i).1.sp = true then (7, b) else
    (0, { b with l := b.l.set i.toNat ⟨(b.look i).1.to, xorAt (b.look i).1.text at_.toNat turn, decide (turn ≠ 0)⟩ })
/-- what holds of every bag: it is not fuller than full, its texts are not too long -/
def Ok (b : Bg) : Prop := b.room ≤ 4096 ∧ b.l.length ≤ b.room ∧ ∀ x ∈ b.l, x.text.length ≤ 131072
theorem has_at {b : Bg} {i : Int} (h : b.has i) : i.toNat < b.l.length := by obtain ⟨h1, h2⟩ := h; omega
theorem look_at {b : Bg} {i : Int} (h : b.has i) : b.look i = (b.l[i.toNat]'(has_at h), 0) := by
  unfold look
  rw [if_pos h, List.getElem?_eq_getElem (has_at h)]
  rfl
theorem look_mem {b : Bg} {i : Int} (h : b.has i) : (b.look i).1 ∈ b.l := by rw [look_at h]; exact List.getElem_mem _
theorem Ok.look {b : Bg} (h : b.Ok) (i : Int) : (b.look i).1.text.length ≤ 131072 := by
  by_cases hi : b.has i
  · exact h.2.2 _ (look_mem hi)
  · unfold Bg.look; rw [if_neg hi]; simp [none_]
theorem Ok.send {b : Bg} (h : b.Ok) (to : Int) (t : List UInt8) : (b.send to t).2.Ok := by
  unfold Bg.send
  split
  · exact h
  · split
    · exact h
    · split
      · exact h
      · obtain ⟨h1, h2, h3⟩ := h
        refine ⟨h1, by simp; omega, fun x hx => ?_⟩
        rcases List.mem_append.1 hx with hx | hx
        · exact h3 x hx
        · rw [List.mem_singleton.1 hx]; simp only; omega
theorem Ok.take {b : Bg} (h : b.Ok) (i : Int) : (b.take i).Ok := by
  unfold Bg.take
  split
  · obtain ⟨h1, h2, h3⟩ := h
    exact ⟨h1, by have := List.length_eraseIdx_le b.l i.toNat; simp only; omega, fun x hx => h3 x (List.mem_of_mem_eraseIdx hx)⟩
  · exact h
theorem Ok.twin {b : Bg} (h : b.Ok) (i : Int) : (b.twin i).2.Ok := by
  unfold Bg.twin
  split
  · exact h
  · split
    · exact h
    · obtain ⟨h1, h2, h3⟩ := id h
      refine ⟨h1, by simp; omega, fun x hx => ?_⟩
      rcases List.mem_append.1 hx with hx | hx
      · exact h3 x hx
      · rw [List.mem_singleton.1 hx]; exact h.look i
theorem Ok.spoil {b : Bg} (h : b.Ok) (i at_ : Int) (turn : UInt8) : (b.spoil i at_ turn).2.Ok := by
  unfold Bg.spoil
  repeat' split
  all_goals first | exact h | skip
  obtain ⟨h1, h2, h3⟩ := id h
  refine ⟨h1, by simpa using h2, fun x hx => ?_⟩
  rcases List.mem_or_eq_of_mem_set hx with hx | hx
  · exact h3 x hx
  · rw [hx]
    simp only [xorAt, List.length_set]
    exact h.look i
theorem Ok.new {room : Int} (h0 : 0 ≤ room) (h1 : room ≤ 4096) : Ok ⟨room.toNat, []⟩ := ⟨by simp only; omega, by simp, by simp⟩
end Bg
end Go.Proofs.Ytjkhdlmdgdcimaa

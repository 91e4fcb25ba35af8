/- What BagOrder and BagRound ask of a bag as a state: pure. -/
import Derived.Test.YtjkhdlmdgdcimaaBg
namespace Go.Proofs.Ytjkhdlmdgdcimaa
namespace Bg
/-- texts, the first to k, each other one to one more -/
def ord : Nat → List (List UInt8) → List Ltr
  | _, [] => []
  | k, t :: r => ⟨(k : Int), t, false⟩ :: ord (k + 1) r
theorem ord_len : ∀ (ts : List (List UInt8)) (k : Nat), (ord k ts).length = ts.length
  | [], _ => rfl
  | t :: r, k => by simp [ord, ord_len r (k + 1)]
theorem ord_append : ∀ (a b : List (List UInt8)) (k : Nat), ord k (a ++ b) = ord k a ++ ord (k + a.length) b
  | [], b, k => by simp [ord]
  | t :: r, b, k => by simp only [List.cons_append, ord, List.length_cons]; rw [ord_append r b (k + 1), show k + 1 + r.length = k + (r.length + 1) by omega]
theorem ord_get : ∀ (ts : List (List UInt8)) (k j : Nat), (ord k ts)[j]? = ts[j]?.map fun t => ⟨((k + j : Nat) : Int), t, false⟩
  | [], k, j => by simp [ord]
  | t :: r, k, 0 => by simp [ord]
  | t :: r, k, j + 1 => by simp only [ord, List.getElem?_cons_succ]; rw [ord_get r (k + 1) j, show k + 1 + j = k + (j + 1) by omega]
theorem ord_drop (ts : List (List UInt8)) (k j : Nat) (h : j ≤ ts.length) : (ord k ts).drop j = ord (k + j) (ts.drop j) := by
  have h1 := ord_append (ts.take j) (ts.drop j) k
  rw [List.take_append_drop, List.length_take, Nat.min_eq_left h] at h1
  rw [h1]
  exact List.drop_left' (by rw [ord_len, List.length_take, Nat.min_eq_left h])
theorem ord_mem {ts : List (List UInt8)} {k : Nat} {x : Ltr} (h : x ∈ ord k ts) : ∃ j, j < ts.length ∧ x.to = ((k + j : Nat) : Int) ∧ x.sp = false ∧ x.text ∈ ts := by
  obtain ⟨j, hj, rfl⟩ := List.getElem_of_mem h
  have hj2 : j < ts.length := by rw [ord_len] at hj; exact hj
  have h1 := ord_get ts k j
  rw [List.getElem?_eq_getElem hj, List.getElem?_eq_getElem hj2] at h1
  simp only [Option.map_some, Option.some.injEq] at h1
  rw [h1]
  exact ⟨j, hj2, rfl, rfl, List.getElem_mem hj2⟩
theorem ord_snoc (ts : List (List UInt8)) (i : Nat) (h : i < ts.length) : ord 0 (ts.take (i + 1)) = ord 0 (ts.take i) ++ [⟨(i : Int), ts[i], false⟩] := by
  rw [List.take_add_one, List.getElem?_eq_getElem h, ord_append, List.length_take, Nat.min_eq_left (by omega)]
  simp [ord]

/-- one more is sent -/
theorem send_ord {room : Nat} {ts : List (List UInt8)} {i : Nat} (h : i < ts.length) (hr : i < room) (hi : i ≤ 255) (ht : ts[i].length ≤ 131072) : (Bg.mk room (ord 0 (ts.take i))).send (i : Int) ts[i] = (0, ⟨room, ord 0 (ts.take (i + 1))⟩) := by
  unfold send
  rw [if_neg (by omega), if_neg (by omega), if_neg (by simp only [ord_len, List.length_take]; omega), ord_snoc ts i h]
theorem send_full {room : Nat} {l : List Ltr} {to : Int} {t : List UInt8} (h : 0 ≤ to ∧ to ≤ 255) (ht : t.length ≤ 131072) (hr : room ≤ l.length) : (Bg.mk room l).send to t = (10, ⟨room, l⟩) := by
  unfold send
  rw [if_neg (by omega), if_neg (by omega), if_pos hr]
theorem send_large {b : Bg} {to : Int} {t : List UInt8} (h : 0 ≤ to ∧ to ≤ 255) (ht : 131072 < t.length) : b.send to t = (6, b) := by
  unfold send
  rw [if_neg (by omega), if_pos ht]
/-- the first one -/
theorem first_look {room : Nat} {x : Ltr} {l : List Ltr} : (Bg.mk room (x :: l)).look 0 = (x, 0) := by
  rw [look_at (b := ⟨room, x :: l⟩) (i := 0) ⟨by omega, by simp⟩]
  rfl
theorem first_take {room : Nat} {x : Ltr} {l : List Ltr} : (Bg.mk room (x :: l)).take 0 = ⟨room, l⟩ := by
  unfold take
  rw [if_pos (show (Bg.mk room (x :: l)).has 0 from ⟨by omega, by simp⟩)]
  rfl
theorem none_look {room : Nat} {i : Int} : (Bg.mk room []).look i = (none_, 4) := by
  unfold look
  rw [if_neg (by rintro ⟨h1, h2⟩; simp at h2; omega)]
theorem none_take {room : Nat} {i : Int} : (Bg.mk room []).take i = ⟨room, []⟩ := by
  unfold take
  rw [if_neg (by rintro ⟨h1, h2⟩; simp at h2; omega)]
theorem ord_cons (ts : List (List UInt8)) (i : Nat) (h : i < ts.length) : ord i (ts.drop i) = ⟨(i : Int), ts[i], false⟩ :: ord (i + 1) (ts.drop (i + 1)) := by
  rw [List.drop_eq_getElem_cons h, ord]

/-- l, the first j of it behind the others -/
def rot (l : List Ltr) (j : Nat) : List Ltr := l.drop j ++ l.take j
theorem rot_zero (l : List Ltr) : rot l 0 = l := by simp [rot]
theorem rot_len (l : List Ltr) (j : Nat) : (rot l j).length = l.length := by simp [rot]; omega
/-- who takes the first one and sends it again -/
theorem rot_step {room : Nat} {l : List Ltr} {j : Nat} (h : j < l.length) (hr : l.length ≤ room) (hl : ∀ x ∈ l, 0 ≤ x.to ∧ x.to ≤ 255 ∧ x.sp = false ∧ x.text.length ≤ 131072) :
    (Bg.mk room (rot l j)).look 0 = (l[j], 0) ∧ ((Bg.mk room (rot l j)).take 0).send l[j].to l[j].text = (0, ⟨room, rot l ((j + 1) % l.length)⟩) := by
  have e : rot l j = l[j] :: (l.drop (j + 1) ++ l.take j) := by rw [rot, List.drop_eq_getElem_cons h, List.cons_append]
  obtain ⟨h1, h2, h3, h4⟩ := hl l[j] (List.getElem_mem h)
  rw [e]
  refine ⟨first_look, ?_⟩
  rw [first_take]
  unfold send
  rw [if_neg (by omega), if_neg (by omega), if_neg (by simp only [List.length_append, List.length_drop, List.length_take]; omega)]
  have hx : (⟨l[j].to, l[j].text, false⟩ : Ltr) = l[j] := by rw [← h3]
  rw [hx]
  have ht : l.take j ++ [l[j]] = l.take (j + 1) := by rw [List.take_add_one, List.getElem?_eq_getElem h]; rfl
  simp only [Prod.mk.injEq, Bg.mk.injEq, true_and]
  rw [List.append_assoc, ht]
  by_cases hn : j + 1 = l.length
  · rw [hn, Nat.mod_self, rot_zero, List.drop_length, List.take_length, List.nil_append]
  · rw [Nat.mod_eq_of_lt (by omega)]; rfl
end Bg
end Go.Proofs.Ytjkhdlmdgdcimaa

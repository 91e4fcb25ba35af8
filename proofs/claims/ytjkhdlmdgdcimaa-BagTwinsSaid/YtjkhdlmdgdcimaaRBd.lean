/- The reference's bag: Spoil. -/
import Derived.Test.YtjkhdlmdgdcimaaRBc
import Derived.Lib.ConvBytes
namespace Go.Proofs.Ytjkhdlmdgdcimaa
open Go.RowKit

theorem flatG_set {α : Type} {enc : α → List Value} {k : Nat} (hk : ∀ x, (enc x).length = k) : ∀ (l : List α) (i j : Nat) (u : Value) (x' : α) (hi : i < l.length), j < k → (enc l[i]).set j u = enc x' → (flatG enc l).set (i * k + j) u = flatG enc (l.set i x')
  | t :: r, 0, j, u, x', hi, hj, h => by
    simp only [List.getElem_cons_zero] at h
    rw [Nat.zero_mul, Nat.zero_add, show flatG enc (t :: r) = enc t ++ flatG enc r by simp [flatG], List.set_append_left _ _ (by rw [hk]; exact hj), h]
    simp [flatG]
  | t :: r, i + 1, j, u, x', hi, hj, h => by
    have ih := flatG_set hk r i j u x' (by simpa using hi) hj (by simpa using h)
    rw [show flatG enc (t :: r) = enc t ++ flatG enc r by simp [flatG], List.set_append_right _ _ (by rw [hk, Nat.add_mul]; omega), hk, show (i + 1) * k + j - k = i * k + j by rw [Nat.add_mul]; omega, ih]
    simp [flatG]
set_option maxRecDepth 100000 in
/-- one cell of an element, written anew -/
theorem Own.setAt {α : Type} {enc : α → List Value} {k : Nat} {e : TypeId} {w : World} {base g m c : Nat} {l : List α} (hk : ∀ x, (enc x).length = k) (h : Own enc k e w base (.slice (some ⟨g, 0, none⟩) m c) l) (i j : Nat) (u : Value) (x' : α) (hi : i < l.length) (hj : j < k) (hx : (enc l[i]).set j u = enc x') :
    Own enc k e (w.setCell ⟨g, i * k + j, none⟩ u) base (.slice (some ⟨g, 0, none⟩) m c) (l.set i x') := by
  refine ⟨by rw [flatG_length hk], ?_⟩
  rcases h.2 with ⟨h2, _⟩ | ⟨g2, cap, cur, hv, hb, hh, h1, h2, h3, h4⟩
  · cases h2
  · injection hv with e1 e2 e3
    injection e1 with e1
    injection e1 with e1
    subst e1 e2 e3
    refine .inr ⟨g, c, cur.set! (i * k + j) u, by simp, hb, ?_, by simpa using h1, h2, by simpa using h3, ?_⟩
    · simp [World.setCell, Array.getElem?_modify, hh]
    · rw [List.length_set, ← flatG_set hk l i j u x' hi hj hx, ← h4]
      simp [List.take_set]
theorem Own.stand {α : Type} {enc : α → List Value} {k : Nat} {e : TypeId} {w : World} {base g m c : Nat} {l : List α} (h : Own enc k e w base (.slice (some ⟨g, 0, none⟩) m c) l) (o : Nat) : w.frozen? ⟨g, o, none⟩ = false := by
  rcases h.2 with ⟨h2, _⟩ | ⟨g2, cap, cur, hv, hb, hh, h1, h2, h3, h4⟩
  · cases h2
  · injection hv with e1 e2 e3
    injection e1 with e1
    injection e1 with e1
    subst e1
    simp [World.frozen?, hh]
set_option maxRecDepth 100000 in
/-- bytes out of a text: a new row, which may be written into -/
theorem conv_row (w : World) (t : List UInt8) : ∃ c w', (convert 9 32 (.string (strB t))).run Try.prog w = .ok (.slice (some ⟨w.heap.size, 0, none⟩) t.length c) w' ∧ RdB w' (w.heap.size + 1) (.slice (some ⟨w.heap.size, 0, none⟩) t.length c) t ∧ Below w.heap.size w w' ∧ w'.heap.size = w.heap.size + 1 ∧ ∀ i, i < t.length → w'.frozen? ⟨w.heap.size, i, none⟩ = false := by
  have h := Lib.run_convert_string_bytes (P := Try.prog) w 9 32 5 (strB t) Try.underlying9 Try.underlying32 Try.underlying5
  have hsz : (strB t).size = t.length := by simp [strB, ByteArray.size]
  rw [hsz] at h
  have h2 := Lib.bytesWorld_size w 5 (strB t)
  refine ⟨_, _, h, ⟨_, _, rfl, grownCap_ge _ _ _ _, fun i hi => ⟨w.heap.size, 0, rfl, by omega, fun j u hu => ?_⟩⟩, ⟨rfl, ?_, rfl, by omega, fun j hj => Lib.bytesWorld_at_old w _ _ j hj⟩, h2, fun i hi => ?_⟩
  · match j, hu with
    | 0, hu =>
      simp only [byteEnc, List.getElem?_cons_zero, Option.some.injEq] at hu
      subst hu
      have := Lib.bytesWorld_cell w 5 (strB t) i (by rw [hsz]; exact hi)
      rw [Nat.zero_add, Nat.mul_one, Nat.add_zero, this]
      simp [strB, List.getD, hi]
    | j + 1, hu => simp [byteEnc] at hu
  · rfl
  · have h3 : t.length ≤ (Lib.bytesCells w 5 (strB t)).size := by simp [Lib.bytesCells, strB]
    simp [World.frozen?, Lib.bytesWorld_at_new]
    omega
set_option maxRecDepth 100000 in
theorem RdB.put {w : World} {B g c k : Nat} {l : List UInt8} (h : RdB w B (.slice (some ⟨g, 0, none⟩) l.length c) l) (hk : k < l.length) (x : UInt8) : RdB (w.setCell ⟨g, k, none⟩ (.int .u8 (x.toNat : Int))) B (.slice (some ⟨g, 0, none⟩) l.length c) (l.set k x) := by
  obtain ⟨A, c', e, hc, hi⟩ := h.at
  injection e with e1 e2 e3
  subst e1 e3
  refine ⟨_, c, by rw [List.length_set], by rw [List.length_set]; exact hc, fun i hs => ?_⟩
  rw [List.length_set] at hs
  obtain ⟨b, o, hA, hb, h1⟩ := hi i hs
  obtain ⟨rfl, rfl⟩ : b = g ∧ o = 0 := by injection hA with hA; injection hA with e1 e2 _; exact ⟨e1.symm, e2.symm⟩
  refine ⟨b, 0, rfl, hb, fun j u hu => ?_⟩
  match j, hu with
  | 0, hu =>
    simp only [byteEnc, List.getElem?_cons_zero, Option.some.injEq] at hu
    subst hu
    rw [Nat.zero_add, Nat.mul_one, Nat.add_zero]
    rw [Nat.zero_add] at h1
    by_cases hik : i = k
    · subst hik
      rw [World.cell?_setCell_same w ⟨b, i, none⟩ _ h1]
      simp
    · rw [World.cell?_setCell_other w ⟨b, k, none⟩ ⟨b, i, none⟩ _ (by simp [hik]), h1]
      rw [List.getElem_set_ne (by omega)]
  | j + 1, hu => simp [byteEnc] at hu
end Go.Proofs.Ytjkhdlmdgdcimaa

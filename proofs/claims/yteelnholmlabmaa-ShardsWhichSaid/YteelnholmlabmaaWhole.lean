/- Blocks that are known whole: a struct behind a pointer, a variable of the call's own, the row of a slice. -/
import Derived.Test.YteelnholmlabmaaGen
namespace Go.Proofs.Yteelnholmlabmaa
open Go.RowKit

/-- block g holds just these cells, of this type -/
def Whole (w : World) (g : Nat) (t : TypeId) (cs : List Value) : Prop := w.heap[g]? = some (.cells cs.toArray t (0, 0))
section
variable {w w' : World} {g : Nat} {t : TypeId} {cs : List Value}
theorem Whole.size (h : Whole w g t cs) : g < w.heap.size := by
  unfold Whole at h
  rcases Nat.lt_or_ge g w.heap.size with hl | hl
  · exact hl
  · rw [Array.getElem?_eq_none hl] at h; cases h
theorem Whole.cell (h : Whole w g t cs) (i : Nat) (v : Value) (hv : cs[i]? = some v) : w.cell? ⟨g, i, none⟩ = some v := by
  unfold Whole at h
  simp only [World.cell?, h, List.getElem?_toArray]
  exact hv
theorem Whole.frozen (h : Whole w g t cs) (i : Nat) : w.frozen? ⟨g, i, none⟩ = false := by
  unfold Whole at h
  simp [World.frozen?, h]
theorem Whole.fresh (w : World) (t : TypeId) (cs : List Value) : Whole (w.alloc (.cells cs.toArray t)) w.heap.size t cs := heap_alloc_new w _
theorem Whole.alloc (h : Whole w g t cs) (o : Obj) : Whole (w.alloc o) g t cs := (Below.heap_alloc w o g h.size).trans h
theorem Whole.put (h : Whole w g t cs) (i : Nat) (u : Value) : Whole (w.setCell ⟨g, i, none⟩ u) g t (cs.set i u) := by
  unfold Whole at h ⊢
  simp [World.setCell, Array.getElem?_modify, h]
theorem Whole.away (h : Whole w g t cs) {p : Addr} (hp : g ≠ p.block) (u : Value) : Whole (w.setCell p u) g t cs := (Below.heap_setCell w p u g hp).trans h
theorem Whole.below {B : Nat} (h : Whole w g t cs) (hb : Below B w w') (hg : g < B) : Whole w' g t cs := (hb.block g hg).trans h
theorem Whole.grown {row : Option Nat} (h : Whole w g t cs) (hg : w.grownBy w' row) (hr : some g ≠ row) : Whole w' g t cs := (hg.block g h.size hr).trans h
theorem Whole.drewN (h : Whole w g t cs) (n : Nat) : Whole (w.drewN n) g t cs := h
theorem Whole.drew (h : Whole w g t cs) : Whole w.drew g t cs := h
/-- blocks of unlike types are not one -/
theorem Whole.apart {t' : TypeId} {cs' : List Value} {g' : Nat} (h : Whole w g t cs) (h' : Whole w g' t' cs') (hne : t ≠ t') : g ≠ g' := by
  rintro rfl
  unfold Whole at h h'
  rw [h] at h'
  injection h' with h'
  injection h' with _ ht
  exact hne ht
theorem Whole.shape (h : Whole w g t cs) : w.shape? g = some (t, cs.length) := by
  unfold Whole at h
  simp [World.shape?, h]
end
/-- a slice of the call's own and a block of another type are not one -/
theorem Own.apart {α : Type} {enc : α → List Value} {k : Nat} {e t : TypeId} {w : World} {base g : Nat} {v : Value} {l : List α} {cs : List Value} (h : Own enc k e w base v l) (hg : Whole w g t cs) (hne : e ≠ t) : some g ≠ v.ownBlock := by
  rcases h.2 with ⟨rfl, _⟩ | ⟨g', cap, cur, rfl, _, hh, _⟩
  · simp [Value.ownBlock]
  · intro he
    have : g = g' := by simpa [Value.ownBlock] using he
    subst this
    unfold Whole at hg
    rw [hg] at hh
    injection hh with hh
    injection hh with _ ht
    exact hne ht.symm
/-- a store into such a block leaves what the slice holds -/
theorem Own.put {α : Type} {enc : α → List Value} {k : Nat} {e t : TypeId} {w : World} {base g : Nat} {v : Value} {l : List α} {cs : List Value} (h : Own enc k e w base v l) (hg : Whole w g t cs) (hne : e ≠ t) (i : Nat) (u : Value) : Own enc k e (w.setCell ⟨g, i, none⟩ u) base v l := by
  refine ⟨h.1, ?_⟩
  rcases h.2 with h2 | ⟨g', cap, cur, hv, hb, hh, r⟩
  · exact .inl h2
  · refine .inr ⟨g', cap, cur, hv, hb, ?_, r⟩
    have hd : g' ≠ g := by
      rintro rfl
      unfold Whole at hg
      rw [hg] at hh
      injection hh with hh
      injection hh with _ ht
      exact hne ht.symm
    exact (Below.heap_setCell w ⟨g, i, none⟩ u g' hd).trans hh
/-- the row of a slice of the call's own, whole -/
theorem Own.row {α : Type} {enc : α → List Value} {k : Nat} {e : TypeId} {w : World} {base : Nat} {v : Value} {l : List α} (h : Own enc k e w base v l) :
    (v = .slice none 0 0 ∧ l = []) ∨ ∃ g cap cur, v = .slice (some ⟨g, 0, none⟩) l.length cap ∧ base ≤ g ∧ Whole w g e cur ∧ l.length ≤ cap ∧ cap ≤ maxLen ∧ cur.length = cap * k ∧ cur.take (l.length * k) = flatG enc l := by
  rcases h.2 with ⟨hv, h0⟩ | ⟨g, cap, cur, hv, hb, hh, h1, h2, h3, h4⟩
  · exact .inl ⟨hv, List.eq_nil_of_length_eq_zero h0⟩
  · exact .inr ⟨g, cap, cur.toList, hv, hb, by unfold Whole; simpa using hh, h1, h2, by simpa using h3, h4⟩
theorem Own.ofRow {α : Type} {enc : α → List Value} {k : Nat} {e : TypeId} (hk : ∀ x, (enc x).length = k) {w : World} {base g cap : Nat} {cur : List Value} (l : List α) (hb : base ≤ g) (hg : Whole w g e cur) (h1 : l.length ≤ cap) (h2 : cap ≤ maxLen)
    (h3 : cur.length = cap * k) (h4 : cur.take (l.length * k) = flatG enc l) : Own enc k e w base (.slice (some ⟨g, 0, none⟩) l.length cap) l :=
  ⟨flatG_length hk l, .inr ⟨g, cap, cur.toArray, rfl, hb, hg, h1, h2, by simpa using h3, by simpa using h4⟩⟩
end Go.Proofs.Yteelnholmlabmaa

/- Blocks that are known whole: a struct behind a pointer, a variable of the call's own. Appends that say what else they leave. -/
import Derived.Test.YtjkhdlmdgdcimaaStr
namespace Go.Proofs.Ytjkhdlmdgdcimaa
open Go.RowKit

/-- block g holds just these cells, of this type -/
def Whole (w : World) (g : Nat) (t : TypeId) (cs : List Value) : Prop := w.heap[g]? = some (.cells cs.toArray t (0, 0))
section
variable {w w' : World} {g : Nat} {t : TypeId} {cs : List Value}
set_option maxRecDepth 100000 in
theorem Whole.size (h : Whole w g t cs) : g < w.heap.size := by
  unfold Whole at h
  rcases Nat.lt_or_ge g w.heap.size with hl | hl
  · exact hl
  · rw [Array.getElem?_eq_none hl] at h; cases h
set_option maxRecDepth 100000 in
theorem Whole.cell (h : Whole w g t cs) (i : Nat) (v : Value) (hv : cs[i]? = some v) : w.cell? ⟨g, i, none⟩ = some v := by
  unfold Whole at h
  simp only [World.cell?, h, List.getElem?_toArray]
  exact hv
set_option maxRecDepth 100000 in
theorem Whole.frozen (h : Whole w g t cs) (i : Nat) : w.frozen? ⟨g, i, none⟩ = false := by
  unfold Whole at h
  simp [World.frozen?, h]
set_option maxRecDepth 100000 in
theorem Whole.fresh (w : World) (t : TypeId) (cs : List Value) : Whole (w.alloc (.cells cs.toArray t)) w.heap.size t cs := heap_alloc_new w _
set_option maxRecDepth 100000 in
theorem Whole.alloc (h : Whole w g t cs) (o : Obj) : Whole (w.alloc o) g t cs := (Below.heap_alloc w o g h.size).trans h
set_option maxRecDepth 100000 in
theorem Whole.put (h : Whole w g t cs) (i : Nat) (u : Value) : Whole (w.setCell ⟨g, i, none⟩ u) g t (cs.set i u) := by
  unfold Whole at h ⊢
  simp [World.setCell, Array.getElem?_modify, h]
set_option maxRecDepth 100000 in
theorem Whole.away (h : Whole w g t cs) {p : Addr} (hp : g ≠ p.block) (u : Value) : Whole (w.setCell p u) g t cs := (Below.heap_setCell w p u g hp).trans h
set_option maxRecDepth 100000 in
theorem Whole.below {B : Nat} (h : Whole w g t cs) (hb : Below B w w') (hg : g < B) : Whole w' g t cs := (hb.block g hg).trans h
set_option maxRecDepth 100000 in
theorem Whole.grown {row : Option Nat} (h : Whole w g t cs) (hg : w.grownBy w' row) (hr : some g ≠ row) : Whole w' g t cs := (hg.block g h.size hr).trans h
set_option maxRecDepth 100000 in
theorem Whole.drewN (h : Whole w g t cs) (n : Nat) : Whole (w.drewN n) g t cs := h
set_option maxRecDepth 100000 in
theorem Whole.drew (h : Whole w g t cs) : Whole w.drew g t cs := h
set_option maxRecDepth 100000 in
/-- blocks of unlike types are not one -/
theorem Whole.apart {t' : TypeId} {cs' : List Value} {g' : Nat} (h : Whole w g t cs) (h' : Whole w g' t' cs') (hne : t ≠ t') : g ≠ g' := by
  rintro rfl
  unfold Whole at h h'
  rw [h] at h'
  injection h' with h'
  injection h' with _ ht
  exact hne ht
end
set_option maxRecDepth 100000 in
/-- a slice of the call's own and a block of another type are not one -/
theorem Own.apart {α : Type} {enc : α → List Value} {k : Nat} {e t : TypeId} {w : World} {base g : Nat} {v : Value} {l : List α} {cs : List Value} (h : Own enc k e w base v l) (hg : Whole w g t cs) (hne : e ≠ t) : some g ≠ v.ownBlock := by
  rcases h.2 with ⟨rfl, _⟩ | ⟨g', cap, cur, rfl, _, hh, _⟩
  · simp [Value.ownBlock]
  · intro he
    have : g = g' := by simpa [Value.ownBlock] using he
    subst this
    unfold Whole at hg
    rw [hg] at hh
    injection hh with hh
    injection hh with _ ht
    exact hne ht.symm
set_option maxRecDepth 100000 in
/-- a store into such a block leaves what the slice holds -/
theorem Own.put {α : Type} {enc : α → List Value} {k : Nat} {e t : TypeId} {w : World} {base g : Nat} {v : Value} {l : List α} {cs : List Value} (h : Own enc k e w base v l) (hg : Whole w g t cs) (hne : e ≠ t) (i : Nat) (u : Value) : Own enc k e (w.setCell ⟨g, i, none⟩ u) base v l := by
  refine ⟨h.1, ?_⟩
  rcases h.2 with h2 | ⟨g', cap, cur, hv, hb, hh, r⟩
  · exact .inl h2
  · refine .inr ⟨g', cap, cur, hv, hb, ?_, r⟩
    have hd : g' ≠ g := by
      rintro rfl
      unfold Whole at hg
      rw [hg] at hh
      injection hh with hh
      injection hh with _ ht
      exact hne ht.symm
    exact (Below.heap_setCell w ⟨g, i, none⟩ u g' hd).trans hh

section
variable {ops : Array Oper} {rest : List Oper} {o : Oper} {a : Act} {Q : Exit → Act → World → Prop} {w : World}
set_option maxRecDepth 100000 in
/-- bytes appended; what grew is told -/
theorem wpList_addBG (hgd : Region.wanted o (yielded ops a.tmps) = true) (s x : Operand)
    (ho : o.op = .call { callee := .builtin .append, args := #[s, x], argTypes := #[32, 32] })
    (base : Nat) (v : Value) (l : List UInt8) (hs : a.eval s = v) (hown : OwnB w base v l) (B : Nat) (v2 : Value) (p : List UInt8) (hx : a.eval x = v2) (hp : RdB w B v2 p)
    (hlen : l.length + p.length ≤ 225179981368000) (hbase : base ≤ w.heap.size)
    (h : ∀ A' c' w', Hid (OwnB w' base (.slice A' (l ++ p).length c') (l ++ p)) → Hid (w.grownBy w' v.ownBlock) → wpList Try.prog ops Q rest (a.put o.dst (.slice A' (l ++ p).length c')) w') : wpList Try.prog ops Q (o :: rest) a w := by
  obtain ⟨i0, hi, hz0, hz1, hz2⟩ := info_parts info_u8
  refine BigFrame.wpList_want hgd fun K hK => ?_
  refine wp_addAny (enc := byteEnc) (k := 1) 32 5 1 i0 _ Try.underlying32 hi hz0 hz1 hz2 rfl (by decide) byteEnc_len byteEnc_one s x ho base v l hs hown B v2 p hx hp (by unfold maxLen; omega) (by omega) hbase fun A' c' w' h1 h2 => ?_
  exact hK _ _ (h A' c' w' (Lib.hid h1) (Lib.hid h2))
set_option maxRecDepth 100000 in
/-- a text's bytes appended; what grew is told -/
theorem wpList_addStrG (hw : Region.wanted o (yielded ops a.tmps) = true) (sl x : Operand)
    (ho : o.op = .call { callee := .builtin .append, args := #[sl, x], argTypes := #[32, 9] })
    (base : Nat) (v : Value) (l : List UInt8) (hs : a.eval sl = v) (hown : OwnB w base v l) (s : ByteArray) (hx : a.eval x = .string s)
    (hlen : l.length + s.size ≤ 225179981368000) (hs47 : s.size ≤ 140737488355328) (hbase : base ≤ w.heap.size)
    (h : ∀ A' c' w', Hid (OwnB w' base (.slice A' (l ++ s.data.toList).length c') (l ++ s.data.toList)) → Hid (w.grownBy w' v.ownBlock) → wpList Try.prog ops Q rest (a.put o.dst (.slice A' (l ++ s.data.toList).length c')) w') : wpList Try.prog ops Q (o :: rest) a w := by
  refine BigFrame.wpList_want hw fun K hK => ?_
  obtain ⟨v', w', hr, h2, h3⟩ := run_append_str w base o.type v l hown s hlen hs47 hbase
  have hv : ∃ A' c', v' = .slice A' (l ++ s.data.toList).length c' := by
    rcases h2.form with ⟨hv, h0⟩ | ⟨g, cap, hv, _⟩
    · exact ⟨none, 0, by rw [h0]; exact hv⟩
    · exact ⟨_, _, hv⟩
  obtain ⟨A', c', rfl⟩ := hv
  unfold Oper.wp execOp
  simp only [ho, resolve, invoke, builtin, Sem.run_bind, Sem.run_pure, Result.andThen_ok, List.map_toArray, List.map_cons, List.map_nil, hs, hx, hr]
  exact hK _ _ (h A' c' w' (Lib.hid h2) (Lib.hid h3))
end
end Go.Proofs.Ytjkhdlmdgdcimaa

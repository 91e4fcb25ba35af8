/- A text's bytes appended to a slice of the call's own. -/
import Derived.Test.YtjkhdlmdgdcimaaByte
import Derived.Lib.AppendStr
namespace Go.Proofs.Ytjkhdlmdgdcimaa
open Go.RowKit

set_option maxRecDepth 100000 in
theorem strCells_bytes (s : ByteArray) : Lib.strCells s = cellsB s.data.toList := rfl
set_option maxRecDepth 100000 in
theorem data_len (s : ByteArray) : s.data.toList.length = s.size := by simp

set_option maxRecDepth 100000 in
theorem run_append_str (w : World) (base : Nat) (ty : TypeId) (v : Value) (l : List UInt8) (ho : OwnB w base v l) (s : ByteArray) (hlen : l.length + s.size ≤ 225179981368000) (hs : s.size ≤ 140737488355328) (hb : base ≤ w.heap.size) :
    ∃ v' w', (Builtin.append_ #[32, 9] ty #[v, .string s]).run Try.prog w = .ok v' w' ∧ OwnB w' base v' (l ++ s.data.toList) ∧ w.grownBy w' v.ownBlock := by
  obtain ⟨i0, hi, hz0, hz1, hz2⟩ := info_parts info_u8
  have small : l.length + s.size ≤ 140737488355328 → ∃ v' w', (Builtin.append_ #[32, 9] ty #[v, .string s]).run Try.prog w = .ok v' w' ∧ OwnB w' base v' (l ++ s.data.toList) ∧ w.grownBy w' v.ownBlock := fun hle => by
    obtain ⟨v', w', h1, h2, h3, _⟩ := Lib.run_append_own_string (P := Try.prog) w base 32 9 ty 5 i0 Try.underlying32 Try.underlying9 hi hz0 hz1 hz2 v l.length _ ho s (by unfold maxLen; omega) hle hb
    refine ⟨v', w', h1, ?_, h3⟩
    show w'.ownsRow base _ 1 v' _ _
    rw [List.length_append, data_len, flat_cellsB, cellsB_append, ← strCells_bytes, ← flat_cellsB]
    exact h2
  by_cases hle : l.length + s.size ≤ 140737488355328
  · exact small hle
  rcases ho.form with ⟨_, h0⟩ | ⟨g, cap, rfl, hbg, hglt, hnc⟩
  · rw [h0] at hle; simp at hle; omega
  have hfl : flatG byteEnc (l ++ s.data.toList) = cellsB l ++ Lib.strCells s := by rw [flat_cellsB, cellsB_append, strCells_bytes]
  have hll : (l ++ s.data.toList).length = l.length + s.size := by rw [List.length_append, data_len]
  have hcl := cellsB_len l
  have hsl := Lib.strCells_length s
  rcases ho.2 with ⟨h', _⟩ | ⟨g', cap', cur, h', _, hg, _, hcm, hcs, htake⟩
  · simp at h'
  simp only [Value.slice.injEq, Option.some.injEq, Addr.mk.injEq, and_true, true_and] at h'
  obtain ⟨rfl, rfl⟩ := h'
  rw [flat_cellsB, Nat.mul_one] at htake
  rw [Nat.mul_one] at hcs
  by_cases hroom : l.length + s.size ≤ cap
  · have hr := Lib.run_append_room_string (P := Try.prog) w 32 9 ty 5 i0 Try.underlying32 Try.underlying9 hi hz1 g l.length cap cur hg s hroom (by omega)
    refine ⟨_, _, hr, ⟨by rw [hfl, List.length_append, hcl, hsl, hll, Nat.mul_one], .inr ⟨g, cap, _, by rw [hll], hbg, setRow_heap w g cur _ _ _ hg, by rw [hll]; exact hroom, hcm, ?_, ?_⟩⟩, ⟨rfl, rfl, rfl, by simp, fun k _ hk => setRow_other w g k _ (fun e => hk (by simp [Value.ownBlock, e]))⟩⟩
    · simp only [List.size_toArray, List.length_append, List.length_take, List.length_drop, Array.length_toList, hsl]
      omega
    · rw [htake, hfl, hll, Nat.mul_one]
      exact List.take_left' (by rw [List.length_append, hcl, hsl])
  · have hold : ∀ j u, (cellsB l)[j]? = some u → w.cell? ((⟨g, 0, none⟩ : Addr).add j) = some u := by
      have := World.ownsRow.cells ho (g := g) rfl
      rwa [flat_cellsB] at this
    have hr := Lib.run_append_grow_string (P := Try.prog) w 32 9 ty 5 i0 _ Try.underlying32 Try.underlying9 hi hz0 ⟨g, 0, none⟩ l.length cap (cellsB l) (by rw [hz1, hcl, Nat.mul_one]) hold s (by omega) (by omega) (growslice_fits_wide (by omega) (by rw [hz2]; omega))
    have hge := grownCap_ge w (l.length + s.size) cap 5
    have hgm := grownCap_le_maxLen w (l.length + s.size) cap 5 (by unfold maxLen; omega)
    refine ⟨_, _, hr, ⟨by rw [hfl, List.length_append, hcl, hsl, hll, Nat.mul_one], .inr ⟨w.heap.size, _, _, by rw [hll], hb, heap_alloc_new w.drew _, by rw [hll]; exact hge, hgm, ?_, ?_⟩⟩, ⟨rfl, rfl, rfl, by simp, fun k hk _ => heap_alloc_old w.drew _ hk⟩⟩
    · have hz : (Value.int IntKind.u8 0).cells.size = 1 := rfl
      simp only [Array.size_append, List.size_toArray, size_zeroCells, hz, hcl, hsl]
      omega
    · rw [hfl, hll, Nat.mul_one]
      simp only [Array.toList_append]
      exact List.take_left' (by rw [List.length_append, hcl, hsl])

set_option maxRecDepth 100000 in
theorem wpList_addStr {ops : Array Oper} {rest : List Oper} {o : Oper} {a : Act} {Q : Exit → Act → World → Prop} {w : World} (hw : Region.wanted o (yielded ops a.tmps) = true) (sl x : Operand)
    (ho : o.op = .call { callee := .builtin .append, args := #[sl, x], argTypes := #[32, 9] })
    (base : Nat) (v : Value) (l : List UInt8) (hs : a.eval sl = v) (hown : OwnB w base v l) (s : ByteArray) (hx : a.eval x = .string s)
    (hlen : l.length + s.size ≤ 225179981368000) (hs47 : s.size ≤ 140737488355328) (hbase : base ≤ w.heap.size) (C : Nat) (w0 : World) (hb : Below C w0 w) (hC : C ≤ base)
    (h : ∀ A' c' w', Hid (OwnB w' base (.slice A' (l ++ s.data.toList).length c') (l ++ s.data.toList)) → Hid (Below C w0 w') → Hid (base ≤ w'.heap.size) → wpList Try.prog ops Q rest (a.put o.dst (.slice A' (l ++ s.data.toList).length c')) w') : wpList Try.prog ops Q (o :: rest) a w := by
  refine BigFrame.wpList_want hw fun K hK => ?_
  obtain ⟨v', w', hr, h2, h3⟩ := run_append_str w base o.type v l hown s hlen hs47 hbase
  have hv : ∃ A' c', v' = .slice A' (l ++ s.data.toList).length c' := by
    rcases h2.form with ⟨hv, h0⟩ | ⟨g, cap, hv, _⟩
    · exact ⟨none, 0, by rw [h0]; exact hv⟩
    · exact ⟨_, _, hv⟩
  obtain ⟨A', c', rfl⟩ := hv
  unfold Oper.wp execOp
  simp only [ho, resolve, invoke, builtin, Sem.run_bind, Sem.run_pure, Result.andThen_ok, List.map_toArray, List.map_cons, List.map_nil, hs, hx, hr]
  exact hK _ _ (h A' c' w' (Lib.hid h2) (Lib.hid (hown.grown hb h3 hC (Nat.le_trans hC hbase))) (Lib.hid (Nat.le_trans hbase h3.size)))
end Go.Proofs.Ytjkhdlmdgdcimaa

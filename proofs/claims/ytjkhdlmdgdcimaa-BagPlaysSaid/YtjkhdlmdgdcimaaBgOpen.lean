/- Arguments of the bag laws as data: acts, rows of bytes. -/
import Derived.Test.YtjkhdlmdgdcimaaOpenG
import Derived.Test.YtjkhdlmdgdcimaaBgActs
namespace Go.Proofs.Ytjkhdlmdgdcimaa
open Go.ChangeShapes Go.WideShapes Go.ChangeAt Go.RowKit Go.Joins Go.Deep

def RowOk {H : Type} (W : World) (r : Row) (d : DataW H) : Prop := RdB W W.heap.size r.v r.l ∧ SizedB d r.l
def GActOk {H : Type} (W : World) (a : GAct) (d : DataW H) : Prop := RdB W W.heap.size a.v a.l ∧ ∃ y0 y1 y2 d3 y4, d = .agg [y0, y1, y2, d3, y4] ∧ SizedB d3 a.l
section
variable {H : Type} {enc : TypeId × Value → H} {W : World}
set_option maxRecDepth 100000 in
theorem row_of_cells {fuel : Nat} {cs : List Value} {x : DataW H × List MemPlace} (h : DataW.trod enc Try.prog W 0 (fun _ => true) true fuel 32 cs = some x) : ∃ r : Row, cs = encR r ∧ RowOk W r x.1 := by
  have hs : ∃ v, cs = [v] ∧ ∃ a len cap, v = Value.slice a len cap := by
    rcases open_slice Try.underlying32 h with ⟨hcs, _⟩ | ⟨a, len, cap, _, _, _, _, hcs, _⟩
    · exact ⟨_, hcs, none, 0, 0, rfl⟩
    · exact ⟨_, hcs, some a, len, cap, rfl⟩
  obtain ⟨v, rfl, hv⟩ := hs
  obtain ⟨hs2, ht⟩ := slice_of Try.underlying32 h
  obtain ⟨l, hr, hz⟩ := open_bytesF hv ht
  obtain ⟨A, c, rfl, _, _⟩ := hr.at
  exact ⟨⟨A, c, l⟩, rfl, hr, hz⟩
set_option maxRecDepth 100000 in
theorem rows_of_slice {v : Value} {d : DataW H} {p : List MemPlace} (hv : ∃ a len cap, v = .slice a len cap) (h : DataW.Trod enc Try.prog W 0 (fun _ => true) true 46 v d p) : ∃ (A : Option Addr) (c : Nat) (rows : List Row), v = .slice A rows.length c ∧ Rd encR 1 W W.heap.size v rows ∧ SizedL (RowOk W) d rows := by
  haveI : Inhabited Row := ⟨⟨none, 0, []⟩⟩
  obtain ⟨l, hr, hz⟩ := open_rowsF (e2 := encR) (k := 1) (by decide) (fun _ => rfl) Try.underlying46 (by kernel_rfl) (RowOk W) (fun _ _ _ h => row_of_cells h) hv h
  obtain ⟨A, c, e, _, _⟩ := id hr
  exact ⟨A, c, l, e, hr, hz⟩
set_option maxRecDepth 100000 in
theorem gact_of_cells {fuel : Nat} {cs : List Value} {x : DataW H × List MemPlace} (h : DataW.trod enc Try.prog W 0 (fun _ => true) true fuel 34 cs = some x) : ∃ a : GAct, cs = encGA a ∧ GActOk W a x.1 := by
  obtain ⟨xs, n, _, hx, hl, hlen, hff⟩ := DataW.trod_struct Try.underlying34 h
  rw [show Try.prog.cellsOf 34 = 5 by kernel_rfl] at hl
  match cs, hl, xs, hlen, hff, hx with
  | [c0, c1, c2, c3, c4], _, [y0, y1, y2, y3, y4], _, hff, hx =>
    have k3 : Try.prog.cellsOf 3 = 1 := by kernel_rfl
    have k5 : Try.prog.cellsOf 5 = 1 := by kernel_rfl
    have k31 : Try.prog.cellsOf 32 = 1 := by kernel_rfl
    have g0 := hff 0 _ rfl
    have g1 := hff 1 _ rfl
    have g2 := hff 2 _ rfl
    have g3 := hff 3 _ rfl
    have g4 := hff 4 _ rfl
    simp [k3, k5, k31] at g0 g1 g2 g3 g4
    obtain ⟨i0, e0, _, w0⟩ := DataW.trod_int Try.underlying3 g0
    obtain ⟨i1, e1, _, w1⟩ := DataW.trod_int Try.underlying3 g1
    obtain ⟨i2, e2, _, w2⟩ := DataW.trod_int Try.underlying3 g2
    obtain ⟨i4, e4, _, w4⟩ := DataW.trod_int Try.underlying5 g4
    obtain ⟨n4, rfl, hn4⟩ := nat_of_wfu8 w4
    obtain ⟨hv, ht⟩ := slice_of Try.underlying32 g3
    obtain ⟨l, hr, hz⟩ := open_bytesF hv ht
    simp at e0 e1 e2 e4
    refine ⟨⟨i0, i1, i2, c3, l, UInt8.ofNat n4⟩, ?_, hr, y0.1, y1.1, y2.1, y3.1, y4.1, by rw [hx]; rfl, hz⟩
    rw [e0, e1, e2, e4]
    simp [encGA]
    omega
end
/-- rows that came in -/
theorem RdRs.in {w : World} {v : Value} {rows : List Row} (h : Rd encR 1 w w.heap.size v rows) (hr : ∀ r ∈ rows, RdB w w.heap.size r.v r.l) : RdRs w w.heap.size (fun _ => False) v rows := by
  obtain ⟨A, c, rfl, hc, hi⟩ := h
  refine ⟨⟨A, c, rfl, hc, fun i hs => ?_⟩, fun r hx => RdBG.of (hr r hx) (fun _ _ h => h)⟩
  obtain ⟨b, o, hA, hb, h1⟩ := hi i hs
  exact ⟨b, o, hA, hb, fun h => h, by have := h1 0 _ rfl; simpa using this⟩
set_option maxRecDepth 100000 in
theorem open_acts {H : Type} {enc : TypeId × Value → H} {W : World} {base : Nat} {v : Value} {d : DataW H} {p : List MemPlace} (hv : Value.okWide Try.prog W .any base 22 v) (h : DataW.Trod enc Try.prog W 0 (fun _ => true) true 22 v d p) (hw : ∀ n ∈ d.weights Try.prog 22, n ≤ reachBytes) :
    ∃ l : List GAct, Rd encGA 5 W W.heap.size v l ∧ l.length ≤ 140737488351232 ∧ ∀ a ∈ l, RdB W W.heap.size a.v a.l ∧ a.l.length ≤ 140737488351232 := by
  haveI : Inhabited GAct := ⟨⟨0, 0, 0, .slice none 0 0, [], 0⟩⟩
  obtain ⟨l, hr, hz⟩ := open_rowsF (e2 := encGA) (k := 5) (by decide) (fun _ => rfl) Try.underlying22 (by kernel_rfl) (GActOk W) (fun _ _ _ h => gact_of_cells h) (by obtain ⟨a, len, cap, rfl⟩ := okWide_slice Try.underlying22 hv; exact ⟨a, len, cap, rfl⟩) h
  refine ⟨l, hr, ?_⟩
  rcases hz with ⟨_, rfl⟩ | ⟨el, sp, rfl, he, hall⟩
  · simp
  · have h1 := slice_len Try.underlying22 hw
    rw [show Try.prog.bytesOf 34 = 56 by kernel_rfl] at h1
    refine ⟨by omega, fun s hs => ?_⟩
    obtain ⟨i, hi, rfl⟩ := List.getElem_of_mem hs
    obtain ⟨d', h2, h3, y0, y1, y2, d3, y4, rfl, h5⟩ := hall i hi
    exact ⟨h3, h5.len fun n hn => hw n (weights_el Try.underlying22 h2 (by simp only [DataW.weights, Try.underlying34, List.map_cons, List.map_nil, DataW.weightsEach, List.mem_append]; simp only [hn, true_or, or_true]))⟩
set_option maxRecDepth 100000 in
theorem open_rows {H : Type} {enc : TypeId × Value → H} {W : World} {base : Nat} {v : Value} {d : DataW H} {p : List MemPlace} (hv : Value.okWide Try.prog W .any base 46 v) (h : DataW.Trod enc Try.prog W 0 (fun _ => true) true 46 v d p) (hw : ∀ n ∈ d.weights Try.prog 46, n ≤ reachBytes) :
    ∃ rows : List Row, RdRs W W.heap.size (fun _ => False) v rows ∧ rows.length ≤ 140737488351232 ∧ ∀ r ∈ rows, r.l.length ≤ 140737488351232 := by
  obtain ⟨A, c, rows, rfl, hr, hz⟩ := rows_of_slice (by obtain ⟨a, len, cap, rfl⟩ := okWide_slice Try.underlying46 hv; exact ⟨a, len, cap, rfl⟩) h
  rcases hz with ⟨_, h6⟩ | ⟨el2, sp2, rfl, he2, hall2⟩
  · subst h6
    exact ⟨[], RdRs.in hr (fun r hr => by simp at hr), by simp, fun r hr => by simp at hr⟩
  · have h7 := slice_len Try.underlying46 hw
    rw [show Try.prog.bytesOf 32 = 24 by kernel_rfl] at h7
    have hrow : ∀ r ∈ rows, RdB W W.heap.size r.v r.l ∧ r.l.length ≤ 140737488351232 := fun r hr => by
      obtain ⟨j, hj, rfl⟩ := List.getElem_of_mem hr
      obtain ⟨d9, k1, k2, k3⟩ := hall2 j hj
      exact ⟨k2, k3.len fun n hn => hw n (weights_el Try.underlying46 k1 hn)⟩
    exact ⟨rows, RdRs.in hr (fun r hr => (hrow r hr).1), by omega, fun r hr => (hrow r hr).2⟩
end Go.Proofs.Ytjkhdlmdgdcimaa

/- Arguments of the book laws as data: acts with rows of bytes. -/
import Derived.Test.YtaenlkopjmgniaaOpenG
import Derived.Test.YtaenlkopjmgniaaActs
namespace Go.Proofs.Ytaenlkopjmgniaa
open Go.ChangeShapes Go.WideShapes Go.ChangeAt Go.RowKit Go.Joins Go.Deep

def RowOk {H : Type} (W : World) (r : Row) (d : DataW H) : Prop := RdB W W.heap.size r.v r.l ∧ SizedB d r.l
def BActOk {H : Type} (W : World) (a : BAct) (d : DataW H) : Prop := Rd encR 1 W W.heap.size (.slice a.a a.rows.length a.c) a.rows ∧ a.n < 9223372036854775808 ∧ ∃ y0 y1 d2 y3, d = .agg [y0, y1, d2, y3] ∧ SizedL (RowOk W) d2 a.rows
section
variable {H : Type} {enc : TypeId × Value → H} {W : World}
set_option maxRecDepth 100000 in
theorem row_of_cells {fuel : Nat} {cs : List Value} {x : DataW H × List MemPlace} (h : DataW.trod enc Try.prog W 0 (fun _ => true) true fuel 36 cs = some x) : ∃ r : Row, cs = encR r ∧ RowOk W r x.1 := by
  have hs : ∃ v, cs = [v] ∧ ∃ a len cap, v = Value.slice a len cap := by
    rcases open_slice Try.underlying36 h with ⟨hcs, _⟩ | ⟨a, len, cap, _, _, _, _, hcs, _⟩
    · exact ⟨_, hcs, none, 0, 0, rfl⟩
    · exact ⟨_, hcs, some a, len, cap, rfl⟩
  obtain ⟨v, rfl, hv⟩ := hs
  obtain ⟨hs2, ht⟩ := slice_of Try.underlying36 h
  obtain ⟨l, hr, hz⟩ := open_bytesF hv ht
  obtain ⟨A, c, rfl, _, _⟩ := hr.at
  exact ⟨⟨A, c, l⟩, rfl, hr, hz⟩
set_option maxRecDepth 100000 in
theorem rows_of_slice {v : Value} {d : DataW H} {p : List MemPlace} (hv : ∃ a len cap, v = .slice a len cap) (h : DataW.Trod enc Try.prog W 0 (fun _ => true) true 31 v d p) : ∃ (A : Option Addr) (c : Nat) (rows : List Row), v = .slice A rows.length c ∧ Rd encR 1 W W.heap.size v rows ∧ SizedL (RowOk W) d rows := by
  haveI : Inhabited Row := ⟨⟨none, 0, []⟩⟩
  obtain ⟨l, hr, hz⟩ := open_rowsF (e2 := encR) (k := 1) (by decide) (fun _ => rfl) Try.underlying31 (by kernel_rfl) (RowOk W) (fun _ _ _ h => row_of_cells h) hv h
  obtain ⟨A, c, e, _, _⟩ := id hr
  exact ⟨A, c, l, e, hr, hz⟩
set_option maxRecDepth 100000 in
theorem bact_of_cells {fuel : Nat} {cs : List Value} {x : DataW H × List MemPlace} (h : DataW.trod enc Try.prog W 0 (fun _ => true) true fuel 33 cs = some x) : ∃ a : BAct, cs = encBA a ∧ BActOk W a x.1 := by
  obtain ⟨xs, n, _, hx, hl, hlen, hff⟩ := DataW.trod_struct Try.underlying33 h
  rw [show Try.prog.cellsOf 33 = 4 by kernel_rfl] at hl
  match cs, hl, xs, hlen, hff, hx with
  | [c0, c1, c2, c3], _, [y0, y1, y2, y3], _, hff, hx =>
    have k3 : Try.prog.cellsOf 3 = 1 := by kernel_rfl
    have k5 : Try.prog.cellsOf 5 = 1 := by kernel_rfl
    have k31 : Try.prog.cellsOf 31 = 1 := by kernel_rfl
    have g0 := hff 0 _ rfl
    have g1 := hff 1 _ rfl
    have g2 := hff 2 _ rfl
    have g3 := hff 3 _ rfl
    simp [k3, k5, k31] at g0 g1 g2 g3
    obtain ⟨i0, e0, _, w0⟩ := DataW.trod_int Try.underlying3 g0
    obtain ⟨i1, e1, _, w1⟩ := DataW.trod_int Try.underlying3 g1
    obtain ⟨i3, e3, _, w3⟩ := DataW.trod_int Try.underlying5 g3
    obtain ⟨n3, rfl, hn3⟩ := nat_of_wfu8 w3
    obtain ⟨hv, ht⟩ := slice_of Try.underlying31 g2
    obtain ⟨A, c, rows, rfl, hr, hz⟩ := rows_of_slice hv ht
    simp at e0 e1 e3
    refine ⟨⟨i0, i1, A, c, rows, UInt8.ofNat n3⟩, ?_, hr, (int_of_wf w1).2, y0.1, y1.1, y2.1, y3.1, by rw [hx]; rfl, hz⟩
    rw [e0, e1, e3]
    simp [encBA]
    omega
end
/-- rows that came in -/
theorem RdRs.in {w : World} {v : Value} {rows : List Row} (h : Rd encR 1 w w.heap.size v rows) (hr : ∀ r ∈ rows, RdB w w.heap.size r.v r.l) : RdRs w w.heap.size (fun _ => False) v rows := by
  obtain ⟨A, c, rfl, hc, hi⟩ := h
  refine ⟨⟨A, c, rfl, hc, fun i hs => ?_⟩, fun r hx => RdBG.of (hr r hx) (fun _ _ h => h)⟩
  obtain ⟨b, o, hA, hb, h1⟩ := hi i hs
  exact ⟨b, o, hA, hb, fun h => h, by have := h1 0 _ rfl; simpa using this⟩
set_option maxRecDepth 100000 in
theorem open_acts {H : Type} {enc : TypeId × Value → H} {W : World} {base : Nat} {v : Value} {d : DataW H} {p : List MemPlace} (hv : Value.okWide Try.prog W .any base 22 v) (h : DataW.Trod enc Try.prog W 0 (fun _ => true) true 22 v d p) (hw : ∀ n ∈ d.weights Try.prog 22, n ≤ reachBytes) :
    ∃ l : List BAct, Rd encBA 4 W W.heap.size v l ∧ l.length ≤ 140737488351232 ∧ ∀ a ∈ l, RdRs W W.heap.size (fun _ => False) (.slice a.a a.rows.length a.c) a.rows ∧ a.rows.length ≤ 140737488351232 ∧ (∀ r ∈ a.rows, r.l.length ≤ 140737488351232) ∧ a.n < 9223372036854775808 := by
  haveI : Inhabited BAct := ⟨⟨0, 0, none, 0, [], 0⟩⟩
  obtain ⟨l, hr, hz⟩ := open_rowsF (e2 := encBA) (k := 4) (by decide) (fun _ => rfl) Try.underlying22 (by kernel_rfl) (BActOk W) (fun _ _ _ h => bact_of_cells h) (by obtain ⟨a, len, cap, rfl⟩ := okWide_slice Try.underlying22 hv; exact ⟨a, len, cap, rfl⟩) h
  refine ⟨l, hr, ?_⟩
  rcases hz with ⟨_, rfl⟩ | ⟨el, sp, rfl, he, hall⟩
  · simp
  · have h1 := slice_len Try.underlying22 hw
    rw [show Try.prog.bytesOf 33 = 48 by kernel_rfl] at h1
    refine ⟨by omega, fun s hs => ?_⟩
    obtain ⟨i, hi, rfl⟩ := List.getElem_of_mem hs
    obtain ⟨d', h2, h3, h4, y0, y1, d2, y3, rfl, h5⟩ := hall i hi
    have hw2 : ∀ n ∈ d2.weights Try.prog 31, n ≤ reachBytes := fun n hn => hw n (weights_el Try.underlying22 h2 (by simp only [DataW.weights, Try.underlying33, List.map_cons, List.map_nil, DataW.weightsEach, List.mem_append]; simp only [hn, true_or, or_true]))
    generalize l[i] = a at h3 h4 h5
    rcases h5 with ⟨_, h6⟩ | ⟨el2, sp2, rfl, he2, hall2⟩
    · rw [h6] at h3 ⊢
      exact ⟨RdRs.in h3 (fun r hr => by simp at hr), by simp, fun r hr => by simp at hr, h4⟩
    · have h7 := slice_len Try.underlying31 hw2
      rw [show Try.prog.bytesOf 36 = 24 by kernel_rfl] at h7
      have hrow : ∀ r ∈ a.rows, RdB W W.heap.size r.v r.l ∧ r.l.length ≤ 140737488351232 := fun r hr => by
        obtain ⟨j, hj, rfl⟩ := List.getElem_of_mem hr
        obtain ⟨d9, k1, k2, k3⟩ := hall2 j hj
        exact ⟨k2, k3.len fun n hn => hw2 n (weights_el Try.underlying31 k1 hn)⟩
      exact ⟨RdRs.in h3 (fun r hr => (hrow r hr).1), by omega, fun r hr => (hrow r hr).2, h4⟩
end Go.Proofs.Ytaenlkopjmgniaa

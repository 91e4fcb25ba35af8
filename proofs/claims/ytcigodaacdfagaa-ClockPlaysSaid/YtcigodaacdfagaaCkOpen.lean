/- Arguments of the clock laws as data: acts, numbers of two bytes. -/
import Derived.Test.YtcigodaacdfagaaOpenN
import Derived.Test.YtcigodaacdfagaaCActs
namespace Go.Proofs.Ytcigodaacdfagaa
open Go.ChangeShapes Go.WideShapes Go.ChangeAt Go.RowKit Go.Joins Go.Deep

section
variable {H : Type} {enc : TypeId × Value → H} {W : World}
set_option maxRecDepth 100000 in
theorem cact_of_cells {fuel : Nat} {cs : List Value} {x : DataW H × List MemPlace} (h : DataW.trod enc Try.prog W 0 (fun _ => true) true fuel 31 cs = some x) : ∃ a : CAct, cs = encCA a ∧ (I64 a.bell ∧ I64 a.n) := by
  obtain ⟨xs, n, _, hx, hl, hlen, hff⟩ := DataW.trod_struct Try.underlying31 h
  rw [show Try.prog.cellsOf 31 = 3 by kernel_rfl] at hl
  match cs, hl, xs, hlen, hff, hx with
  | [c0, c1, c2], _, [y0, y1, y2], _, hff, hx =>
    have k3 : Try.prog.cellsOf 3 = 1 := by kernel_rfl
    have g0 := hff 0 _ rfl
    have g1 := hff 1 _ rfl
    have g2 := hff 2 _ rfl
    simp [k3] at g0 g1 g2
    obtain ⟨i0, e0, _, w0⟩ := DataW.trod_int Try.underlying3 g0
    obtain ⟨i1, e1, _, w1⟩ := DataW.trod_int Try.underlying3 g1
    obtain ⟨i2, e2, _, w2⟩ := DataW.trod_int Try.underlying3 g2
    simp at e0 e1 e2
    refine ⟨⟨i0, i1, i2⟩, ?_, int_of_wf w1, int_of_wf w2⟩
    rw [e0, e1, e2]
    rfl
theorem u16_of_cells {fuel : Nat} {cs : List Value} {x : DataW H × List MemPlace} (h : DataW.trod enc Try.prog W 0 (fun _ => true) true fuel 42 cs = some x) : ∃ n : Nat, cs = encU n ∧ n < 65536 := by
  obtain ⟨i0, e0, _, w0⟩ := DataW.trod_int Try.underlying42 h
  obtain ⟨n, rfl, hn⟩ := nat_of_wfu16 w0
  exact ⟨n, e0, hn⟩
end
set_option maxRecDepth 100000 in
theorem open_cacts {H : Type} {enc : TypeId × Value → H} {W : World} {base : Nat} {v : Value} {d : DataW H} {p : List MemPlace} (hv : Value.okWide Try.prog W .any base 22 v) (h : DataW.Trod enc Try.prog W 0 (fun _ => true) true 22 v d p) (hw : ∀ n ∈ d.weights Try.prog 22, n ≤ reachBytes) :
    ∃ l : List CAct, Rd encCA 3 W W.heap.size v l ∧ l.length ≤ 140737488351232 ∧ ∀ a ∈ l, I64 a.bell ∧ I64 a.n := by
  haveI : Inhabited CAct := ⟨⟨0, 0, 0⟩⟩
  obtain ⟨l, hr, hz⟩ := open_rowsF (H := H) (e2 := encCA) (k := 3) (by decide) (fun _ => rfl) Try.underlying22 (by kernel_rfl) (fun a _ => I64 a.bell ∧ I64 a.n) (fun _ _ _ h => cact_of_cells h) (by obtain ⟨a, len, cap, rfl⟩ := okWide_slice Try.underlying22 hv; exact ⟨a, len, cap, rfl⟩) h
  refine ⟨l, hr, ?_⟩
  rcases hz with ⟨_, rfl⟩ | ⟨el, sp, rfl, he, hall⟩
  · simp
  · have h1 := slice_len Try.underlying22 hw
    rw [show Try.prog.bytesOf 31 = 24 by kernel_rfl] at h1
    refine ⟨by omega, fun s hs => ?_⟩
    obtain ⟨i, hi, rfl⟩ := List.getElem_of_mem hs
    obtain ⟨d', h2, h3⟩ := hall i hi
    exact h3
set_option maxRecDepth 100000 in
theorem open_u16s {H : Type} {enc : TypeId × Value → H} {W : World} {base : Nat} {v : Value} {d : DataW H} {p : List MemPlace} (hv : Value.okWide Try.prog W .any base 41 v) (h : DataW.Trod enc Try.prog W 0 (fun _ => true) true 41 v d p) (hw : ∀ n ∈ d.weights Try.prog 41, n ≤ reachBytes) :
    ∃ l : List Nat, Rd encU 1 W W.heap.size v l ∧ l.length ≤ 140737488351232 ∧ ∀ n ∈ l, n < 65536 := by
  obtain ⟨l, hr, hz⟩ := open_rowsF (H := H) (e2 := encU) (k := 1) (by decide) (fun _ => rfl) Try.underlying41 (by kernel_rfl) (fun n _ => n < 65536) (fun _ _ _ h => u16_of_cells h) (by obtain ⟨a, len, cap, rfl⟩ := okWide_slice Try.underlying41 hv; exact ⟨a, len, cap, rfl⟩) h
  refine ⟨l, hr, ?_⟩
  rcases hz with ⟨_, rfl⟩ | ⟨el, sp, rfl, he, hall⟩
  · simp
  · have h1 := slice_len Try.underlying41 hw
    rw [show Try.prog.bytesOf 42 = 2 by kernel_rfl] at h1
    refine ⟨by omega, fun s hs => ?_⟩
    obtain ⟨i, hi, rfl⟩ := List.getElem_of_mem hs
    obtain ⟨d', h2, h3⟩ := hall i hi
    exact h3
end Go.Proofs.Ytcigodaacdfagaa

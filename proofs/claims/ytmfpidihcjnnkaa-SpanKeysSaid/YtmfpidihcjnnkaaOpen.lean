/- Arguments of the span laws as data: spans by value, keys, slices of spans. -/
import Derived.Test.YtmfpidihcjnnkaaLaw
import Derived.Test.YtmfpidihcjnnkaaSeq
import Derived.Lib.SmallJoins
import Derived.Deep.Slices
import Derived.Deep.Fields
import Derived.ChangeSame
namespace Go.Proofs.Ytmfpidihcjnnkaa
open Go.ChangeShapes Go.WideShapes Go.ChangeAt Go.RowKit Go.Joins Go.Deep

theorem span_cells : Try.prog.cellsOf 23 = 2 := by kernel_rfl

section
variable {H : Type} {enc : TypeId × Value → H} {w : World} {base : Nat} {spare : Nat → Bool} {held : Bool}
/-- the two cells of a span, read as data -/
theorem span_of_cells {fuel : Nat} {cs : List Value} {x : DataW H × List MemPlace} (h : DataW.trod enc Try.prog w base spare held fuel 23 cs = some x) : ∃ s : K × K, cs = [.string s.1, .string s.2] := by
  obtain ⟨y0, y1, n, _, hlen, h0, h1⟩ := trod_struct2 Try.underlying23 h
  rw [span_cells] at hlen
  match cs, hlen with
  | [u, v], _ =>
    have c9 : Try.prog.cellsOf 9 = 1 := by kernel_rfl
    simp [c9] at h0 h1
    obtain ⟨a, ea, _, _⟩ := DataW.trod_string Try.underlying9 h0
    obtain ⟨b, eb, _, _⟩ := DataW.trod_string Try.underlying9 h1
    simp at ea eb
    exact ⟨(a, b), by rw [ea, eb]⟩
end

theorem addr_add (a : Addr) (n : Nat) (h : a.spot = none) : a.add n = ⟨a.block, a.off + n, none⟩ := by
  unfold Addr.add
  cases a with
  | mk b o s => simp only at h; subst h; split <;> simp_all

/-- a slice of spans that came in reads as a list -/
theorem open_spans {H : Type} {enc : TypeId × Value → H} {W : World} {base : Nat} {v : Value} {d : DataW H} {p : List MemPlace} (hv : Value.okWide Try.prog W .any base 36 v) (h : DataW.Trod enc Try.prog W 0 (fun _ => true) true 36 v d p) :
    ∃ l, RdS W W.heap.size v l := by
  obtain ⟨a0, len, cap, rfl⟩ := okWide_slice Try.underlying36 hv
  obtain ⟨fuel, hf⟩ := h
  rcases open_slice Try.underlying36 hf with ⟨hcs, _⟩ | ⟨a, len', cap', m, n, D, Pl, hcs, _, hl, _, hm, _, hi⟩
  · simp only [Value.cells] at hcs
    have e : Value.slice a0 len cap = .slice none 0 0 := by simpa using hcs
    injection e with e1 e2 e3
    subst e1 e2 e3
    exact ⟨[], none, 0, rfl, Nat.le_refl _, fun i s hs => by simp at hs⟩
  · simp only [Value.cells] at hcs
    have e : Value.slice a0 len cap = .slice (some a) len' cap' := by simpa using hcs
    injection e with e1 e2 e3
    subst e1 e2 e3
    simp only [if_true] at hm
    subst hm
    have hcell : ∀ i, i < len → ∃ s : K × K, W.cell? (a.add (i * 2)) = some (.string s.1) ∧ W.cell? (a.add (i * 2 + 1)) = some (.string s.2) := fun i hi' => by
      obtain ⟨cs', hc, ht⟩ := hi i (Nat.lt_of_lt_of_le hi' hl)
      rw [span_cells] at hc
      obtain ⟨s, rfl⟩ := span_of_cells ht
      obtain ⟨_, _, hat⟩ := World.cells?_some hc
      have h0 := hat 0 (by omega)
      have h1 := hat 1 (by omega)
      rw [Go.Deep.add_add] at h0 h1
      exact ⟨s, by simpa using h0, by simpa using h1⟩
    obtain ⟨f, hf⟩ : ∃ f : Nat → K × K, ∀ i, i < len → W.cell? (a.add (i * 2)) = some (.string (f i).1) ∧ W.cell? (a.add (i * 2 + 1)) = some (.string (f i).2) := by
      refine ⟨fun i => if h : i < len then (hcell i h).choose else (⟨#[]⟩, ⟨#[]⟩), fun i hi' => ?_⟩
      simp only [dif_pos hi']
      exact (hcell i hi').choose_spec
    refine ⟨(List.range len).map f, some a, m, by simp, by simpa using hl, fun i s hs => ?_⟩
    have hlt : i < len := by
      rcases Nat.lt_or_ge i len with h' | h'
      · exact h'
      · rw [List.getElem?_eq_none (by simpa using h')] at hs; cases hs
    have hs' : f i = s := by simpa [hlt] using hs
    subst hs'
    obtain ⟨h1, h2⟩ := hf i hlt
    have hb : a.block < W.heap.size := by
      have := World.block_lt_of_cell? _ _ h1
      have hblk : (a.add (i * 2)).block = a.block := by unfold Addr.add; split <;> rfl
      omega
    have hsp : a.spot = none := by
      have h0 := (hf 0 (by omega)).1
      have e0 : a.add (0 * 2) = a := rfl
      rw [e0] at h0
      unfold World.cell? at h0
      split at h0
      · cases hq : a.spot with
        | none => rfl
        | some q => rw [hq] at h0; simp at h0
      · cases h0
    rw [addr_add a _ hsp] at h1 h2
    exact ⟨a.block, a.off, by cases a; simp only at hsp; subst hsp; rfl, hb, h1, by rw [← h2]; rfl⟩
end Go.Proofs.Ytmfpidihcjnnkaa

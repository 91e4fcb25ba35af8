/- A slice made of n elements of k cells each: all of them the zero of their type. -/
import Derived.Test.YtcigodaacdfagaaGen
namespace Go.Proofs.Ytcigodaacdfagaa
open Go.RowKit

section
variable {α : Type} {enc : α → List Value} {k : Nat} {P : Program}
theorem toList_madeCells_k (x0 : α) (hk : ∀ x, (enc x).length = k) (hpos : 0 < k) (z : Array Value) (hz : z.toList = enc x0) (n : Nat) : (madeCells z (n * k)).toList = flatG enc (List.replicate n x0) := by
  have hzs : z.size = k := by rw [← hk x0, ← hz]; simp
  apply List.ext_getElem?
  intro i
  by_cases hi : i < n * k
  · have hq : i / k < n := Nat.div_lt_of_lt_mul (by rw [Nat.mul_comm]; exact hi)
    have hm : i % k < k := Nat.mod_lt _ hpos
    have e : i = i / k * k + i % k := by rw [Nat.mul_comm]; exact (Nat.div_add_mod i k).symm
    have h2 := flatG_get hk (List.replicate n x0) (i / k) (by simpa using hq) (i % k) hm
    rw [← e, List.getElem_replicate, ← hz] at h2
    rw [h2]
    have h3 : i % k < z.size := by rw [hzs]; exact hm
    have h4 : i < (madeCells z (n * k)).size := by rw [size_madeCells]; exact hi
    rw [List.getElem?_eq_getElem (by simpa using h4), List.getElem?_eq_getElem (by simpa using h3)]
    simp only [madeCells, Array.getElem_toList, Array.getElem_map, Array.getElem_range, hzs]
    rw [getElem!_pos z (i % k) h3]
  · rw [List.getElem?_eq_none (by simp [size_madeCells]; omega), List.getElem?_eq_none (by rw [flatG_length hk]; simp; omega)]
/-- the run of a make with its length alone -/
theorem run_makeK (base : Nat) (t e : TypeId) (B : Nat) (zs : List Value) (z : Value) (x0 : α) (ht : P.underlying t = some (.slice e)) (hi : (P.info? e).map (fun i => (i.zero, i.size, i.bytes)) = some (some z, k, B)) (hzc : z.cells.toList = zs) (hx : zs = enc x0)
    (hk : ∀ x, (enc x).length = k) (hpos : 0 < k) (n : Nat) (w : World) (hbytes : B * n ≤ 281474976710656) (h63 : n ≤ maxLen) (hbase : base ≤ w.heap.size) :
    ∃ w', (Instr.makeSlice t (.int .i64 (n : Int)) (.int .i64 (n : Int))).run P w = .ok (.slice (some ⟨w.heap.size, 0, none⟩) n n) w' ∧ Own enc k e w' base (.slice (some ⟨w.heap.size, 0, none⟩) n n) (List.replicate n x0) ∧ Below w.heap.size w w' := by
  obtain ⟨i, hi2, h1, h2, h3⟩ : ∃ i, P.info? e = some i ∧ i.zero = some z ∧ i.size = k ∧ i.bytes = B := by
    cases h : P.info? e with
    | none => rw [h] at hi; cases hi
    | some i =>
      rw [h] at hi
      simp only [Option.map_some, Option.some.injEq, Prod.mk.injEq] at hi
      exact ⟨i, rfl, hi.1, hi.2.1, hi.2.2⟩
  obtain ⟨w', hr, ho, hg⟩ := run_make_full (P := P) w base t e i z k ht hi2 h1 h2 .i64 .i64 n (by rw [h3]; exact hbytes) h63 hbase
  refine ⟨w', hr, ?_, (Below.refl _ w).grown hg (Nat.le_refl _) (fun _ h => by cases h)⟩
  unfold Own
  rw [toList_madeCells_k x0 hk hpos z.cells (by rw [hzc, hx]) n] at ho
  rw [List.length_replicate]
  exact ho
end
end Go.Proofs.Ytcigodaacdfagaa

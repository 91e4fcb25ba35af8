/- Cells moved inside a block that is known whole: copy, append within the room, append of zeros that grows, clear; for elements that take k cells each. -/
import Derived.Test.YtpfhkijnaiopoaaWhole
import Derived.Laws.CopyOwn
import Derived.Lib.AppendZerosOnto
import Derived.Lib.Overlaps
namespace Go.Proofs.Ytpfhkijnaiopoaa
open Go.RowKit
section
variable {P : Program}

theorem Whole.setRow {w : World} {g : Nat} {t : TypeId} {cur : List Value} (h : Whole w g t cur) (cs : List Value) : Whole (w.setRow g cs.toArray) g t cs := setRow_heap w g _ _ t _ h
theorem grown_setRow (w : World) (g : Nat) (cs : Array Value) : w.grownBy (w.setRow g cs) (some g) :=
  ⟨rfl, rfl, rfl, by simp [World.setRow], fun k _ hk => setRow_other w g k cs (fun e => hk (by rw [e]))⟩
theorem size_setRow (w : World) (g : Nat) (cs : Array Value) : (w.setRow g cs).heap.size = w.heap.size := by simp [World.setRow]
theorem splice_nil (cur : List Value) (o : Nat) : splice cur o [] = cur := by simp [splice]

/-- what a move leaves: the block anew, all else as it was -/
structure Moved (w w' : World) (g : Nat) (t : TypeId) (cur : List Value) : Prop where
  whole : Whole w' g t cur
  grown : w.grownBy w' (some g)
  size : w'.heap.size = w.heap.size
theorem Moved.same {w : World} {g : Nat} {t : TypeId} {cur : List Value} (h : Whole w g t cur) : Moved w w g t cur := ⟨h, ⟨rfl, rfl, rfl, Nat.le_refl _, fun _ _ _ => rfl⟩, rfl⟩

/-- where cells are read from: nothing is asked of an empty row's address -/
def Srcs (w : World) (sp : Option Addr) (cs : List Value) : Prop := 0 < cs.length → ∃ ad, sp = some ad ∧ ∀ j v, cs[j]? = some v → w.cell? (ad.add j) = some v
theorem Srcs.nil (w : World) (sp : Option Addr) : Srcs w sp [] := fun h => absurd h (by simp)
theorem Srcs.of {w : World} {ad : Addr} {cs : List Value} (h : ∀ j v, cs[j]? = some v → w.cell? (ad.add j) = some v) : Srcs w (some ad) cs := fun _ => ⟨ad, rfl, h⟩
theorem Srcs.first {w : World} {sp : Option Addr} {cs : List Value} (h : Srcs w sp cs) (size n len cap : Nat) (hl : cs.length = n * size) : (Builtin.firstCells size n (.slice sp len cap)).run P w = .ok cs.toArray w := by
  by_cases h0 : 0 < cs.length
  · obtain ⟨ad, rfl, hc⟩ := h h0
    exact run_firstCells_some w size n ad len cap cs hl hc
  · have hn : cs = [] := List.eq_nil_of_length_eq_zero (by omega)
    subst hn
    cases sp with
    | none => exact run_firstCells_none w size n len cap
    | some a => exact run_firstCells_some w size n a len cap [] hl (fun j v hj => by simp at hj)

/-- cells stored into such a block -/
theorem run_put (w : World) (g o : Nat) (t : TypeId) (dp : Option Addr) (cur cs : List Value) (hg : Whole w g t cur) (hp : 0 < cs.length → dp = some ⟨g, o, none⟩) (hfit : o + cs.length ≤ cur.length) (h1 : ∀ v ∈ cs, v.oneCell' = true) :
    ∃ w', (match dp with | some a => storeCells a cs 0 | none => pure ()).run P w = .ok () w' ∧ Moved w w' g t (splice cur o cs) := by
  by_cases h0 : 0 < cs.length
  · obtain rfl := hp h0
    refine ⟨_, run_storeCells_at P g o t cs 0 cur.toArray w hg (by simpa using hfit) h1, ?_⟩
    simp only [Nat.add_zero, List.append_assoc]
    exact ⟨hg.setRow _, grown_setRow _ _ _, size_setRow _ _ _⟩
  · have hn : cs = [] := List.eq_nil_of_length_eq_zero (by omega)
    subst hn
    rw [splice_nil]
    cases dp with
    | none => exact ⟨w, rfl, Moved.same hg⟩
    | some a => exact ⟨w, rfl, Moved.same hg⟩

theorem run_copyK (w : World) (dT sT ty elem : TypeId) (i0 : TypeInfo) (k : Nat) (hu : P.underlying dT = some (.slice elem)) (hi : P.info? elem = some i0) (hk : i0.size = k) (g o dLen dCap : Nat) (dp sp : Option Addr) (sLen sCap : Nat) (t : TypeId) (cur : List Value)
    (hg : Whole w g t cur) (cs : List Value) (hn : cs.length = Nat.min sLen dLen * k) (hp : 0 < cs.length → dp = some ⟨g, o, none⟩) (hs : Srcs w sp cs) (hfit : o + cs.length ≤ cur.length) (h1 : ∀ v ∈ cs, v.oneCell' = true) :
    ∃ w', (Builtin.copy_ #[dT, sT] ty #[.slice dp dLen dCap, .slice sp sLen sCap]).run P w = .ok (goInt (Nat.min sLen dLen)) w' ∧ Moved w w' g t (splice cur o cs) := by
  obtain ⟨w', hr, hm⟩ := run_put (P := P) w g o t dp cur cs hg hp hfit h1
  refine ⟨w', ?_, hm⟩
  subst hk
  have hf := hs.first (P := P) i0.size (Nat.min sLen dLen) sLen sCap hn
  cases dp with
  | none => 
    have hw : w' = w := by simp at hr; exact hr.symm
    simp [Builtin.copy_, run_underlying hu, Builtin.lenOf, sizeOf, typeInfo, hi, hf, hw]
  | some a => simp [Builtin.copy_, run_underlying hu, Builtin.lenOf, sizeOf, typeInfo, hi, hf, hr]

theorem run_roomK (w : World) (T ty e : TypeId) (i0 : TypeInfo) (k : Nat) (hu : P.underlying T = some (.slice e)) (hi : P.info? e = some i0) (hk : i0.size = k) (g i cap : Nat) (sp : Option Addr) (m mc : Nat) (t : TypeId) (cur : List Value)
    (hg : Whole w g t cur) (cs : List Value) (hn : cs.length = m * k) (hs : Srcs w sp cs) (hroom : i + m ≤ cap) (hfit : i * k + cs.length ≤ cur.length) (h1 : ∀ v ∈ cs, v.oneCell' = true) :
    ∃ w', (Builtin.append_ #[T, T] ty #[.slice (some ⟨g, 0, none⟩) i cap, .slice sp m mc]).run P w = .ok (.slice (some ⟨g, 0, none⟩) (i + m) cap) w' ∧ Moved w w' g t (splice cur (i * k) cs) := by
  subst hk
  obtain ⟨w', hr, hm⟩ := run_put (P := P) w g (i * i0.size) t (some ⟨g, i * i0.size, none⟩) cur cs hg (fun _ => rfl) hfit h1
  refine ⟨w', ?_, hm⟩
  have hf := hs.first (P := P) i0.size m m mc hn
  have hadd : (⟨g, 0, none⟩ : Addr).add (i * i0.size) = ⟨g, i * i0.size, none⟩ := by rw [Addr.add_lit, Nat.zero_add]
  simp only at hr
  simp [Builtin.append_, run_underlying hu, sizeOf, typeInfo, hi, Builtin.lenOf, hroom, hf, hadd, hr]

theorem run_clearK (w : World) (T ty e : TypeId) (z : Value) (k : Nat) (hu : P.underlying T = some (.slice e)) (hz : ∀ w, (zeroValue e).run P w = .ok z w) (hk : z.cells.size = k) (hz1 : ∀ v ∈ z.cells.toList, v.oneCell' = true) (g o n cap : Nat) (dp : Option Addr) (t : TypeId) (cur : List Value)
    (hg : Whole w g t cur) (hp : 0 < n → dp = some ⟨g, o, none⟩) (hfit : o + n * k ≤ cur.length) :
    ∃ w' zs, (Builtin.clear_ #[T] ty #[.slice dp n cap]).run P w = .ok (.tuple #[]) w' ∧ zs.length = n * k ∧ Moved w w' g t (splice cur o zs) := by
  by_cases h0 : n = 0
  · subst h0
    refine ⟨w, [], ?_, by simp, by rw [splice_nil]; exact Moved.same hg⟩
    cases dp <;> simp [Builtin.clear_, run_underlying hu]
  · obtain rfl := hp (by omega)
    have hzl : (Builtin.zeroCells z.cells n).toList.length = n * k := by rw [Array.length_toList, size_zeroCells, hk]
    have h1 : ∀ v ∈ (Builtin.zeroCells z.cells n).toList, v.oneCell' = true := by
      intro v hv
      simp only [Builtin.zeroCells, Array.toList_map, List.mem_map, Array.toList_range, List.mem_range] at hv
      obtain ⟨j, hj, rfl⟩ := hv
      have hpos : 0 < z.cells.size := by
        rcases Nat.eq_zero_or_pos z.cells.size with h | h
        · rw [h] at hj; simp at hj
        · exact h
      have hlt := Nat.mod_lt j hpos
      rw [getElem!_pos z.cells _ hlt]
      exact hz1 _ (by simp)
    obtain ⟨w', hr, hm⟩ := run_put (P := P) w g o t (some ⟨g, o, none⟩) cur _ hg (fun _ => rfl) (by rw [hzl]; exact hfit) h1
    refine ⟨w', _, ?_, hzl, hm⟩
    obtain ⟨n', rfl⟩ : ∃ n', n = n' + 1 := ⟨n - 1, by omega⟩
    simp only at hr
    simp [Builtin.clear_, run_underlying hu, hz, hr]

/-- append(s[:i], make(S, n)...) where there is no room -/
theorem run_zerosK (w : World) (T tn ty e : TypeId) (i0 : TypeInfo) (z : Value) (k bytes : Nat) (kq kn : IntKind) (hu : P.underlying T = some (.slice e)) (htn : P.underlying tn = some (.int kn)) (hi : P.info? e = some i0) (hz : i0.zero = some z) (hk : i0.size = k) (hk0 : 0 < k) (hb : i0.bytes = bytes) (hzs : z.cells.size = k)
    (ap : Option Addr) (i cap n : Nat) (olds : List Value) (ho : olds.length = i * k) (hs : Srcs w ap olds) (h0 : 0 < n) (hg : cap < i + n) (h63 : i + n ≤ maxLen) (hfit : ((i + n) + (i + n) / 4 + 192) * bytes ≤ 281474976710656) :
    ∃ w' c cur, (Builtin.append_ #[T, tn] ty #[.slice ap i cap, .int kq n]).run P w = .ok (.slice (some ⟨w.heap.size, 0, none⟩) (i + n) c) w' ∧ Whole w' w.heap.size e cur ∧ cur.length = c * k ∧ cur.take (i * k) = olds ∧ i + n ≤ c ∧ c ≤ maxLen ∧ w.grownBy w' none ∧ w'.heap.size = w.heap.size + 1 := by
  subst hk hb
  have h48 := growslice_fits_wide hg hfit
  have hge := grownCap_ge w (i + n) cap e
  have hcm : grownCap w (i + n) cap e ≤ maxLen := grownCap_le_maxLen w (i + n) cap e h63
  have hf : (Builtin.firstCells i0.size i (.slice ap i cap)).run P w.drew = .ok olds.toArray w.drew := (show Srcs w.drew ap olds from hs).first (P := P) i0.size i i cap ho
  have hr := Lib.run_append_grow_zeros (P := P) w T tn ty e i0 z kq kn hu htn hi hz ap i cap olds hf n h0 hk0 hg (by unfold maxLen at h63; omega)
    (by have : n * i0.bytes ≤ (i + n + (i + n) / 4 + 192) * i0.bytes := Nat.mul_le_mul_right _ (by omega)
        omega) h48
  refine ⟨_, _, (olds.toArray ++ Builtin.zeroCells z.cells n ++ Builtin.zeroCells z.cells (grownCap w (i + n) cap e - (i + n))).toList, hr, ?_, ?_, ?_, hge, hcm, ⟨rfl, rfl, rfl, by simp, fun j hj hn => (World.grownBy_alloc w.drew _ none).block j hj hn⟩, by simp⟩
  · unfold Whole
    rw [Array.toArray_toList]
    exact heap_alloc_new w.drew _
  · simp only [Array.length_toList, Array.size_append, List.size_toArray, size_zeroCells, hzs, ho, ← Nat.add_mul]
    congr 1
    omega
  · simp only [Array.toList_append, List.append_assoc]
    rw [← ho]
    exact List.take_left

/-- the operations, for a walk -/
theorem wp_call2 {w : World} {o : Oper} {a : Act} {K1 : Act → World → Prop} {Q : Exit → Act → World → Prop} (b : Builtin) (hb : b = .copy ∨ b = .append) (d s : Operand) (t t' : TypeId)
    (ho : o.op = .call { callee := .builtin b, args := #[d, s], argTypes := #[t, t'] }) (v u : Value) (hd : a.eval d = v) (hs : a.eval s = u) {v' : Value} {w' : World}
    (hr : (match b with | .copy => Builtin.copy_ #[t, t'] o.type #[v, u] | _ => Builtin.append_ #[t, t'] o.type #[v, u]).run P w = .ok v' w') (h : K1 (a.put o.dst v') w') : o.wp P a w K1 Q := by
  unfold Oper.wp execOp
  rcases hb with rfl | rfl <;>
  · simp only at hr
    simp only [ho, resolve, invoke, builtin, Sem.run_bind, Sem.run_pure, Result.andThen_ok, List.map_toArray, List.map_cons, List.map_nil, hd, hs, hr]
    exact h
theorem wp_clearK {w : World} {o : Oper} {a : Act} {K1 : Act → World → Prop} {Q : Exit → Act → World → Prop} (d : Operand) (t : TypeId)
    (ho : o.op = .call { callee := .builtin .clear, args := #[d], argTypes := #[t] }) (v : Value) (hd : a.eval d = v) {v' : Value} {w' : World}
    (hr : (Builtin.clear_ #[t] o.type #[v]).run P w = .ok v' w') (h : K1 (a.put o.dst v') w') : o.wp P a w K1 Q := by
  unfold Oper.wp execOp
  simp only [ho, resolve, invoke, builtin, Sem.run_bind, Sem.run_pure, Result.andThen_ok, List.map_toArray, List.map_cons, List.map_nil, hd, hr]
  exact h
end
end Go.Proofs.Ytpfhkijnaiopoaa

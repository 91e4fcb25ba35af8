/- The program's clock: the bells that ring, sorted. -/
import Derived.Test.YtcigodaacdfagaaPe
import Derived.Test.YtcigodaacdfagaaSort
namespace Go.Proofs.Ytcigodaacdfagaa
open Go.RowKit Go.Sort

def intV (n : Int) : Value := .int .i64 n
theorem flatI_get (l : List Int) (i : Nat) (h : i < l.length) : (flatG encI l)[i]? = some (intV l[i]) := by
  have := flatG_get (enc := encI) (k := 1) encI_len l i h 0 (by omega)
  simpa [encI, intV] using this
section
variable {w : World} {base g cap : Nat} {l : List Int}
theorem OwnI.holds (h : OwnI w base (.slice (some ⟨g, 0, none⟩) l.length cap) l) : Holds intV w g 0 l.toArray := by
  intro j hj
  have hj' : j < l.length := by simpa using hj
  have hj2 : j < l.length * 1 := by omega
  have h' := h
  unfold OwnI Own at h'
  rw [Nat.zero_add, h'.cellAt j hj2, h'.frozenAt]
  refine ⟨?_, rfl⟩
  rw [flatI_get l j hj', getElem!_pos _ j hj, List.getElem_toArray]
theorem mv_sortWorld (blk off n : Nat) (d : Array Int) (os : Array Obj) : Mv (fun i => i = blk) w (sortWorld intV w blk off n d os) := by
  refine ⟨rfl, rfl, rfl, by simp [sortWorld, grow, putRow, mapBlock, Sort.ahead], fun k hk hne => ?_⟩
  unfold sortWorld
  rw [heap_grow_old _ _ (by simpa [putRow, mapBlock, Sort.ahead] using hk)]
  have : blk ≠ k := fun e => hne e.symm
  simp [putRow, mapBlock, Sort.ahead, Array.getElem?_modify, this]
theorem OwnI.sorted (h : OwnI w base (.slice (some ⟨g, 0, none⟩) l.length cap) l) (d : Array Int) (hd : d.size = l.length) (n : Nat) (os : Array Obj) :
    OwnI (sortWorld intV w g 0 n d os) base (.slice (some ⟨g, 0, none⟩) l.length cap) d.toList := by
  rcases h.2 with ⟨h', _⟩ | ⟨g', cap', cur, h', hb, hg, hnc, hcm, hcs, htake⟩
  · simp at h'
  · simp only [Value.slice.injEq, Option.some.injEq, Addr.mk.injEq, and_true, true_and] at h'
    obtain ⟨rfl, rfl⟩ := h'
    have hlt : g < w.heap.size := (Array.getElem?_eq_some_iff.1 hg).1
    have hl : d.toList.length = l.length := by simpa using hd
    unfold OwnI Own
    rw [hl]
    refine ⟨by rw [flatG_length encI_len, hl], .inr ⟨g, cap, putCells intV 0 d cur, rfl, hb, ?_, hnc, hcm, by simpa [putCells] using hcs, ?_⟩⟩
    · unfold sortWorld
      rw [heap_grow_old _ _ (by simpa [putRow, mapBlock, Sort.ahead] using hlt)]
      simp [putRow, mapBlock, Sort.ahead, Array.getElem?_modify, hg, onCells]
    · have hfl : (flatG encI d.toList).length = l.length * 1 := by rw [flatG_length encI_len, hl]
      apply List.ext_getElem?
      intro j
      have hcur : l.length * 1 ≤ cur.size := by rw [hcs]; exact Nat.mul_le_mul_right _ hnc
      by_cases hj : j < l.length * 1
      · have hjl : j < d.toList.length := by omega
        rw [List.getElem?_take_of_lt hj, Array.getElem?_toList, putCells, Array.getElem?_mapIdx, Array.getElem?_eq_getElem (by omega), Option.map_some,
          if_pos ⟨Nat.zero_le _, by omega⟩, Nat.sub_zero, flatI_get _ _ hjl, getElem!_pos d j (by omega)]
        simp
      · rw [List.getElem?_take_eq_none (by omega), List.getElem?_eq_none (by omega)]
end

theorem sort_none (fv : Value) (w : World) : Calls Try.prog 20 #[.slice none 0 0, fv] w fun e w' => e = .returned (.tuple #[]) ∧ w' = w := AnyF.slices_SortFunc_none (P := Try.prog) { Try.sortBl with } none 0 fv w
set_option maxHeartbeats 1000000 in
/-- the sort of a slice of the call's own by the bells' times -/
theorem sort_any (bx q b : Nat) (now : Int) (L : List Bl) (w : World) (base : Nat) (v : Value) (l : List Int) (h : OwnI w base v l) (hl : l.length ≤ 1000000)
    (hB : Whole w bx 23 [.pointer (some ⟨q, 0, none⟩)]) (hW : Whole w q 49 [.int .i64 now, .map (some b)]) (hM : MapI w b (L.map prB)) (hne : ∀ g, v.ownBlock = some g → bx ≠ g ∧ q ≠ g ∧ b ≠ g) :
    Calls Try.prog 20 #[v, .func (.func 21) #[] #[.pointer (some ⟨bx, 0, none⟩)]] w fun e w' => e = .returned (.tuple #[]) ∧
      ∃ l', OwnI w' base v l' ∧ Mv (fun i => v.ownBlock = some i) w w' ∧ l'.Perm l ∧ l'.Pairwise (fun x y => ltOf (cmpB L) y x = false) := by
  rcases h.form with ⟨rfl, rfl⟩ | ⟨g, cap, rfl, hg, hlt, hc⟩
  · refine (sort_none _ w).mono ?_
    rintro e w' ⟨he, rfl⟩
    exact ⟨he, [], Own.nil _ _, Mv.refl _ _, .refl _, .nil⟩
  · obtain ⟨hn1, hn2, hn3⟩ := hne g rfl
    have eg : ∀ args w, (callFunc 21 args).run Try.prog w = .ok (.enter 21 args) w := enters_of Try.func21 (by kernel_rfl) rfl
    have hcon := Any.slices_SortFunc (P := Try.prog) Try.sortBl intV (fun _ => rfl) (cmpB L) (swoB L) 21 #[.pointer (some ⟨bx, 0, none⟩)] g 0 cap l.toArray w eg
      (fun m os dk _ x y => by
        have hm := mv_sortWorld (w := w) g 0 m dk os
        exact less_any bx q b now L _ (hm.whole hB hn1) (hm.whole hW hn2) (hM.mv hm hn3) x y) h.holds hlt (by simp; omega)
    refine hcon.mono ?_
    rintro e w' ⟨he, d', n, os, hp, hs, rfl⟩
    have hd : d'.size = l.length := by simpa using hp.1
    refine ⟨he, d'.toList, h.sorted d' hd n os, (mv_sortWorld g 0 n d' os).mono fun i _ e => by rw [e]; rfl, ?_, ?_⟩
    · have := hp.2.2
      simpa [hd, Array.extract_eq_self_of_le] using this
    · rw [List.pairwise_iff_getElem]
      intro i j hi hj hij
      have hq := hs i j (Nat.zero_le _) hij (by simpa [hd] using hj)
      rw [getElem!_pos d' i (by simpa using hi), getElem!_pos d' j (by simpa using hj)] at hq
      simpa using hq
end Go.Proofs.Ytcigodaacdfagaa

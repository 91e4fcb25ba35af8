/- The spans that have keys, sorted by where they begin: what span.rising answers. -/
import Derived.Test.YtdkdolcocblhkaaMem
import Derived.Test.YtdkdolcocblhkaaPSmall
import Derived.Test.YtdkdolcocblhkaaSort
namespace Go.Proofs.Ytdkdolcocblhkaa
open Go.RowKit Go.Sort
attribute [local go_sem] less_eq same_eq le_eq ge_eq gt_eq

theorem flatK_eq (d : Array (K × K)) : flatK cellsS 2 d = (flat d.toList).toArray := by
  apply Array.ext_getElem?
  intro t
  refine Eq.trans ?_ (show (flat d.toList)[t]? = (flat d.toList).toArray[t]? by simp)
  by_cases ht : t < d.size * 2
  · have hi : t / 2 < d.size := by omega
    have hs : d.toList[t / 2]? = some d[t / 2]! := by rw [Array.getElem?_toList, getElem!_pos d _ hi]; simp [hi]
    have hf := flat_get _ _ _ hs
    have hz : t < (flatK cellsS 2 d).size := by rw [size_flatK]; exact ht
    rw [Array.getElem?_eq_getElem hz]
    have hg := get_flatK cellsS 2 d t ht
    rw [getElem!_pos _ t hz] at hg
    rw [hg]
    rcases Nat.mod_two_eq_zero_or_one t with h | h
    · rw [h]
      rw [show t / 2 * 2 = t by omega] at hf
      rw [hf.1]; rfl
    · rw [h]
      rw [show t / 2 * 2 + 1 = t by omega] at hf
      rw [hf.2]; rfl
  · rw [Array.getElem?_eq_none (by rw [size_flatK]; omega), List.getElem?_eq_none (by rw [flat_length, Array.length_toList]; omega)]

section
variable {w : World} {base g cap : Nat} {l : List (K × K)}
theorem OwnS.holds (h : OwnS w base (.slice (some ⟨g, 0, none⟩) l.length cap) l) : HoldsK cellsS 2 w g 0 l.toArray := by
  unfold HoldsK
  rw [flatK_eq]
  intro j hj
  have hj' : j < l.length * 2 := by simpa [flat_length] using hj
  unfold OwnS at h
  rw [Nat.zero_add, h.cellAt j hj', h.frozenAt]
  refine ⟨?_, rfl⟩
  rw [getElem!_pos _ j hj, List.getElem_toArray, List.getElem?_eq_getElem (by rw [flat_length]; exact hj')]
  rfl

theorem OwnS.sorted (h : OwnS w base (.slice (some ⟨g, 0, none⟩) l.length cap) l) (d : Array (K × K)) (hd : d.size = l.length) (n : Nat) (os : Array Obj) :
    OwnS (grow (putRowK cellsS 2 (Sort.ahead w n) g 0 d) os) base (.slice (some ⟨g, 0, none⟩) l.length cap) d.toList ∧ w.grownBy (grow (putRowK cellsS 2 (Sort.ahead w n) g 0 d) os) (some g) := by
  rcases h.2 with ⟨h', _⟩ | ⟨g', cap', cur, h', hb, hg, hnc, hcm, hcs, htake⟩
  · simp at h'
  · simp only [Value.slice.injEq, Option.some.injEq, Addr.mk.injEq, and_true, true_and] at h'
    obtain ⟨rfl, rfl⟩ := h'
    have hlt : g < w.heap.size := (Array.getElem?_eq_some_iff.1 hg).1
    have hl : d.toList.length = l.length := by simpa using hd
    refine ⟨?_, ⟨rfl, rfl, rfl, by simp [putRowK, putRow, mapBlock, Sort.ahead], fun k hk hne => ?_⟩⟩
    · unfold OwnS
      rw [hl]
      refine ⟨by rw [flat_length, hl], .inr ⟨g, cap, putCells id 0 (flatK cellsS 2 d) cur, rfl, hb, ?_, hnc, hcm, by simpa [putCells] using hcs, ?_⟩⟩
      · rw [heap_grow_old _ _ (by simpa [putRowK, putRow, mapBlock, Sort.ahead] using hlt)]
        simp [putRowK, putRow, mapBlock, Sort.ahead, Array.getElem?_modify, hg, onCells]
      · have hfl : (flat d.toList).length = l.length * 2 := by rw [flat_length, hl]
        apply List.ext_getElem?
        intro j
        have hcur : l.length * 2 ≤ cur.size := by rw [hcs]; exact Nat.mul_le_mul_right _ hnc
        by_cases hj : j < l.length * 2
        · rw [List.getElem?_take_of_lt hj, Array.getElem?_toList, putCells, Array.getElem?_mapIdx, Array.getElem?_eq_getElem (by omega), Option.map_some, size_flatK,
            if_pos ⟨Nat.zero_le _, by omega⟩, flatK_eq, Nat.sub_zero, getElem!_pos _ j (by simpa [hfl] using hj), List.getElem_toArray, List.getElem?_eq_getElem (by omega)]
          rfl
        · rw [List.getElem?_take_eq_none (by omega), List.getElem?_eq_none (by omega)]
    · rw [heap_grow_old _ _ (by simpa [putRowK, putRow, mapBlock, Sort.ahead] using hk)]
      have : g ≠ k := fun e => hne (by rw [e])
      simp [putRowK, putRow, mapBlock, Sort.ahead, Array.getElem?_modify, this]
end

def cmpS (x y : K × K) : Int := cmpKey x.1 y.1
theorem ltS (x y : K × K) : ltOf cmpS x y = decide (x.1 < y.1) := by
  unfold ltOf cmpS cmpKey
  by_cases h1 : x.1 < y.1
  · simp [h1]
  · by_cases h2 : y.1 < x.1 <;> simp [h1, h2]
theorem swoS : SWO (ltOf cmpS) where
  irrefl x := by rw [ltS]; simp; grind
  trans x y z h1 h2 := by rw [ltS] at *; simp at *; grind
  ntrans x y z h1 h2 := by rw [ltS] at *; simp at *; grind

set_option maxHeartbeats 400000 in
theorem less_any (x y : K × K) (W : World) : Calls Try.prog 71 #[.agg #[.string x.1, .string x.2], .agg #[.string y.1, .string y.2]] W fun e w' => e = .returned (.int .i64 (cmpS x y)) ∧ ∃ q os', w' = grow (W.drewN q) os' := by
  have hcon := fun W' => compare_any x.1 y.1 W'
  unfold cmpS
  generalize cmpKey x.1 y.1 = r at hcon ⊢
  go_enter Try.func71, Try.ntmps71
  go_wp2_with (go_at_call 61; refine (hcon _).mono ?_; rintro e w' ⟨rfl, rfl⟩)
  go_ret
  exact ⟨rfl, 0, _, by rw [alloc_eq_grow, alloc_eq_grow, grow_grow]; rfl⟩

/-- the sort of a slice of the call's own -/
theorem sort_any (w : World) (base : Nat) (v : Value) (l : List (K × K)) (h : OwnS w base v l) (hl : l.length ≤ 2000000) :
    Calls Try.prog 70 #[v, .func (.func 71) #[] #[]] w fun e w' => e = .returned (.tuple #[]) ∧
      ∃ l', OwnS w' base v l' ∧ w.grownBy w' v.ownBlock ∧ l'.Perm l ∧ l'.Pairwise (fun a b => a.1 ≤ b.1) := by
  rcases h.form with ⟨rfl, rfl⟩ | ⟨g, cap, rfl, hg, hlt, hc⟩
  · refine (AnyF.slices_SortFunc_none (P := Try.prog) Try.sortSp none 0 _ w).mono ?_
    rintro e w' ⟨he, rfl⟩
    exact ⟨he, [], OwnS.nil _ _, ⟨rfl, rfl, rfl, Nat.le_refl _, fun _ _ _ => rfl⟩, .refl _, .nil⟩
  · have eg : ∀ args w, (callFunc 71 args).run Try.prog w = .ok (.enter 71 args) w := enters_of Try.func71 (by kernel_rfl) rfl
    have hcon := AnyQ.slices_SortFunc (P := Try.prog) Try.sortSp 2 Try.isAgg48 Try.sizeOf48 cellsS (fun _ => rfl) (fun x v hv => by simp [cellsS] at hv; rcases hv with rfl | rfl <;> rfl) cmpS swoS 71 #[] g 0 cap l.toArray w eg
      (fun _ _ _ _ x y => less_any x y _) h.holds hlt (by simp; omega)
    refine hcon.mono ?_
    rintro e w' ⟨he, d', n, os, hp, hs, rfl⟩
    have hd : d'.size = l.length := by simpa using hp.1
    obtain ⟨h1, h2⟩ := h.sorted d' hd n os
    refine ⟨he, d'.toList, h1, h2, ?_, ?_⟩
    · have := hp.2.2
      simpa [hd, Array.extract_eq_self_of_le] using this
    · rw [List.pairwise_iff_getElem]
      intro i j hi hj hij
      have hq := hs i j (Nat.zero_le _) hij (by simpa [hd] using hj)
      rw [ltS, getElem!_pos d' i (by simpa using hi), getElem!_pos d' j (by simpa using hj)] at hq
      have hn : ¬ d'[j].1 < d'[i].1 := by simpa using hq
      have hr : d'[i].1 ≤ d'[j].1 := by grind
      simpa using hr

set_option maxHeartbeats 400000 in
theorem empty_exact (s : K × K) (w : World) : Calls Try.prog 46 #[.agg #[.string s.1, .string s.2]] w fun e w' => e = .returned (.bool (decide (s.2 ≤ s.1))) ∧ w' = w.alloc (.cells #[.string s.1, .string s.2] 48) := by
  go_enter Try.func46, Try.ntmps46
  go_wp2
  go_ret
  exact ⟨rfl, rfl⟩

def full (s : K × K) : Bool := decide (s.1 < s.2)
theorem full_step (l : List (K × K)) (j : Nat) (h : j < l.length) : (l.take (j + 1)).filter full = (l.take j).filter full ++ (if full l[j] then [l[j]] else []) := by
  rw [List.take_succ_eq_append_getElem h, List.filter_append]
  by_cases hx : full l[j] = true
  · simp [hx]
  · simp [hx]

set_option maxHeartbeats 1000000 in
set_option maxRecDepth 100000 in
theorem rising_any (l : List (K × K)) (v : Value) (w : World) (hv : RdS w w.heap.size v l) (hl : l.length ≤ 2000000) : Calls Try.prog 63 #[v] w fun e w' =>
    ∃ v' l', e = .returned v' ∧ OwnS w' w.heap.size v' l' ∧ Below w.heap.size w w' ∧ l'.Perm (l.filter full) ∧ l'.Pairwise (fun a b => a.1 ≤ b.1) := by
  obtain ⟨A, c, rfl, hc, hi⟩ := hv
  have HI := Lib.hid hi; clear hi
  obtain ⟨B, hB⟩ : ∃ B, B = w.heap.size := ⟨_, rfl⟩
  rw [← hB] at HI
  have hb0 : Below B w w := Below.refl _ _
  have hB' : B ≤ w.heap.size := by omega
  rw [← hB]
  clear hB
  go_enter Try.func63, Try.ntmps63
  go_wp2
  go_loopw [3, 8] (fun ov i wr => ∃ j : Nat, j ≤ l.length ∧ i = .int .i64 j ∧ Below B w wr ∧ OwnS wr B ov ((l.take j).filter full)) (fun _ i _ => l.length - (intOf i).toNat)
  case atStart => exact ⟨0, Nat.zero_le _, rfl, hb0, OwnS.nil _ _⟩
  case round =>
    obtain ⟨j, hj, rfl, hb, ho⟩ := hrel
    by_cases hlt : j < l.length
    · obtain ⟨b, o, rfl, hbB, h1, h2⟩ := HI.out j l[j] (List.getElem?_eq_getElem hlt)
      have g1 := hb.cell (p := ⟨b, o + j * 2, none⟩) hbB
      have g2 := hb.cell (p := ⟨b, o + j * 2 + 1, none⟩) hbB
      rw [h1] at g1; rw [h2] at g2
      clear h1 h2
      have hst := full_step l j hlt
      have HO := Lib.hid ho; clear ho
      by_cases hx : l[j].2 ≤ l[j].1
      · have hf : full l[j] = false := by simp [full]; grind
        rw [hf, if_neg (by simp), List.append_nil] at hst
        have HS := Lib.hid hst; clear hst hf
        go_wp2_with (go_at_call 46; refine (empty_exact l[j] _).mono ?_; rintro e w1 ⟨rfl, rfl⟩)
        have hz := hb.size
        go_roundw
        case rel => exact ⟨j + 1, by omega, by go_num, (hb.alloc (by omega) _).alloc (by rw [World.size_alloc]; omega) _, by rw [HS.out]; exact (HO.out.alloc _).alloc _⟩
        case measure => simp [intOf]; omega
      · have hf : full l[j] = true := by simp [full]; grind
        rw [hf, if_pos rfl] at hst
        have HS := Lib.hid hst; clear hst hf
        have hz := hb.size
        have hlen : ((l.take j).filter full).length ≤ 2000000 := Nat.le_trans (List.length_filter_le _ _) (by rw [List.length_take]; omega)
        have HL := Lib.hid hlen; clear hlen
        go_wp2_with (first | (go_at_call 46; refine (empty_exact l[j] _).mono ?_; rintro e w1 ⟨rfl, rfl⟩) | (at_builtin; go_must (refine wpList_addS rfl _ _ rfl B u3 _ rfl (((HO.out.alloc _).alloc _).alloc _) ⟨wr.heap.size + 1 + 1, 0, none⟩ 1 [l[j]] rfl ?c1 ?c2 ?c3 ?_); rotate_right; intro A' c' w1 ho1 hg1))
        case c1 => simpa using new_cells ((wr.alloc (.cells #[.string l[j].1, .string l[j].2] 48)).alloc (.cells #[.string l[j].1, .string l[j].2] 48)) l[j] 48
        case c2 => have := HL.out; simp only [List.length_singleton]; omega
        case c3 => simp only [World.size_alloc]; omega
        have hb3 := (((hb.alloc (Nat.le_trans hB' hz) _).alloc (by rw [World.size_alloc]; omega) _).alloc (by simp only [World.size_alloc]; omega) _).grown hg1 (by simp only [World.size_alloc]; omega) (fun k hk => (HO.out.lt k hk).1)
        go_roundw
        case rel => exact ⟨j + 1, by omega, by go_num, hb3, by rw [HS.out]; simpa only [List.length_append, List.length_singleton] using ho1⟩
        case measure => simp [intOf]; omega
    · obtain rfl : j = l.length := by omega
      rw [List.take_length] at ho
      have hlen : (l.filter full).length ≤ 2000000 := Nat.le_trans (List.length_filter_le _ _) hl
      have HO := Lib.hid ho; clear ho
      have hs := sort_any wr B _ _ HO.out hlen
      clear hlen
      go_wp2_with fail
      refine hs.mono ?_
      rintro e w1 ⟨rfl, l', ho1, hg1, hp, hq⟩
      have hb1 := hb.grown hg1 (Nat.le_trans hB' hb.size) (fun k hk => (HO.out.lt k hk).1)
      go_wp2_with fail
      refine bodyPost_ret (v := _) ?_ rfl ⟨_, l', rfl, ho1, hb1, hp, hq⟩
      simp [results, Try.results63, go_sem]
end Go.Proofs.Ytdkdolcocblhkaa

/- The spans that have keys, sorted by where they begin: what span.rising answers. The program's marks sorted. slices.Insert of one mark into a slice of the call's own. slices.Replace: a part of a slice of the call's own, by at most one pair. slices.Replace: the end of a slice. slices.Replace: a part in the midst of a slice, which leaves spare room. slices.Replace: a part in the midst of a slice without spare room. slices.Replace: a part of a slice of the own call, by at most one pair. Joining spans: what span.Join answers. -/
import Derived.Test.YtcmpbhcldaogiaaFaa
import Derived.Test.YtcmpbhcldaogiaaFab
import Derived.Test.YtcmpbhcldaogiaaSort
import Derived.Test.YtcmpbhcldaogiaaSortM
import Derived.Test.YtcmpbhcldaogiaaFac
import Derived.Laws.Externs
import Derived.BigQuiet
import Derived.Deep.QuietTactic
namespace Go.Proofs.Ytcmpbhcldaogiaa
open Go.RowKit Go.Sort
attribute [local go_sem] less_eq same_eq le_eq ge_eq gt_eq

theorem flatK_eq (d : Array (K × K)) : flatK cellsS 2 d = (flat d.toList).toArray := by
  apply Array.ext_getElem?
  intro t
  refine Eq.trans ?_ (show (flat d.toList)[t]? = (flat d.toList).toArray[t]? by simp)
  by_cases ht : t < d.size * 2
  · have hi : t / 2 < d.size := by omega
    have hs : d.toList[t / 2]? = some d[t / 2]! := by rw [Array.getElem?_toList, getElem!_pos d _ hi]; simp [hi]
    have hf := flat_get _ _ _ hs
    have hz : t < (flatK cellsS 2 d).size := by rw [size_flatK]; exact ht
    rw [Array.getElem?_eq_getElem hz]
    have hg := get_flatK cellsS 2 d t ht
    rw [getElem!_pos _ t hz] at hg
    rw [hg]
    rcases Nat.mod_two_eq_zero_or_one t with h | h
    · rw [h]
      rw [show t / 2 * 2 = t by omega] at hf
      rw [hf.1]; rfl
    · rw [h]
      rw [show t / 2 * 2 + 1 = t by omega] at hf
      rw [hf.2]; rfl
  · rw [Array.getElem?_eq_none (by rw [size_flatK]; omega), List.getElem?_eq_none (by rw [flat_length, Array.length_toList]; omega)]

section
variable {w : World} {base g cap : Nat} {l : List (K × K)}
theorem OwnS.holds (h : OwnS w base (.slice (some ⟨g, 0, none⟩) l.length cap) l) : HoldsK cellsS 2 w g 0 l.toArray := by
  unfold HoldsK
  rw [flatK_eq]
  intro j hj
  have hj' : j < l.length * 2 := by simpa [flat_length] using hj
  unfold OwnS at h
  rw [Nat.zero_add, h.cellAt j hj', h.frozenAt]
  refine ⟨?_, rfl⟩
  rw [getElem!_pos _ j hj, List.getElem_toArray, List.getElem?_eq_getElem (by rw [flat_length]; exact hj')]
  rfl

theorem OwnS.sorted (h : OwnS w base (.slice (some ⟨g, 0, none⟩) l.length cap) l) (d : Array (K × K)) (hd : d.size = l.length) (n : Nat) (os : Array Obj) :
    OwnS (grow (putRowK cellsS 2 (Sort.ahead w n) g 0 d) os) base (.slice (some ⟨g, 0, none⟩) l.length cap) d.toList ∧ w.grownBy (grow (putRowK cellsS 2 (Sort.ahead w n) g 0 d) os) (some g) := by
  rcases h.2 with ⟨h', _⟩ | ⟨g', cap', cur, h', hb, hg, hnc, hcm, hcs, htake⟩
  · simp at h'
  · simp only [Value.slice.injEq, Option.some.injEq, Addr.mk.injEq, and_true, true_and] at h'
    obtain ⟨rfl, rfl⟩ := h'
    have hlt : g < w.heap.size := (Array.getElem?_eq_some_iff.1 hg).1
    have hl : d.toList.length = l.length := by simpa using hd
    refine ⟨?_, ⟨rfl, rfl, rfl, by simp [putRowK, putRow, mapBlock, Sort.ahead], fun k hk hne => ?_⟩⟩
    · unfold OwnS
      rw [hl]
      refine ⟨by rw [flat_length, hl], .inr ⟨g, cap, putCells id 0 (flatK cellsS 2 d) cur, rfl, hb, ?_, hnc, hcm, by simpa [putCells] using hcs, ?_⟩⟩
      · rw [heap_grow_old _ _ (by simpa [putRowK, putRow, mapBlock, Sort.ahead] using hlt)]
        simp [putRowK, putRow, mapBlock, Sort.ahead, Array.getElem?_modify, hg, onCells]
      · have hfl : (flat d.toList).length = l.length * 2 := by rw [flat_length, hl]
        apply List.ext_getElem?
        intro j
        have hcur : l.length * 2 ≤ cur.size := by rw [hcs]; exact Nat.mul_le_mul_right _ hnc
        by_cases hj : j < l.length * 2
        · rw [List.getElem?_take_of_lt hj, Array.getElem?_toList, putCells, Array.getElem?_mapIdx, Array.getElem?_eq_getElem (by omega), Option.map_some, size_flatK,
            if_pos ⟨Nat.zero_le _, by omega⟩, flatK_eq, Nat.sub_zero, getElem!_pos _ j (by simpa [hfl] using hj), List.getElem_toArray, List.getElem?_eq_getElem (by omega)]
          rfl
        · rw [List.getElem?_take_eq_none (by omega), List.getElem?_eq_none (by omega)]
    · rw [heap_grow_old _ _ (by simpa [putRowK, putRow, mapBlock, Sort.ahead] using hk)]
      have : g ≠ k := fun e => hne (by rw [e])
      simp [putRowK, putRow, mapBlock, Sort.ahead, Array.getElem?_modify, this]
end

def cmpS (x y : K × K) : Int := cmpKey x.1 y.1
theorem ltS (x y : K × K) : ltOf cmpS x y = decide (x.1 < y.1) := by
  unfold ltOf cmpS cmpKey
  by_cases h1 : x.1 < y.1
  · simp [h1]
  · by_cases h2 : y.1 < x.1 <;> simp [h1, h2]
theorem swoS : SWO (ltOf cmpS) where
  irrefl x := by rw [ltS]; simp; grind
  trans x y z h1 h2 := by rw [ltS] at *; simp at *; grind
  ntrans x y z h1 h2 := by rw [ltS] at *; simp at *; grind

set_option maxHeartbeats 400000 in
theorem less_any (x y : K × K) (W : World) : Calls Try.prog 83 #[.agg #[.string x.1, .string x.2], .agg #[.string y.1, .string y.2]] W fun e w' => e = .returned (.int .i64 (cmpS x y)) ∧ ∃ q os', w' = grow (W.drewN q) os' := by
  have hcon := fun W' => compare_any x.1 y.1 W'
  unfold cmpS
  generalize cmpKey x.1 y.1 = r at hcon ⊢
  go_enter Try.func83, Try.ntmps83
  go_wp2_with (go_at_call 31; refine (hcon _).mono ?_; rintro e w' ⟨rfl, rfl⟩)
  go_ret
  exact ⟨rfl, 0, _, by rw [alloc_eq_grow, alloc_eq_grow, grow_grow]; rfl⟩

/-- the sort of a slice of the call's own -/
theorem sort_any (w : World) (base : Nat) (v : Value) (l : List (K × K)) (h : OwnS w base v l) (hl : l.length ≤ 2000000) :
    Calls Try.prog 82 #[v, .func (.func 83) #[] #[]] w fun e w' => e = .returned (.tuple #[]) ∧
      ∃ l', OwnS w' base v l' ∧ w.grownBy w' v.ownBlock ∧ l'.Perm l ∧ l'.Pairwise (fun a b => a.1 ≤ b.1) := by
  rcases h.form with ⟨rfl, rfl⟩ | ⟨g, cap, rfl, hg, hlt, hc⟩
  · refine (AnyF.slices_SortFunc_none (P := Try.prog) Try.sortSp none 0 _ w).mono ?_
    rintro e w' ⟨he, rfl⟩
    exact ⟨he, [], OwnS.nil _ _, ⟨rfl, rfl, rfl, Nat.le_refl _, fun _ _ _ => rfl⟩, .refl _, .nil⟩
  · have eg : ∀ args w, (callFunc 83 args).run Try.prog w = .ok (.enter 83 args) w := enters_of Try.func83 (by kernel_rfl) rfl
    have hcon := AnyQ.slices_SortFunc (P := Try.prog) Try.sortSp 2 Try.isAgg24 Try.sizeOf24 cellsS (fun _ => rfl) (fun x v hv => by simp [cellsS] at hv; rcases hv with rfl | rfl <;> rfl) cmpS swoS 83 #[] g 0 cap l.toArray w eg
      (fun _ _ _ _ x y => less_any x y _) h.holds hlt (by simp; omega)
    refine hcon.mono ?_
    rintro e w' ⟨he, d', n, os, hp, hs, rfl⟩
    have hd : d'.size = l.length := by simpa using hp.1
    obtain ⟨h1, h2⟩ := h.sorted d' hd n os
    refine ⟨he, d'.toList, h1, h2, ?_, ?_⟩
    · have := hp.2.2
      simpa [hd, Array.extract_eq_self_of_le] using this
    · rw [List.pairwise_iff_getElem]
      intro i j hi hj hij
      have hq := hs i j (Nat.zero_le _) hij (by simpa [hd] using hj)
      rw [ltS, getElem!_pos d' i (by simpa using hi), getElem!_pos d' j (by simpa using hj)] at hq
      have hn : ¬ d'[j].1 < d'[i].1 := by simpa using hq
      have hr : d'[i].1 ≤ d'[j].1 := by grind
      simpa using hr

set_option maxHeartbeats 400000 in
theorem empty_exact (s : K × K) (w : World) : Calls Try.prog 20 #[.agg #[.string s.1, .string s.2]] w fun e w' => e = .returned (.bool (decide (s.2 ≤ s.1))) ∧ w' = w.alloc (.cells #[.string s.1, .string s.2] 24) := by
  go_enter Try.func20, Try.ntmps20
  go_wp2
  go_ret
  exact ⟨rfl, rfl⟩

def full (s : K × K) : Bool := decide (s.1 < s.2)
theorem full_step (l : List (K × K)) (j : Nat) (h : j < l.length) : (l.take (j + 1)).filter full = (l.take j).filter full ++ (if full l[j] then [l[j]] else []) := by
  rw [List.take_succ_eq_append_getElem h, List.filter_append]
  by_cases hx : full l[j] = true
  · simp [hx]
  · simp [hx]

set_option maxHeartbeats 1000000 in
set_option maxRecDepth 100000 in
theorem rising_any (l : List (K × K)) (v : Value) (w : World) (hv : RdS w w.heap.size v l) (hl : l.length ≤ 2000000) : Calls Try.prog 66 #[v] w fun e w' =>
    ∃ v' l', e = .returned v' ∧ OwnS w' w.heap.size v' l' ∧ Below w.heap.size w w' ∧ l'.Perm (l.filter full) ∧ l'.Pairwise (fun a b => a.1 ≤ b.1) := by
  obtain ⟨A, c, rfl, hc, hi⟩ := hv
  have HI := Lib.hid hi; clear hi
  obtain ⟨B, hB⟩ : ∃ B, B = w.heap.size := ⟨_, rfl⟩
  rw [← hB] at HI
  have hb0 : Below B w w := Below.refl _ _
  have hB' : B ≤ w.heap.size := by omega
  rw [← hB]
  clear hB
  go_enter Try.func66, Try.ntmps66
  go_wp2
  go_loopw [3, 8] (fun ov i wr => ∃ j : Nat, j ≤ l.length ∧ i = .int .i64 j ∧ Below B w wr ∧ OwnS wr B ov ((l.take j).filter full)) (fun _ i _ => l.length - (intOf i).toNat)
  case atStart => exact ⟨0, Nat.zero_le _, rfl, hb0, OwnS.nil _ _⟩
  case round =>
    obtain ⟨j, hj, rfl, hb, ho⟩ := hrel
    by_cases hlt : j < l.length
    · obtain ⟨b, o, rfl, hbB, h1, h2⟩ := HI.out j l[j] (List.getElem?_eq_getElem hlt)
      have g1 := hb.cell (p := ⟨b, o + j * 2, none⟩) hbB
      have g2 := hb.cell (p := ⟨b, o + j * 2 + 1, none⟩) hbB
      rw [h1] at g1; rw [h2] at g2
      clear h1 h2
      have hst := full_step l j hlt
      have HO := Lib.hid ho; clear ho
      by_cases hx : l[j].2 ≤ l[j].1
      · have hf : full l[j] = false := by simp [full]; grind
        rw [hf, if_neg (by simp), List.append_nil] at hst
        have HS := Lib.hid hst; clear hst hf
        go_wp2_with (go_at_call 20; refine (empty_exact l[j] _).mono ?_; rintro e w1 ⟨rfl, rfl⟩)
        have hz := hb.size
        go_roundw
        case rel => exact ⟨j + 1, by omega, by go_num, (hb.alloc (by omega) _).alloc (by rw [World.size_alloc]; omega) _, by rw [HS.out]; exact (HO.out.alloc _).alloc _⟩
        case measure => simp [intOf]; omega
      · have hf : full l[j] = true := by simp [full]; grind
        rw [hf, if_pos rfl] at hst
        have HS := Lib.hid hst; clear hst hf
        have hz := hb.size
        have hlen : ((l.take j).filter full).length ≤ 2000000 := Nat.le_trans (List.length_filter_le _ _) (by rw [List.length_take]; omega)
        have HL := Lib.hid hlen; clear hlen
        go_wp2_with (first | (go_at_call 20; refine (empty_exact l[j] _).mono ?_; rintro e w1 ⟨rfl, rfl⟩) | (at_builtin; go_must (refine wpList_addS rfl _ _ rfl B u3 _ rfl (((HO.out.alloc _).alloc _).alloc _) ⟨wr.heap.size + 1 + 1, 0, none⟩ 1 [l[j]] rfl ?c1 ?c2 ?c3 ?_); rotate_right; intro A' c' w1 ho1 hg1))
        case c1 => simpa using new_cells ((wr.alloc (.cells #[.string l[j].1, .string l[j].2] 24)).alloc (.cells #[.string l[j].1, .string l[j].2] 24)) l[j] 24
        case c2 => have := HL.out; simp only [List.length_singleton]; omega
        case c3 => simp only [World.size_alloc]; omega
        have hb3 := (((hb.alloc (Nat.le_trans hB' hz) _).alloc (by rw [World.size_alloc]; omega) _).alloc (by simp only [World.size_alloc]; omega) _).grown hg1 (by simp only [World.size_alloc]; omega) (fun k hk => (HO.out.lt k hk).1)
        go_roundw
        case rel => exact ⟨j + 1, by omega, by go_num, hb3, by rw [HS.out]; simpa only [List.length_append, List.length_singleton] using ho1⟩
        case measure => simp [intOf]; omega
    · obtain rfl : j = l.length := by omega
      rw [List.take_length] at ho
      have hlen : (l.filter full).length ≤ 2000000 := Nat.le_trans (List.length_filter_le _ _) hl
      have HO := Lib.hid ho; clear ho
      have hs := sort_any wr B _ _ HO.out hlen
      clear hlen
      go_wp2_with fail
      refine hs.mono ?_
      rintro e w1 ⟨rfl, l', ho1, hg1, hp, hq⟩
      have hb1 := hb.grown hg1 (Nat.le_trans hB' hb.size) (fun k hk => (HO.out.lt k hk).1)
      go_wp2_with fail
      refine bodyPost_ret (v := _) ?_ rfl ⟨_, l', rfl, ho1, hb1, hp, hq⟩
      simp [results, Try.results66, go_sem]
end Go.Proofs.Ytcmpbhcldaogiaa
namespace Go.Proofs.Ytcmpbhcldaogiaa
open Go.RowKit Go.Sort
attribute [local go_sem] less_eq same_eq le_eq ge_eq gt_eq

theorem flatKW_eq (d : Array Wr) : flatK encW 3 d = (flatG encW d.toList).toArray := by
  apply Array.ext_getElem?
  intro t
  refine Eq.trans ?_ (show (flatG encW d.toList)[t]? = (flatG encW d.toList).toArray[t]? by simp)
  by_cases ht : t < d.size * 3
  · have hi : t / 3 < d.size := by omega
    have hf := flatG_get encW_len d.toList (t / 3) (by simpa using hi) (t % 3) (by omega)
    rw [show t / 3 * 3 + t % 3 = t by omega] at hf
    have hz : t < (flatK encW 3 d).size := by rw [size_flatK]; exact ht
    rw [Array.getElem?_eq_getElem hz]
    have hg := get_flatK encW 3 d t ht
    rw [getElem!_pos _ t hz] at hg
    rw [hg, hf, getElem!_pos d _ hi]
    have h3 : t % 3 < (encW d[t / 3]).length := by rw [encW_len]; omega
    simp only [Array.getElem_toList]
    rw [List.getElem?_eq_getElem h3, getElem!_pos (encW d[t / 3]) (t % 3) h3]
  · rw [Array.getElem?_eq_none (by rw [size_flatK]; omega), List.getElem?_eq_none (by rw [flatG_length encW_len, Array.length_toList]; omega)]

section
variable {w : World} {base g cap : Nat} {l : List Wr}
theorem OwnMk.holds (h : OwnMk w base (.slice (some ⟨g, 0, none⟩) l.length cap) l) : HoldsK encW 3 w g 0 l.toArray := by
  unfold HoldsK
  rw [flatKW_eq]
  intro j hj
  have hj' : j < l.length * 3 := by simpa [flatG_length encW_len] using hj
  unfold OwnMk Own at h
  rw [Nat.zero_add, h.cellAt j hj', h.frozenAt]
  refine ⟨?_, rfl⟩
  rw [getElem!_pos _ j hj, List.getElem_toArray, List.getElem?_eq_getElem (by rw [flatG_length encW_len]; exact hj')]
  rfl

theorem OwnMk.sorted (h : OwnMk w base (.slice (some ⟨g, 0, none⟩) l.length cap) l) (d : Array Wr) (hd : d.size = l.length) (n : Nat) (os : Array Obj) :
    OwnMk (grow (putRowK encW 3 (Sort.ahead w n) g 0 d) os) base (.slice (some ⟨g, 0, none⟩) l.length cap) d.toList ∧ w.grownBy (grow (putRowK encW 3 (Sort.ahead w n) g 0 d) os) (some g) := by
  rcases h.2 with ⟨h', _⟩ | ⟨g', cap', cur, h', hb, hg, hnc, hcm, hcs, htake⟩
  · simp at h'
  · simp only [Value.slice.injEq, Option.some.injEq, Addr.mk.injEq, and_true, true_and] at h'
    obtain ⟨rfl, rfl⟩ := h'
    have hlt : g < w.heap.size := (Array.getElem?_eq_some_iff.1 hg).1
    have hl : d.toList.length = l.length := by simpa using hd
    refine ⟨?_, ⟨rfl, rfl, rfl, by simp [putRowK, putRow, mapBlock, Sort.ahead], fun k hk hne => ?_⟩⟩
    · unfold OwnMk Own
      rw [hl]
      refine ⟨by rw [flatG_length encW_len, hl], .inr ⟨g, cap, putCells id 0 (flatK encW 3 d) cur, rfl, hb, ?_, hnc, hcm, by simpa [putCells] using hcs, ?_⟩⟩
      · rw [heap_grow_old _ _ (by simpa [putRowK, putRow, mapBlock, Sort.ahead] using hlt)]
        simp [putRowK, putRow, mapBlock, Sort.ahead, Array.getElem?_modify, hg, onCells]
      · have hfl : (flatG encW d.toList).length = l.length * 3 := by rw [flatG_length encW_len, hl]
        apply List.ext_getElem?
        intro j
        have hcur : l.length * 3 ≤ cur.size := by rw [hcs]; exact Nat.mul_le_mul_right _ hnc
        by_cases hj : j < l.length * 3
        · rw [List.getElem?_take_of_lt hj, Array.getElem?_toList, putCells, Array.getElem?_mapIdx, Array.getElem?_eq_getElem (by omega), Option.map_some, size_flatK,
            if_pos ⟨Nat.zero_le _, by omega⟩, flatKW_eq, Nat.sub_zero, getElem!_pos _ j (by simpa [hfl] using hj), List.getElem_toArray, List.getElem?_eq_getElem (by omega)]
          rfl
        · rw [List.getElem?_take_eq_none (by omega), List.getElem?_eq_none (by omega)]
    · rw [heap_grow_old _ _ (by simpa [putRowK, putRow, mapBlock, Sort.ahead] using hk)]
      have : g ≠ k := fun e => hne (by rw [e])
      simp [putRowK, putRow, mapBlock, Sort.ahead, Array.getElem?_modify, this]
end

def cmpM (x y : Wr) : Int := cmpKey x.s.1 y.s.1
theorem ltM (x y : Wr) : ltOf cmpM x y = decide (x.s.1 < y.s.1) := by
  unfold ltOf cmpM cmpKey
  by_cases h1 : x.s.1 < y.s.1
  · simp [h1]
  · by_cases h2 : y.s.1 < x.s.1 <;> simp [h1, h2]
theorem swoM : SWO (ltOf cmpM) where
  irrefl x := by rw [ltM]; simp; grind
  trans x y z h1 h2 := by rw [ltM] at *; simp at *; grind
  ntrans x y z h1 h2 := by rw [ltM] at *; simp at *; grind

set_option maxHeartbeats 400000 in
theorem lessM_any (x y : Wr) (W : World) : Calls Try.prog 42 #[.agg #[.string x.s.1, .string x.s.2, .int .i64 x.v], .agg #[.string y.s.1, .string y.s.2, .int .i64 y.v]] W fun e w' => e = .returned (.int .i64 (cmpM x y)) ∧ ∃ q os', w' = grow (W.drewN q) os' := by
  have hcon := fun W' => compare_any x.s.1 y.s.1 W'
  unfold cmpM
  generalize cmpKey x.s.1 y.s.1 = r at hcon ⊢
  go_enter Try.func42, Try.ntmps42
  go_wp2_with (go_at_call 31; refine (hcon _).mono ?_; rintro e w' ⟨rfl, rfl⟩)
  go_ret
  exact ⟨rfl, 0, _, by rw [alloc_eq_grow, alloc_eq_grow, grow_grow]; rfl⟩

/-- the sort of marks of the call's own -/
theorem sortM_any (w : World) (base : Nat) (v : Value) (l : List Wr) (h : OwnMk w base v l) (hl : l.length ≤ 2000000) :
    Calls Try.prog 41 #[v, .func (.func 42) #[] #[]] w fun e w' => e = .returned (.tuple #[]) ∧
      ∃ l', OwnMk w' base v l' ∧ w.grownBy w' v.ownBlock ∧ l.Perm l' ∧ l'.Pairwise (fun a c => ¬ c.s.1 < a.s.1) := by
  rcases h.form with ⟨rfl, rfl⟩ | ⟨g, cap, rfl, hg, hlt, hc⟩
  · refine (AnyF.slices_SortFunc_none (P := Try.prog) Try.sortMk none 0 _ w).mono ?_
    rintro e w' ⟨he, rfl⟩
    exact ⟨he, [], Own.nil _ _, ⟨rfl, rfl, rfl, Nat.le_refl _, fun _ _ _ => rfl⟩, .refl _, .nil⟩
  · have eg : ∀ args w, (callFunc 42 args).run Try.prog w = .ok (.enter 42 args) w := enters_of Try.func42 (by kernel_rfl) rfl
    have hcon := AnyQ.slices_SortFunc (P := Try.prog) Try.sortMk 3 Try.isAgg60 Try.sizeOf60 encW (fun _ => rfl) (fun x v hv => by simp [encW] at hv; rcases hv with rfl | rfl | rfl <;> rfl) cmpM swoM 42 #[] g 0 cap l.toArray w eg
      (fun _ _ _ _ x y => lessM_any x y _) h.holds hlt (by simp; omega)
    refine hcon.mono ?_
    rintro e w' ⟨he, d', n, os, hp, hs, rfl⟩
    have hd : d'.size = l.length := by simpa using hp.1
    obtain ⟨h1, h2⟩ := h.sorted d' hd n os
    refine ⟨he, d'.toList, h1, h2, ?_, ?_⟩
    · have := hp.2.2
      exact (show d'.toList.Perm l by simpa [hd, Array.extract_eq_self_of_le] using this).symm
    · rw [List.pairwise_iff_getElem]
      intro i j hi hj hij
      have hq := hs i j (Nat.zero_le _) hij (by simpa [hd] using hj)
      rw [ltM, getElem!_pos d' i (by simpa using hi), getElem!_pos d' j (by simpa using hj)] at hq
      have hn : ¬ d'[j].s.1 < d'[i].s.1 := by simpa using hq
      simpa using hn
end Go.Proofs.Ytcmpbhcldaogiaa
namespace Go.Proofs.Ytcmpbhcldaogiaa
open Go.RowKit

theorem insert_cells {cur A B X Y : List Value} (h : cur.take (A.length + B.length) = A ++ B) (hl : A.length + X.length + B.length ≤ cur.length) (hY : Y = splice cur (A.length + X.length) B) :
    (splice Y A.length X).take (A.length + X.length + B.length) = A ++ X ++ B := by
  have hA : cur.take A.length = A := by
    have := congrArg (List.take A.length) h
    rw [List.take_take, List.take_left, Nat.min_eq_left (by omega)] at this
    exact this
  have hYl : Y.length = cur.length := by rw [hY, length_splice _ _ _ (by omega)]
  have h1 : (splice Y A.length X).take (A.length + X.length) = A ++ X := by
    rw [take_splice_end Y X A.length _ (by omega) rfl, hY, take_splice_lt cur B _ _ (by omega) (by omega), hA]
  have h2 : (splice Y A.length X).drop (A.length + X.length) = B ++ cur.drop (A.length + X.length + B.length) := by
    rw [drop_splice_ge Y X A.length _ (Nat.le_refl _) (by omega), hY]
    unfold splice
    rw [List.drop_append, List.drop_eq_nil_of_le (by simp; omega), List.nil_append, show A.length + X.length - (cur.take (A.length + X.length)).length = 0 by simp; omega, List.drop_zero]
  have h3 : splice Y A.length X = (A ++ X ++ B) ++ cur.drop (A.length + X.length + B.length) := by
    rw [← List.take_append_drop (A.length + X.length) (splice Y A.length X), h1, h2, List.append_assoc (A ++ X)]
  rw [h3]
  exact List.take_left' (by simp only [List.length_append])

theorem overlaps_apart {w : World} {g vb : Nat} {cur cs : List Value} {o la ca lb cb : Nat} (hg : Whole w g 60 cur) (hv : Whole w vb 60 cs) (hne : vb ≠ g) (hc : cur.length ≠ 0) :
    (callFunc 57 #[.slice (some ⟨vb, 0, none⟩) la ca, .slice (some ⟨g, o, none⟩) lb cb]).run Try.prog w = .ok (.value (.bool false)) w := by
  rw [run_callFunc_extern Try.func57 (by kernel_rfl) (by kernel_rfl) (by kernel_rfl) (e := Extern.SlicesOverlaps.overlaps #[49, 49] #[4]) (by kernel_rfl),
    Lib.run_overlaps_apart w 49 4 60 Try.underlying49 3 Try.sizeOf60 ⟨vb, 0, none⟩ ⟨g, o, none⟩ la ca lb cb hne _ _ _ _ hv.shape hg.shape hc (hv.frozen 0) (hv.frozen _)]
  rfl

set_option maxHeartbeats 4000000 in
set_option maxRecDepth 100000 in
theorem insert_shift (l : List Wr) (i : Nat) (x : Wr) (w : World) (g cap vb : Nat) (cur vcur : List Value) (vc : Nat) (hg : Whole w g 60 cur) (hv : Whole w vb 60 vcur) (hvx : ∀ (j : Nat) (v : Value), (encW x)[j]? = some v → vcur[j]? = some v) (hne : vb ≠ g) (hi : i < l.length) (hroom : l.length + 1 ≤ cap)
    (hcap : cap ≤ maxLen) (hcl : cur.length = cap * 3) (htk : cur.take (l.length * 3) = flatG encW l) :
    Calls Try.prog 56 #[.slice (some ⟨g, 0, none⟩) l.length cap, .int .i64 i, .slice (some ⟨vb, 0, none⟩) 1 vc] w fun e w' =>
      e = .returned (.slice (some ⟨g, 0, none⟩) (l.length + 1) cap) ∧ ∃ cur', Whole w' g 60 cur' ∧ cur'.length = cap * 3 ∧ cur'.take ((l.length + 1) * 3) = flatG encW (l.take i ++ [x] ++ l.drop i) ∧ w.grownBy w' (some g) := by
  have hov := fun lb cb => overlaps_apart (o := (i + 1) * 3) (la := 1) (ca := vc) (lb := lb) (cb := cb) hg hv hne (by omega)
  generalize hn : l.length = n at *
  unfold maxLen at hcap
  have hw1 : IntKind.i64.wrap ((i : Int) + 1) = (i : Int) + 1 := by rw [IntKind.wrap_i64]; omega
  have hw2 : IntKind.i64.wrap ((n : Int) + 1) = (n : Int) + 1 := by rw [IntKind.wrap_i64]; omega
  have hb1 : ¬ ((i : Int) = (n : Int)) := by omega
  have hb2 : ¬ ((cap : Int) < (n : Int) + 1) := by omega
  have hb3 : (i : Int) ≤ (n : Int) := by omega
  have hb4 : (i : Int) + 1 ≤ (n : Int) + 1 := by omega
  have hb5 : (n : Int) + 1 ≤ (cap : Int) := by omega
  have hb6 : (0 : Int) ≤ (i : Int) + 1 := by omega
  have hb7 : ¬ (cap = i) := by omega
  have hb8 : ¬ (cap = i + 1) := by omega
  have hb9 : (i : Int) ≤ (n : Int) + 1 := by omega
  have HG := Lib.hid hg; clear hg
  have HV := Lib.hid hv; clear hv
  have HVX := Lib.hid hvx; clear hvx
  have HN := Lib.hid hn; clear hn
  have HT := Lib.hid htk; clear htk
  have HL := Lib.hid hcl; clear hcl
  go_enter Try.func56, Try.ntmps56
  go_wp2_with fail
  refine wp_region_plan (S := fun _ => True) [(true, 0), (true, 1), (true, 2), (true, 3), (true, 4), (true, 5), (true, 6), (true, 7), (false, 8)] (by kernel_rfl) (by kernel_rfl) (fun _ _ d _ _ h => by cases d <;> exact h) trivial ?_
  repeat (refine Plan.take (v := ?_) rfl rfl ?_ ?_; rotate_left; (focus (intro W hW; go_simp; (try with_reducible rfl); done)); (try simp only [Act.put, List.setIfInBounds_toArray, List.set_cons_zero, List.set_cons_succ]))
  have eA : (l.take i).length = i := by rw [List.length_take, HN.out]; omega
  have eB : (l.drop i).length = n - i := by rw [List.length_drop, HN.out]
  have eX : (encW x).length = 3 := rfl
  have fA : (flatG encW (l.take i)).length = i * 3 := by rw [flatG_length encW_len, eA]
  have fB : (flatG encW (l.drop i)).length = (n - i) * 3 := by rw [flatG_length encW_len, eB]
  have hcut : flatG encW l = flatG encW (l.take i) ++ flatG encW (l.drop i) := by rw [← flatG_append, List.take_append_drop]
  have HA := Lib.hid fA; clear fA
  have HB := Lib.hid fB; clear fB
  have HC := Lib.hid hcut; clear hcut
  clear eA eB eX
  refine Plan.step rfl rfl fun K2 hK => ?_
  refine wp_copyP _ _ rfl g ((i + 1) * 3) cur (flatG encW (l.drop i)) _ _ _ _ _ _ rfl rfl HG.out.drew ?_ (fun _ => rfl) (Srcs.of (HG.out.drew.srcs (i * 3) _ ?_)) ?_ (encW_one' _) ?_
  · rw [HB.out, show (n + 1 - i).min (n - i) = n - i from Nat.min_eq_right (by omega)]
  · rw [← HA.out]
    exact cells_at (n := n * 3) (by rw [HT.out, HC.out])
  · rw [HB.out, HL.out]; omega
  intro w2 hm2
  refine hK _ _ trivial ?_
  simp only [Plan]
  clear hK
  have hv2 : Whole w2 vb 60 vcur := hm2.out.away HV.out.drew hne
  have HV2 := Lib.hid hv2; clear hv2
  obtain ⟨Y, hY⟩ : ∃ Y, Y = splice cur ((i + 1) * 3) (flatG encW (l.drop i)) := ⟨_, rfl⟩
  rw [← hY] at hm2
  have hYl : Y.length = cap * 3 := by rw [hY, length_splice _ _ _ (by rw [HB.out, HL.out]; omega), HL.out]
  have HY := Lib.hid hY; clear hY
  have HYL := Lib.hid hYl; clear hYl
  go_wp2_with (with_reducible show wpList _ _ _ (⟨some 82, _, _, _, _, _⟩ :: _) _ _; go_must (refine wpList_copyP rfl _ _ rfl g (i * 3) Y (encW x) _ _ _ _ _ _ rfl rfl hm2.out.whole ?c1 (fun _ => rfl) (Srcs.of ?c2) ?c3 (encW_one x) ?_))
  case c1 => rw [show Nat.min 1 (n + 1 - i) = 1 from Nat.min_eq_left (by omega)]; rfl
  case c2 => exact HV2.out.srcs 0 _ (fun j v hj => by rw [Nat.zero_add]; exact HVX.out j v hj)
  case c3 => rw [HYL.out]; show i * 3 + 3 ≤ _; omega
  intro w3 hm3
  go_wp2_with fail
  go_ret
  refine ⟨rfl, _, hm3.out.whole, ?_, ?_, ?_⟩
  · rw [length_splice _ _ _ (by rw [HYL.out]; show i * 3 + 3 ≤ _; omega), HYL.out]
  · have h := insert_cells (cur := cur) (A := flatG encW (l.take i)) (B := flatG encW (l.drop i)) (X := encW x) (Y := Y) (by rw [HA.out, HB.out, show i * 3 + (n - i) * 3 = n * 3 by omega, HT.out, HC.out]) (by rw [HA.out, HB.out, HL.out]; show i * 3 + 3 + _ ≤ _; omega) (by rw [HY.out, HA.out, show (i + 1) * 3 = i * 3 + (encW x).length by show _ = i * 3 + 3; omega])
    rw [HA.out, HB.out, show i * 3 + (encW x).length + (n - i) * 3 = (n + 1) * 3 by show i * 3 + 3 + _ = _; omega] at h
    rw [h, flatG_append, flatG_append]
    simp [flatG]
  · have h1 := hm2.out.grown
    have h2 := hm3.out.grown
    exact ⟨h2.os.trans h1.os, h2.tape.trans h1.tape, h2.output.trans h1.output, Nat.le_trans h1.size h2.size, fun k hk hn => (h2.block k (Nat.lt_of_lt_of_le hk h1.size) hn).trans (h1.block k hk hn)⟩

theorem grown_undrew {w w' : World} {row : Option Nat} (h : w.drew.grownBy w' row) : w.grownBy w' row := ⟨h.os, h.tape, h.output, h.size, h.block⟩
theorem grown_trans {a b c : World} {row : Option Nat} (h1 : a.grownBy b row) (h2 : b.grownBy c row) : a.grownBy c row :=
  ⟨h2.os.trans h1.os, h2.tape.trans h1.tape, h2.output.trans h1.output, Nat.le_trans h1.size h2.size, fun k hk hn => (h2.block k (Nat.lt_of_lt_of_le hk h1.size) hn).trans (h1.block k hk hn)⟩
theorem grown_new {a b c : World} {g : Nat} (h1 : a.grownBy b none) (h2 : b.grownBy c (some g)) (hg : a.heap.size ≤ g) : a.grownBy c none :=
  ⟨h2.os.trans h1.os, h2.tape.trans h1.tape, h2.output.trans h1.output, Nat.le_trans h1.size h2.size, fun k hk _ => (h2.block k (Nat.lt_of_lt_of_le hk h1.size) (by simp; omega)).trans (h1.block k hk (by simp))⟩

set_option maxHeartbeats 4000000 in
set_option maxRecDepth 100000 in
theorem insert_grow (l : List Wr) (i : Nat) (x : Wr) (w : World) (g cap vb : Nat) (cur vcur : List Value) (vc : Nat) (hg : Whole w g 60 cur) (hv : Whole w vb 60 vcur) (hvx : ∀ (j : Nat) (v : Value), (encW x)[j]? = some v → vcur[j]? = some v) (hi : i < l.length) (hroom : cap < l.length + 1)
    (hcap : l.length ≤ cap) (hcl : cur.length = cap * 3) (htk : cur.take (l.length * 3) = flatG encW l) (hlen : l.length + 1 ≤ 2000000) :
    Calls Try.prog 56 #[.slice (some ⟨g, 0, none⟩) l.length cap, .int .i64 i, .slice (some ⟨vb, 0, none⟩) 1 vc] w fun e w' =>
      ∃ c, e = .returned (.slice (some ⟨w.heap.size, 0, none⟩) (l.length + 1) c) ∧ ∃ cur', Whole w' w.heap.size 60 cur' ∧ cur'.length = c * 3 ∧ l.length + 1 ≤ c ∧ c ≤ maxLen ∧ cur'.take ((l.length + 1) * 3) = flatG encW (l.take i ++ [x] ++ l.drop i) ∧ w.grownBy w' none := by
  generalize hn : l.length = n at *
  obtain rfl : cap = n := by omega
  obtain ⟨d, hd⟩ : ∃ d, cap + 1 = i + d := ⟨cap + 1 - i, by omega⟩
  have hw1 : IntKind.i64.wrap ((i : Int) + 1) = (i : Int) + 1 := by rw [IntKind.wrap_i64]; omega
  have hw2 : IntKind.i64.wrap ((cap : Int) + 1) = (cap : Int) + 1 := by rw [IntKind.wrap_i64]; omega
  have hw3 : IntKind.i64.wrap ((cap : Int) + 1 - (i : Int)) = (d : Int) := by rw [IntKind.wrap_i64]; omega
  have hb1 : ¬ ((i : Int) = (cap : Int)) := by omega
  have hb2 : ((cap : Int) < (cap : Int) + 1) := by omega
  have hb3 : (i : Int) ≤ (cap : Int) := by omega
  have hb4 : (i : Int) ≤ (i : Int) + (d : Int) := by omega
  have hb5 : (i : Int) + 1 ≤ (i : Int) + (d : Int) := by omega
  have hb6 : (0 : Int) ≤ (i : Int) + 1 := by omega
  have hb7 : ¬ (cap = i) := by omega
  have hvlt := hv.size
  have hglt := hg.size
  have eA : (l.take i).length = i := by rw [List.length_take, hn]; omega
  have eB : (l.drop i).length = cap - i := by rw [List.length_drop, hn]
  have fA : (flatG encW (l.take i)).length = i * 3 := by rw [flatG_length encW_len, eA]
  have fB : (flatG encW (l.drop i)).length = (cap - i) * 3 := by rw [flatG_length encW_len, eB]
  have hcut : cur.take (cap * 3) = flatG encW (l.take i) ++ flatG encW (l.drop i) := by rw [htk, ← flatG_append, List.take_append_drop]
  have HA := Lib.hid fA; clear fA
  have HB := Lib.hid fB; clear fB
  have HC := Lib.hid hcut; clear hcut
  clear eA eB htk
  have HG := Lib.hid hg; clear hg
  have HV := Lib.hid hv; clear hv
  have HVX := Lib.hid hvx; clear hvx
  have HN := Lib.hid hn; clear hn
  have HL := Lib.hid hcl; clear hcl
  have HD := Lib.hid hd; clear hd
  go_enter Try.func56, Try.ntmps56
  go_wp2_with (with_reducible show wpList _ _ _ (⟨some 40, _, _, _, _, _⟩ :: _) _ _; go_must (refine wpList_zerosP rfl _ _ rfl (some ⟨g, 0, none⟩) i cap d (flatG encW (l.take i)) rfl rfl HA.out (Srcs.of ?c1) ?c2 ?c3 ?c4 ?_))
  case c1 =>
    have h := congrArg (List.take (i * 3)) HC.out
    rw [List.take_take, Nat.min_eq_left (by omega), ← HA.out, List.take_left] at h
    have h2 := cells_at (A := []) (B := flatG encW (l.take i)) (cur := cur) h
    exact HG.out.srcs 0 _ h2
  case c2 => have := HD.out; omega
  case c3 => have := HD.out; omega
  case c4 => have := HD.out; omega
  intro w1 c cur1 hz hc
  have hc1 : ¬ (c = i) := by have := HD.out; omega
  have hc2 : ¬ (c = i + 1) := by have := HD.out; omega
  have hv1 : Whole w1 vb 60 vcur := HV.out.grown hz.out.2.2.2.2.2.1 (by simp)
  have hg1 : Whole w1 g 60 cur := HG.out.grown hz.out.2.2.2.2.2.1 (by simp)
  have HV1 := Lib.hid hv1; clear hv1
  have HG1 := Lib.hid hg1; clear hg1
  clear hc
  go_wp2_with (with_reducible show wpList _ _ _ (⟨some 45, _, _, _, _, _⟩ :: _) _ _; go_must (refine wpList_copyP rfl _ _ rfl w.heap.size (i * 3) cur1 (encW x) _ _ _ _ _ _ rfl rfl hz.out.1 ?d1 (fun _ => rfl) (Srcs.of ?d2) ?d3 (encW_one x) ?_))
  case d1 => rw [show Nat.min 1 d = 1 from Nat.min_eq_left (by have := HD.out; omega)]; rfl
  case d2 => exact HV1.out.srcs 0 _ (fun j v hj => by rw [Nat.zero_add]; exact HVX.out j v hj)
  case d3 => rw [hz.out.2.1]; show i * 3 + 3 ≤ _; have := hz.out.2.2.2.1; have := HD.out; omega
  intro w2 hm2
  obtain ⟨Y, hY⟩ : ∃ Y, Y = splice cur1 (i * 3) (encW x) := ⟨_, rfl⟩
  rw [← hY] at hm2
  have hX2 : (encW x).length = 3 := rfl
  have hYl : Y.length = c * 3 := by rw [hY, length_splice _ _ _ (by rw [hX2, hz.out.2.1]; have := hz.out.2.2.2.1; have := HD.out; omega), hz.out.2.1]
  have hYt : Y.take ((i + 1) * 3) = flatG encW (l.take i) ++ encW x := by
    rw [hY, take_splice_end cur1 _ (i * 3) _ (by rw [hz.out.2.1]; have := hz.out.2.2.2.1; omega) (by rw [hX2]; omega), hz.out.2.2.1]
  have hg2 : Whole w2 g 60 cur := HG1.out.grown hm2.out.grown (by simp; omega)
  have HG2 := Lib.hid hg2; clear hg2
  have HYL := Lib.hid hYl; clear hYl
  have HYT := Lib.hid hYt; clear hYt
  have HX2 := Lib.hid hX2; clear hX2
  clear hY
  go_wp2_with fail
  refine wp_region_plan (S := fun _ => True) [(true, 0), (true, 1), (true, 2), (true, 3), (true, 4), (true, 5), (true, 6), (true, 7), (false, 8)] (by kernel_rfl) (by kernel_rfl) (fun _ _ d _ _ h => by cases d <;> exact h) trivial ?_
  repeat (refine Plan.take (v := ?_) rfl rfl ?_ ?_; rotate_left; (focus (intro W hW; go_simp; (try with_reducible rfl); done)); (try simp only [Act.put, List.setIfInBounds_toArray, List.set_cons_zero, List.set_cons_succ]))
  refine Plan.step rfl rfl fun K2 hK => ?_
  refine wp_copyP _ _ rfl w.heap.size ((i + 1) * 3) Y (flatG encW (l.drop i)) _ _ _ _ _ _ rfl rfl hm2.out.whole.drew ?_ (fun _ => rfl) (Srcs.of (HG2.out.drew.srcs (i * 3) _ ?_)) ?_ (encW_one' _) ?_
  · rw [HB.out, show Nat.min (cap - i) (i + d - (i + 1)) = cap - i from Nat.min_eq_left (by have := HD.out; omega)]
  · rw [← HA.out]
    exact cells_at (n := cap * 3) HC.out
  · rw [HB.out, HYL.out]; have := hz.out.2.2.2.1; have := HD.out; omega
  intro w3 hm3
  refine hK _ _ trivial ?_
  simp only [Plan]
  clear hK
  go_wp2_with fail
  go_ret
  refine ⟨c, ?_, _, hm3.out.whole, ?_, ?_, hz.out.2.2.2.2.1, ?_, ?_⟩
  · rw [HD.out]; rfl
  · rw [length_splice _ _ _ (by rw [HB.out, HYL.out]; have := hz.out.2.2.2.1; have := HD.out; omega), HYL.out]
  · have := hz.out.2.2.2.1; have := HD.out; omega
  · rw [take_splice_end Y _ ((i + 1) * 3) _ (by rw [HYL.out]; have := hz.out.2.2.2.1; have := HD.out; omega) (by rw [HB.out]; omega), HYT.out, flatG_append, flatG_append]
    simp [flatG]
  · exact grown_new (grown_new hz.out.2.2.2.2.2.1 hm2.out.grown (Nat.le_refl _)) (grown_undrew hm3.out.grown) (Nat.le_refl _)

theorem newRow_new (w : World) (o : Option Nat) (n c : Nat) : NewRow w o (Value.ownBlock (.slice (some ⟨w.heap.size, 0, none⟩) n c)) := fun g' hg' => .inr (by
  have e : w.heap.size = g' := by simpa [Value.ownBlock] using hg'
  rw [e]
  exact Nat.le_refl _)
/-- what is put in, in a block of its own -/
def SrcK (w : World) (v : Value) (p : List Wr) (vp : Value) : Prop :=
  ∃ vb vc vcur, vp = .slice (some ⟨vb, 0, none⟩) p.length vc ∧ p.length ≤ vc ∧ Whole w vb 60 vcur ∧ vcur.take (p.length * 3) = flatG encW p ∧ some vb ≠ v.ownBlock
theorem src_cells {vcur : List Value} {p : List Wr} (h : vcur.take (p.length * 3) = flatG encW p) (j : Nat) (v : Value) (hj : (flatG encW p)[j]? = some v) : vcur[j]? = some v := by
  have := cells_at (A := []) (B := flatG encW p) (cur := vcur) h j v hj
  simpa using this

theorem Own.slice {α : Type} {enc : α → List Value} {k : Nat} {e : TypeId} {w : World} {base : Nat} {v : Value} {l : List α} (h : Own enc k e w base v l) : ∃ A c, v = .slice A l.length c ∧ l.length ≤ c ∧ c ≤ maxLen := by
  rcases h.row with ⟨rfl, rfl⟩ | ⟨g, cap, cur, rfl, _, _, h1, h2, _⟩
  · exact ⟨none, 0, rfl, Nat.le_refl _, by simp [maxLen]⟩
  · exact ⟨_, _, rfl, h1, h2⟩
theorem SrcK.rd {w : World} {v vp : Value} {p : List Wr} (h : SrcK w v p vp) : RdW w w.heap.size vp p := by
  obtain ⟨vb, vc, vcur, rfl, h1, h2, h3, h4⟩ := h
  refine ⟨_, vc, rfl, h1, fun i hi => ⟨vb, 0, rfl, h2.size, fun j u hu => ?_⟩⟩
  have hj : j < 3 := by
    rcases Nat.lt_or_ge j 3 with h' | h'
    · exact h'
    · rw [List.getElem?_eq_none (by rw [encW_len]; exact h')] at hu; cases hu
  refine h2.cell _ _ (src_cells h3 _ _ ?_)
  rw [Nat.zero_add, flatG_get encW_len p i hi j hj]
  exact hu

set_option maxHeartbeats 4000000 in
set_option maxRecDepth 100000 in
theorem insert_end (l : List Wr) (x : Wr) (v vp : Value) (w : World) (base : Nat) (hown : OwnMk w base v l) (hbase : base ≤ w.heap.size) (hv : SrcK w v [x] vp) (hlen : l.length + 1 ≤ 1000000) :
    Calls Try.prog 56 #[v, .int .i64 l.length, vp] w fun e w' =>
      ∃ A' c', e = .returned (.slice A' (l ++ [x]).length c') ∧ OwnMk w' base (.slice A' (l ++ [x]).length c') (l ++ [x]) ∧ w.grownBy w' v.ownBlock ∧ NewRow w v.ownBlock (Value.ownBlock (.slice A' (l ++ [x]).length c')) := by
  obtain ⟨A, c, rfl, hc, hcm⟩ := hown.slice
  have HR := Lib.hid hv.rd
  obtain ⟨vb, vc, vcur, rfl, _⟩ := hv
  have HO := Lib.hid hown; clear hown
  have hb0 : (0 : Int) ≤ (l.length : Int) := by omega
  go_enter Try.func56, Try.ntmps56
  obtain ⟨i0, hi, hz0, hz1, hz2⟩ := info_mkE
  simp only [List.length_cons, List.length_nil] at HR ⊢
  go_wp2_with (at_builtin; go_must (refine BigFrame.wpList_want rfl fun K2 hK => ?_; refine wp_addAnyN (enc := encW) (k := 3) 49 60 40 i0 _ Try.underlying49 hi hz0 hz1 hz2 rfl (by decide) encW_len encW_one _ _ rfl base _ l rfl HO.out w.heap.size _ [x] rfl HR.out (by unfold maxLen; simp; omega) (by simp; omega) hbase ?_))
  all_goals
    intro A' c' w1 h1 h2 h3
    have HO1 := Lib.hid h1; clear h1
    have HG1 := Lib.hid h2; clear h2
    have HN1 := Lib.hid h3; clear h3
    refine hK _ _ ?_
    clear hK
    go_wp2_with fail
    go_ret
    rw [show (l ++ [x]).length = l.length + 1 by simp]
    exact ⟨A', c', rfl, HO1.out, by cases A <;> exact HG1.out, by cases A <;> exact HN1.out⟩

theorem sinsert_any (l : List Wr) (i : Nat) (hi : i ≤ l.length) (x : Wr) (v vp : Value) (w : World) (base : Nat) (hown : OwnMk w base v l) (hbase : base ≤ w.heap.size) (hp : SrcK w v [x] vp) (hlen : l.length + 1 ≤ 1000000) :
    Calls Try.prog 56 #[v, .int .i64 i, vp] w fun e w' =>
      ∃ A' c', e = .returned (.slice A' (l.take i ++ [x] ++ l.drop i).length c') ∧ OwnMk w' base (.slice A' (l.take i ++ [x] ++ l.drop i).length c') (l.take i ++ [x] ++ l.drop i) ∧ w.grownBy w' v.ownBlock ∧ NewRow w v.ownBlock (Value.ownBlock (.slice A' (l.take i ++ [x] ++ l.drop i).length c')) := by
  by_cases he : i = l.length
  · subst he
    rw [List.take_length, List.drop_length, List.append_nil]
    exact insert_end l x v vp w base hown hbase hp hlen
  · have hlt : i < l.length := by omega
    have hL : (l.take i ++ [x] ++ l.drop i).length = l.length + 1 := by simp; omega
    obtain ⟨vb, vc, vcur, rfl, _, hv, hvx, hne⟩ := hp
    have hvx' := src_cells hvx
    rw [show flatG encW [x] = encW x by simp [flatG]] at hvx'
    rcases hown.row with ⟨rfl, rfl⟩ | ⟨g, cap, cur, rfl, hbg, hg, h1, h2, h3, h4⟩
    · simp at hlt
    · have hvg : vb ≠ g := fun e => hne (by rw [e]; rfl)
      by_cases hroom : l.length + 1 ≤ cap
      · refine (insert_shift l i x w g cap vb cur vcur vc hg hv hvx' hvg hlt hroom h2 h3 h4).mono ?_
        rintro e w' ⟨rfl, cur', k1, k2, k3, k4⟩
        exact ⟨some ⟨g, 0, none⟩, cap, by rw [hL], Own.ofRow encW_len _ hbg k1 (by rw [hL]; exact hroom) h2 k2 (by rw [hL]; exact k3), k4, fun g' hg' => .inl hg'⟩
      · refine (insert_grow l i x w g cap vb cur vcur vc hg hv hvx' hlt (by omega) h1 h3 h4 (by omega)).mono ?_
        rintro e w' ⟨c, rfl, cur', k1, k2, k3, k4, k5, k6⟩
        exact ⟨some ⟨w.heap.size, 0, none⟩, c, by rw [hL], Own.ofRow encW_len _ hbase k1 (by rw [hL]; exact k3) k4 k2 (by rw [hL]; exact k5), ⟨k6.os, k6.tape, k6.output, k6.size, fun k hk _ => k6.block k hk (by simp)⟩, newRow_new _ _ _ _⟩
end Go.Proofs.Ytcmpbhcldaogiaa
namespace Go.Proofs.Ytcmpbhcldaogiaa
open Go.RowKit

theorem grown_drew (w : World) (row : Option Nat) : w.grownBy w.drew row := ⟨rfl, rfl, rfl, Nat.le_refl _, fun _ _ _ => rfl⟩

set_option maxHeartbeats 8000000 in
set_option maxRecDepth 100000 in
theorem replace_same (l : List Wr) (i : Nat) (hi : i ≤ l.length) (x : Wr) (v vp : Value) (w : World) (base : Nat) (hown : OwnMk w base v l) (hbase : base ≤ w.heap.size) (hp : SrcK w v [x] vp) (hlen : l.length + 1 ≤ 1000000) :
    Calls Try.prog 43 #[v, .int .i64 i, .int .i64 i, vp] w fun e w' =>
      ∃ A' c', e = .returned (.slice A' (l.take i ++ [x] ++ l.drop i).length c') ∧ OwnMk w' base (.slice A' (l.take i ++ [x] ++ l.drop i).length c') (l.take i ++ [x] ++ l.drop i) ∧ w.grownBy w' v.ownBlock ∧ NewRow w v.ownBlock (Value.ownBlock (.slice A' (l.take i ++ [x] ++ l.drop i).length c')) := by
  have hcon := sinsert_any l i hi x v vp w base hown hbase hp hlen
  obtain ⟨A, c, rfl, hc, hcm⟩ := hown.slice
  obtain ⟨L, hL⟩ : ∃ L, L = l.take i ++ [x] ++ l.drop i := ⟨_, rfl⟩
  rw [← hL] at hcon ⊢
  generalize L.length = z at hcon ⊢
  generalize (Value.slice A l.length c).ownBlock = row at hcon ⊢
  obtain ⟨vb, vc, vcur, rfl, _⟩ := hp
  clear hown hL
  have HC := Lib.hid hcon; clear hcon
  have hb0 : (i : Int) ≤ (c : Int) := by omega
  simp only [List.length_cons, List.length_nil] at HC ⊢
  generalize l.length = n at *
  by_cases hci : c = i
  · subst hci
    go_enter Try.func43, Try.ntmps43
    go_wp2_with fail
    refine HC.out.mono ?_
    rintro e w1 ⟨A', c', rfl, h1, h2, h3⟩
    have HO1 := Lib.hid h1; clear h1
    have HG1 := Lib.hid h2; clear h2
    have HN1 := Lib.hid h3; clear h3
    go_wp2_with fail
    go_ret
    exact ⟨A', c', rfl, HO1.out, HG1.out, HN1.out⟩
  · go_enter Try.func43, Try.ntmps43
    go_wp2_with fail
    refine HC.out.mono ?_
    rintro e w1 ⟨A', c', rfl, h1, h2, h3⟩
    have HO1 := Lib.hid h1; clear h1
    have HG1 := Lib.hid h2; clear h2
    have HN1 := Lib.hid h3; clear h3
    go_wp2_with fail
    go_ret
    exact ⟨A', c', rfl, HO1.out, HG1.out, HN1.out⟩
end Go.Proofs.Ytcmpbhcldaogiaa
namespace Go.Proofs.Ytcmpbhcldaogiaa
open Go.RowKit

set_option maxHeartbeats 8000000 in
set_option maxRecDepth 100000 in
theorem replace_endLt (i n m cap mc g : Nat) (sp : Option Addr) (cur cs : List Value) (w : World) (hg : Whole w g 60 cur) (hcs : cs.length = m * 3) (hs : Srcs w sp cs) (h1 : ∀ v ∈ cs, v.oneCell' = true) (hin : i < n) (hnc : n ≤ cap) (_hcm : cap ≤ maxLen) (hcl : cur.length = cap * 3) (hlt : i + m < n) :
    Calls Try.prog 43 #[.slice (some ⟨g, 0, none⟩) n cap, .int .i64 i, .int .i64 n, .slice sp m mc] w fun e w' =>
      e = .returned (.slice (some ⟨g, 0, none⟩) (i + m) cap) ∧ ∃ cur', Whole w' g 60 cur' ∧ cur'.length = cap * 3 ∧ cur'.take ((i + m) * 3) = cur.take (i * 3) ++ cs ∧ w.grownBy w' (some g) := by
  unfold maxLen at _hcm
  have hb0 : (i : Int) ≤ (n : Int) := by omega
  have hb1 : (n : Int) ≤ (cap : Int) := by omega
  have hb2 : ¬ ((i : Int) = (n : Int)) := by omega
  have hb3 : (i : Int) ≤ (cap : Int) := by omega
  have hb7 : ¬ (cap = i) := by omega
  have HG := Lib.hid hg; clear hg
  have HS := Lib.hid hs; clear hs
  have HCS := Lib.hid hcs; clear hcs
  have HL := Lib.hid hcl; clear hcl
  have H1 := Lib.hid h1; clear h1
  have hc1 : (i : Int) + (m : Int) < (n : Int) := by omega
  have hc2 : ¬ (cap = i + m) := by omega
  have hc3 : (i : Int) + (m : Int) ≤ (n : Int) := by omega
  have hc4 : (0 : Int) ≤ (i : Int) + (m : Int) := by omega
  have hc5 : ((i : Int) + (m : Int)).toNat = i + m := by omega
  go_enter Try.func43, Try.ntmps43
  go_wp2_with (with_reducible show wpList _ _ _ (⟨some 34, _, _, _, _, _⟩ :: _) _ _; go_must (refine wpList_roomP rfl _ _ rfl g i cap cur cs _ _ _ rfl rfl HG.out HCS.out HS.out ?c1 ?c2 H1.out ?_))
  case c1 => omega
  case c2 => rw [HCS.out, HL.out]; omega
  intro w1 hm1
  obtain ⟨Y, hY⟩ : ∃ Y, Y = splice cur (i * 3) cs := ⟨_, rfl⟩
  rw [← hY] at hm1
  have hYl : Y.length = cap * 3 := by rw [hY, length_splice _ _ _ (by rw [HCS.out, HL.out]; omega), HL.out]
  have hYt : Y.take ((i + m) * 3) = cur.take (i * 3) ++ cs := by rw [hY, take_splice_end cur _ (i * 3) _ (by rw [HL.out]; omega) (by rw [HCS.out]; omega)]
  have HYL := Lib.hid hYl; clear hYl
  have HYT := Lib.hid hYt; clear hYt
  clear hY
  go_wp2_with (with_reducible show wpList _ _ _ (⟨none, _, _, _, _, _⟩ :: _) _ _; go_must (refine wpList_clearP rfl _ rfl g ((i + m) * 3) Y _ _ _ rfl hm1.out.whole (fun _ => rfl) ?d1 ?_))
  case d1 => rw [HYL.out]; omega
  intro w2 zs hz hm2
  have HZ := Lib.hid hz; clear hz
  go_wp2_with fail
  go_ret
  refine ⟨rfl, _, hm2.out.whole, ?_, ?_, grown_trans hm1.out.grown hm2.out.grown⟩
  · rw [length_splice _ _ _ (by rw [HZ.out, HYL.out]; omega), HYL.out]
  · rw [take_splice_lt Y _ _ _ (Nat.le_refl _) (by rw [HYL.out]; omega), HYT.out]

set_option maxHeartbeats 8000000 in
set_option maxRecDepth 100000 in
theorem replace_endEq (i n m cap mc g : Nat) (sp : Option Addr) (cur cs : List Value) (w : World) (hg : Whole w g 60 cur) (hcs : cs.length = m * 3) (hs : Srcs w sp cs) (h1 : ∀ v ∈ cs, v.oneCell' = true) (hin : i < n) (hnc : n ≤ cap) (_hcm : cap ≤ maxLen) (hcl : cur.length = cap * 3) (hge : n ≤ i + m) (hroom : i + m ≤ cap) :
    Calls Try.prog 43 #[.slice (some ⟨g, 0, none⟩) n cap, .int .i64 i, .int .i64 n, .slice sp m mc] w fun e w' =>
      e = .returned (.slice (some ⟨g, 0, none⟩) (i + m) cap) ∧ ∃ cur', Whole w' g 60 cur' ∧ cur'.length = cap * 3 ∧ cur'.take ((i + m) * 3) = cur.take (i * 3) ++ cs ∧ w.grownBy w' (some g) := by
  unfold maxLen at _hcm
  have hb0 : (i : Int) ≤ (n : Int) := by omega
  have hb1 : (n : Int) ≤ (cap : Int) := by omega
  have hb2 : ¬ ((i : Int) = (n : Int)) := by omega
  have hb3 : (i : Int) ≤ (cap : Int) := by omega
  have hb7 : ¬ (cap = i) := by omega
  have HG := Lib.hid hg; clear hg
  have HS := Lib.hid hs; clear hs
  have HCS := Lib.hid hcs; clear hcs
  have HL := Lib.hid hcl; clear hcl
  have H1 := Lib.hid h1; clear h1
  have hc1 : ¬ (i : Int) + (m : Int) < (n : Int) := by omega
  go_enter Try.func43, Try.ntmps43
  go_wp2_with (with_reducible show wpList _ _ _ (⟨some 34, _, _, _, _, _⟩ :: _) _ _; go_must (refine wpList_roomP rfl _ _ rfl g i cap cur cs _ _ _ rfl rfl HG.out HCS.out HS.out ?c1 ?c2 H1.out ?_))
  case c2 => rw [HCS.out, HL.out]; omega
  intro w1 hm1
  obtain ⟨Y, hY⟩ : ∃ Y, Y = splice cur (i * 3) cs := ⟨_, rfl⟩
  rw [← hY] at hm1
  have hYl : Y.length = cap * 3 := by rw [hY, length_splice _ _ _ (by rw [HCS.out, HL.out]; omega), HL.out]
  have hYt : Y.take ((i + m) * 3) = cur.take (i * 3) ++ cs := by rw [hY, take_splice_end cur _ (i * 3) _ (by rw [HL.out]; omega) (by rw [HCS.out]; omega)]
  have HYL := Lib.hid hYl; clear hYl
  have HYT := Lib.hid hYt; clear hYt
  clear hY
  go_wp2_with fail
  go_ret
  exact ⟨rfl, _, hm1.out.whole, HYL.out, HYT.out, hm1.out.grown⟩

set_option maxHeartbeats 8000000 in
set_option maxRecDepth 100000 in
theorem replace_endGrow (l : List Wr) (i cap g : Nat) (p : List Wr) (v : Value) (cur : List Value) (w : World) (base : Nat) (hbg : base ≤ g) (hg : Whole w g 60 cur) (hin : i < l.length) (hnc : l.length ≤ cap) (hcm : cap ≤ maxLen) (hcl : cur.length = cap * 3) (htk : cur.take (l.length * 3) = flatG encW l)
    (hbase : base ≤ w.heap.size) (hp : SrcK w (.slice (some ⟨g, 0, none⟩) l.length cap) p v) (hgt : cap < i + p.length) (hlen : i + p.length ≤ 1000000) :
    Calls Try.prog 43 #[.slice (some ⟨g, 0, none⟩) l.length cap, .int .i64 i, .int .i64 l.length, v] w fun e w' =>
      ∃ A' c', e = .returned (.slice A' (l.take i ++ p).length c') ∧ OwnMk w' base (.slice A' (l.take i ++ p).length c') (l.take i ++ p) ∧ w.grownBy w' (some g) ∧ NewRow w (some g) (Value.ownBlock (.slice A' (l.take i ++ p).length c')) := by
  unfold maxLen at hcm
  have hA : (l.take i).length = i := by rw [List.length_take]; omega
  have ho : OwnMk w base (.slice (some ⟨g, 0, none⟩) i cap) (l.take i) := by
    have := Own.ofRow (enc := encW) (k := 3) (e := 60) encW_len (l.take i) hbg hg (by rw [hA]; omega) (by unfold maxLen; omega) hcl (by rw [hA, flatG_take encW_len, ← htk, List.take_take, Nat.min_eq_left (by omega)])
    rwa [hA] at this
  have HR := Lib.hid hp.rd
  obtain ⟨vb, vc, vcur, rfl, _⟩ := hp
  have HO := Lib.hid ho; clear ho hg htk
  have HA := Lib.hid hA
  have hL : (l.take i ++ p).length = i + p.length := by rw [List.length_append, hA]
  have HL := Lib.hid hL
  generalize l.take i = la at HO HA HL hA hL ⊢
  clear hL
  rw [HL.out]
  generalize l.length = n at *
  have hb0 : (i : Int) ≤ (n : Int) := by omega
  have hb1 : (n : Int) ≤ (cap : Int) := by omega
  have hb2 : ¬ ((i : Int) = (n : Int)) := by omega
  have hb3 : (i : Int) ≤ (cap : Int) := by omega
  have hb7 : ¬ (cap = i) := by omega
  have hc1 : ¬ (i : Int) + (p.length : Int) < (n : Int) := by omega
  have hA2 := hA
  clear hA
  go_enter Try.func43, Try.ntmps43
  obtain ⟨i0, hi, hz0, hz1, hz2⟩ := info_mkE
  go_wp2_with (at_builtin; go_must (refine BigFrame.wpList_want rfl fun K2 hK => ?_; refine wp_addAnyN (enc := encW) (k := 3) 49 60 40 i0 _ Try.underlying49 hi hz0 hz1 hz2 rfl (by decide) encW_len encW_one _ _ rfl base _ la rfl HO.out w.heap.size _ p rfl HR.out (by unfold maxLen; omega) (by omega) hbase ?_))
  intro A' c' w1 h1 h2 h3
  have HO1 := Lib.hid h1; clear h1
  have HG1 := Lib.hid h2; clear h2
  have HN1 := Lib.hid h3; clear h3
  refine hK _ _ ?_
  clear hK hA2
  (try rw [HL.out] at HO1)
  (try rw [HL.out] at HN1)
  go_wp2_with fail
  go_ret
  exact ⟨A', c', rfl, HO1.out, HG1.out, HN1.out⟩
end Go.Proofs.Ytcmpbhcldaogiaa
namespace Go.Proofs.Ytcmpbhcldaogiaa
open Go.RowKit

set_option maxHeartbeats 8000000 in
set_option maxRecDepth 100000 in
theorem replace_midLt (i j n m q cap mc g : Nat) (sp : Option Addr) (cur cs ds : List Value) (w : World) (hg : Whole w g 60 cur) (hcs : cs.length = m * 3) (hs : ∀ w', w.grownBy w' (some g) → Srcs w' sp cs) (h1 : ∀ v ∈ cs, v.oneCell' = true) (hij : i < j) (hjq : j + q = n) (hq : 0 < q) (hnc : n ≤ cap) (hcm : cap ≤ maxLen) (hm : i + m ≤ j)
    (hcl : cur.length = cap * 3) (hds : ds.length = q * 3) (hd : ∀ t v, ds[t]? = some v → cur[j * 3 + t]? = some v) (h2 : ∀ v ∈ ds, v.oneCell' = true) (k T : Nat) (hk : k = i + m) (hT : T = k + q) (hc : ¬ (cap = T)) :
    Calls Try.prog 43 #[.slice (some ⟨g, 0, none⟩) n cap, .int .i64 i, .int .i64 j, .slice sp m mc] w fun e w' =>
      e = .returned (.slice (some ⟨g, 0, none⟩) T cap) ∧ ∃ cur', Whole w' g 60 cur' ∧ cur'.length = cap * 3 ∧ cur'.take (T * 3) = cur.take (i * 3) ++ cs ++ ds ∧ w.grownBy w' (some g) := by
  unfold maxLen at hcm
  have hb0 : (i : Int) ≤ (j : Int) := by omega
  have hb1 : (j : Int) ≤ (n : Int) := by omega
  have hb2 : ¬ ((i : Int) = (j : Int)) := by omega
  have hb3 : ¬ ((j : Int) = (n : Int)) := by omega
  have hb4 : (i : Int) ≤ (cap : Int) := by omega
  have hb5 : (j : Int) ≤ (cap : Int) := by omega
  have hb6 : ¬ ((cap : Int) < (T : Int)) := by omega
  have hb7 : ¬ (cap = i) := by omega
  have hb8 : ¬ (cap = j) := by omega
  have hb9 : ¬ (cap = k) := by omega
  have hb10 : (T : Int) ≤ (cap : Int) := by omega
  have hb11 : (i : Int) ≤ (T : Int) := by omega
  have hb12 : (k : Int) ≤ (T : Int) := by omega
  have hb13 : (T : Int) ≤ (n : Int) := by omega
  have hb14 : (k : Int) ≤ (j : Int) := by omega
  have hw1 : IntKind.i64.wrap ((i : Int) + (m : Int)) = (k : Int) := by rw [IntKind.wrap_i64]; omega
  have hw2 : IntKind.i64.wrap ((k : Int) + ((n - j : Nat) : Int)) = (T : Int) := by rw [IntKind.wrap_i64]; omega
  have HG := Lib.hid hg; clear hg
  have HS := Lib.hid hs; clear hs
  have HCS := Lib.hid hcs; clear hcs
  have HDS := Lib.hid hds; clear hds
  have HD := Lib.hid hd; clear hd
  have HL := Lib.hid hcl; clear hcl
  have H1 := Lib.hid h1; clear h1
  have H2 := Lib.hid h2; clear h2
  have HK := Lib.hid hk; clear hk
  have HT := Lib.hid hT; clear hT
  have HJ := Lib.hid hjq; clear hjq
  go_enter Try.func43, Try.ntmps43
  go_wp2_with fail
  refine wp_region_plan (S := fun _ => True) [(true, 0), (true, 1), (true, 2), (true, 3), (true, 4), (true, 5), (true, 6), (true, 7), (true, 8), (true, 9), (true, 10), (true, 11), (true, 12)] (by kernel_rfl) (by kernel_rfl) (fun _ _ d _ _ h => by cases d <;> exact h) trivial ?_
  repeat (refine Plan.take (v := ?_) rfl rfl ?_ ?_; rotate_left; (focus (intro W hW; go_simp; (try with_reducible rfl); done)); (try simp only [Act.put, List.setIfInBounds_toArray, List.set_cons_zero, List.set_cons_succ]))
  simp only [Plan]
  go_wp2_with (with_reducible show wpList _ _ _ (⟨some 97, _, _, _, _, _⟩ :: _) _ _; go_must (refine wpList_copyP rfl _ _ rfl g (i * 3) cur cs _ _ _ _ _ _ rfl rfl HG.out.drew ?c1 (fun _ => rfl) (HS.out _ (grown_drew _ _)) ?c2 H1.out ?_))
  case c1 => rw [HCS.out, show Nat.min m (T - i) = m from Nat.min_eq_left (by have := HT.out; have := HK.out; omega)]
  case c2 => rw [HCS.out, HL.out]; omega
  intro w1 hm1
  obtain ⟨Y, hY⟩ : ∃ Y, Y = splice cur (i * 3) cs := ⟨_, rfl⟩
  rw [← hY] at hm1
  have hYl : Y.length = cap * 3 := by rw [hY, length_splice _ _ _ (by rw [HCS.out, HL.out]; omega), HL.out]
  have hYt : Y.take (k * 3) = cur.take (i * 3) ++ cs := by rw [hY, take_splice_end cur _ (i * 3) _ (by rw [HL.out]; omega) (by rw [HCS.out, HK.out]; omega)]
  have hYd : ∀ t v, ds[t]? = some v → Y[j * 3 + t]? = some v := fun t v ht => by rw [hY, get_splice_ge cur cs (i * 3) _ (by rw [HCS.out]; have := HK.out; omega) (by rw [HL.out]; omega)]; exact HD.out t v ht
  have HYL := Lib.hid hYl; clear hYl
  have HYT := Lib.hid hYt; clear hYt
  have HYD := Lib.hid hYd; clear hYd
  clear hY
  go_wp2_with fail
  refine wp_region_plan (S := fun _ => True) [(true, 0), (true, 1), (true, 2), (true, 3), (true, 4), (true, 5), (true, 6), (true, 7), (true, 8), (false, 9)] (by kernel_rfl) (by kernel_rfl) (fun _ _ d _ _ h => by cases d <;> exact h) trivial ?_
  repeat (refine Plan.take (v := ?_) rfl rfl ?_ ?_; rotate_left; (focus (intro W hW; go_simp; (try with_reducible rfl); done)); (try simp only [Act.put, List.setIfInBounds_toArray, List.set_cons_zero, List.set_cons_succ]))
  refine Plan.step rfl rfl fun K2 hK => ?_
  refine wp_copyP _ _ rfl g (k * 3) Y ds _ _ _ _ _ _ rfl rfl hm1.out.whole.drew ?_ (fun _ => rfl) (Srcs.of (hm1.out.whole.drew.srcs (j * 3) _ HYD.out)) ?_ H2.out ?_
  · rw [HDS.out, show Nat.min (n - j) (T - k) = q from by have := HT.out; have := HJ.out; rw [show n - j = q by omega, show T - k = q by omega]; exact Nat.min_self q]
  · rw [HDS.out, HYL.out]; have := HJ.out; omega
  intro w2 hm2
  refine hK _ _ trivial ?_
  simp only [Plan]
  clear hK K2
  obtain ⟨Z, hZ⟩ : ∃ Z, Z = splice Y (k * 3) ds := ⟨_, rfl⟩
  rw [← hZ] at hm2
  have hZl : Z.length = cap * 3 := by rw [hZ, length_splice _ _ _ (by rw [HDS.out, HYL.out]; have := HJ.out; omega), HYL.out]
  have hZt : Z.take (T * 3) = cur.take (i * 3) ++ cs ++ ds := by rw [hZ, take_splice_end Y _ (k * 3) _ (by rw [HYL.out]; omega) (by rw [HDS.out, HT.out]; omega), HYT.out]
  have HZL := Lib.hid hZl; clear hZl
  have HZT := Lib.hid hZt; clear hZt
  clear hZ
  go_wp2_with (with_reducible show wpList _ _ _ (⟨none, _, _, _, _, _⟩ :: _) _ _; go_must (refine wpList_clearP rfl _ rfl g (T * 3) Z _ _ _ rfl hm2.out.whole (fun _ => rfl) ?d1 ?_))
  case d1 => rw [HZL.out]; omega
  intro w3 zs hz hm3
  have HZ := Lib.hid hz; clear hz
  go_wp2_with fail
  go_ret
  refine ⟨rfl, _, hm3.out.whole, ?_, ?_, grown_trans (grown_undrew hm1.out.grown) (grown_trans (grown_undrew hm2.out.grown) hm3.out.grown)⟩
  · rw [length_splice _ _ _ (by rw [HZ.out, HZL.out]; omega), HZL.out]
  · rw [take_splice_lt Z _ _ _ (Nat.le_refl _) (by rw [HZL.out]; omega), HZT.out]
end Go.Proofs.Ytcmpbhcldaogiaa
namespace Go.Proofs.Ytcmpbhcldaogiaa
open Go.RowKit

set_option maxHeartbeats 8000000 in
set_option maxRecDepth 100000 in
theorem replace_midEq (i j n m q cap mc g : Nat) (sp : Option Addr) (cur cs ds : List Value) (w : World) (hg : Whole w g 60 cur) (hcs : cs.length = m * 3) (hs : ∀ w', w.grownBy w' (some g) → Srcs w' sp cs) (h1 : ∀ v ∈ cs, v.oneCell' = true) (hij : i < j) (hjq : j + q = n) (hq : 0 < q) (hnc : n ≤ cap) (hcm : cap ≤ maxLen) (hm : i + m ≤ j)
    (hcl : cur.length = cap * 3) (hds : ds.length = q * 3) (hd : ∀ t v, ds[t]? = some v → cur[j * 3 + t]? = some v) (h2 : ∀ v ∈ ds, v.oneCell' = true) (k T : Nat) (hk : k = i + m) (hT : T = k + q) (hc : cap = T) :
    Calls Try.prog 43 #[.slice (some ⟨g, 0, none⟩) n cap, .int .i64 i, .int .i64 j, .slice sp m mc] w fun e w' =>
      e = .returned (.slice (some ⟨g, 0, none⟩) T cap) ∧ ∃ cur', Whole w' g 60 cur' ∧ cur'.length = cap * 3 ∧ cur'.take (T * 3) = cur.take (i * 3) ++ cs ++ ds ∧ w.grownBy w' (some g) := by
  unfold maxLen at hcm
  subst hc
  have hb0 : (i : Int) ≤ (j : Int) := by omega
  have hb1 : (j : Int) ≤ (n : Int) := by omega
  have hb2 : ¬ ((i : Int) = (j : Int)) := by omega
  have hb3 : ¬ ((j : Int) = (n : Int)) := by omega
  have hb4 : (i : Int) ≤ (cap : Int) := by omega
  have hb5 : (j : Int) ≤ (cap : Int) := by omega
  have hb6 : ¬ ((cap : Int) < (cap : Int)) := by omega
  have hb7 : ¬ (cap = i) := by omega
  have hb8 : ¬ (cap = j) := by omega
  have hb9 : ¬ (cap = k) := by omega
  have hb10 : (cap : Int) ≤ (cap : Int) := by omega
  have hb11 : (i : Int) ≤ (cap : Int) := by omega
  have hb12 : (k : Int) ≤ (cap : Int) := by omega
  have hb13 : (cap : Int) ≤ (n : Int) := by omega
  have hb14 : (k : Int) ≤ (j : Int) := by omega
  have hw1 : IntKind.i64.wrap ((i : Int) + (m : Int)) = (k : Int) := by rw [IntKind.wrap_i64]; omega
  have hw2 : IntKind.i64.wrap ((k : Int) + ((n - j : Nat) : Int)) = (cap : Int) := by rw [IntKind.wrap_i64]; omega
  have HG := Lib.hid hg; clear hg
  have HS := Lib.hid hs; clear hs
  have HCS := Lib.hid hcs; clear hcs
  have HDS := Lib.hid hds; clear hds
  have HD := Lib.hid hd; clear hd
  have HL := Lib.hid hcl; clear hcl
  have H1 := Lib.hid h1; clear h1
  have H2 := Lib.hid h2; clear h2
  have HK := Lib.hid hk; clear hk
  have HT := Lib.hid hT; clear hT
  have HJ := Lib.hid hjq; clear hjq
  go_enter Try.func43, Try.ntmps43
  go_wp2_with fail
  refine wp_region_plan (S := fun _ => True) [(true, 0), (true, 1), (true, 2), (true, 3), (true, 4), (true, 5), (true, 6), (true, 7), (true, 8), (true, 9), (true, 10), (true, 11), (true, 12)] (by kernel_rfl) (by kernel_rfl) (fun _ _ d _ _ h => by cases d <;> exact h) trivial ?_
  repeat (refine Plan.take (v := ?_) rfl rfl ?_ ?_; rotate_left; (focus (intro W hW; go_simp; (try with_reducible rfl); done)); (try simp only [Act.put, List.setIfInBounds_toArray, List.set_cons_zero, List.set_cons_succ]))
  simp only [Plan]
  go_wp2_with (with_reducible show wpList _ _ _ (⟨some 97, _, _, _, _, _⟩ :: _) _ _; go_must (refine wpList_copyP rfl _ _ rfl g (i * 3) cur cs _ _ _ _ _ _ rfl rfl HG.out.drew ?c1 (fun _ => rfl) (HS.out _ (grown_drew _ _)) ?c2 H1.out ?_))
  case c1 => rw [HCS.out, show Nat.min m (cap - i) = m from Nat.min_eq_left (by have := HT.out; have := HK.out; omega)]
  case c2 => rw [HCS.out, HL.out]; omega
  intro w1 hm1
  obtain ⟨Y, hY⟩ : ∃ Y, Y = splice cur (i * 3) cs := ⟨_, rfl⟩
  rw [← hY] at hm1
  have hYl : Y.length = cap * 3 := by rw [hY, length_splice _ _ _ (by rw [HCS.out, HL.out]; omega), HL.out]
  have hYt : Y.take (k * 3) = cur.take (i * 3) ++ cs := by rw [hY, take_splice_end cur _ (i * 3) _ (by rw [HL.out]; omega) (by rw [HCS.out, HK.out]; omega)]
  have hYd : ∀ t v, ds[t]? = some v → Y[j * 3 + t]? = some v := fun t v ht => by rw [hY, get_splice_ge cur cs (i * 3) _ (by rw [HCS.out]; have := HK.out; omega) (by rw [HL.out]; omega)]; exact HD.out t v ht
  have HYL := Lib.hid hYl; clear hYl
  have HYT := Lib.hid hYt; clear hYt
  have HYD := Lib.hid hYd; clear hYd
  clear hY
  go_wp2_with fail
  refine wp_region_plan (S := fun _ => True) [(true, 0), (true, 1), (true, 2), (true, 3), (true, 4), (true, 5), (true, 6), (true, 7), (true, 8), (false, 9)] (by kernel_rfl) (by kernel_rfl) (fun _ _ d _ _ h => by cases d <;> exact h) trivial ?_
  repeat (refine Plan.take (v := ?_) rfl rfl ?_ ?_; rotate_left; (focus (intro W hW; go_simp; (try with_reducible rfl); done)); (try simp only [Act.put, List.setIfInBounds_toArray, List.set_cons_zero, List.set_cons_succ]))
  refine Plan.step rfl rfl fun K2 hK => ?_
  refine wp_copyP _ _ rfl g (k * 3) Y ds _ _ _ _ _ _ rfl rfl hm1.out.whole.drew ?_ (fun _ => rfl) (Srcs.of (hm1.out.whole.drew.srcs (j * 3) _ HYD.out)) ?_ H2.out ?_
  · rw [HDS.out, show Nat.min (n - j) (cap - k) = q from by have := HT.out; have := HJ.out; rw [show n - j = q by omega, show cap - k = q by omega]; exact Nat.min_self q]
  · rw [HDS.out, HYL.out]; have := HJ.out; omega
  intro w2 hm2
  refine hK _ _ trivial ?_
  simp only [Plan]
  clear hK K2
  obtain ⟨Z, hZ⟩ : ∃ Z, Z = splice Y (k * 3) ds := ⟨_, rfl⟩
  rw [← hZ] at hm2
  have hZl : Z.length = cap * 3 := by rw [hZ, length_splice _ _ _ (by rw [HDS.out, HYL.out]; have := HJ.out; omega), HYL.out]
  have hZt : Z.take (cap * 3) = cur.take (i * 3) ++ cs ++ ds := by rw [hZ, take_splice_end Y _ (k * 3) _ (by rw [HYL.out]; omega) (by rw [HDS.out, HT.out]; omega), HYT.out]
  have HZL := Lib.hid hZl; clear hZl
  have HZT := Lib.hid hZt; clear hZt
  clear hZ
  go_wp2_with (with_reducible show wpList _ _ _ (⟨none, _, _, _, _, _⟩ :: _) _ _; go_must (refine wpList_clearP rfl _ rfl g (cap * 3) Z _ _ _ rfl hm2.out.whole (fun h => absurd h (by omega)) ?d1 ?_))
  case d1 => rw [HZL.out]; omega
  intro w3 hm3
  go_wp2_with fail
  go_ret
  refine ⟨rfl, Z, ?_, HZL.out, HZT.out, grown_trans (grown_undrew hm1.out.grown) (grown_trans (grown_undrew hm2.out.grown) hm3.out.grown)⟩
  have h := hm3.out.whole
  rwa [splice_nil] at h
end Go.Proofs.Ytcmpbhcldaogiaa
namespace Go.Proofs.Ytcmpbhcldaogiaa
open Go.RowKit
theorem put_cells {cur A B X Y : List Value} (hA : cur.take A.length = A) (hl : A.length + X.length + B.length ≤ cur.length) (hY : Y = splice cur (A.length + X.length) B) :
    (splice Y A.length X).take (A.length + X.length + B.length) = A ++ X ++ B := by
  have hYl : Y.length = cur.length := by rw [hY, length_splice _ _ _ (by omega)]
  have h1 : (splice Y A.length X).take (A.length + X.length) = A ++ X := by
    rw [take_splice_end Y X A.length _ (by omega) rfl, hY, take_splice_lt cur B _ _ (by omega) (by omega), hA]
  have h2 : (splice Y A.length X).drop (A.length + X.length) = B ++ cur.drop (A.length + X.length + B.length) := by
    rw [drop_splice_ge Y X A.length _ (Nat.le_refl _) (by omega), hY]
    unfold splice
    rw [List.drop_append, List.drop_eq_nil_of_le (by simp; omega), List.nil_append, show A.length + X.length - (cur.take (A.length + X.length)).length = 0 by simp; omega, List.drop_zero]
  have h3 : splice Y A.length X = (A ++ X ++ B) ++ cur.drop (A.length + X.length + B.length) := by
    rw [← List.take_append_drop (A.length + X.length) (splice Y A.length X), h1, h2, List.append_assoc (A ++ X)]
  rw [h3]
  exact List.take_left' (by simp only [List.length_append])
theorem overlaps_apart2 {w : World} {g vb : Nat} {cur cs : List Value} {o la ca lb cb : Nat} (hg : Whole w g 60 cur) (hv : Whole w vb 60 cs) (hne : vb ≠ g) (hc : cs.length ≠ 0) :
    (callFunc 57 #[.slice (some ⟨g, o, none⟩) la ca, .slice (some ⟨vb, 0, none⟩) lb cb]).run Try.prog w = .ok (.value (.bool false)) w := by
  rw [run_callFunc_extern Try.func57 (by kernel_rfl) (by kernel_rfl) (by kernel_rfl) (e := Extern.SlicesOverlaps.overlaps #[49, 49] #[4]) (by kernel_rfl),
    Lib.run_overlaps_apart w 49 4 60 Try.underlying49 3 Try.sizeOf60 ⟨g, o, none⟩ ⟨vb, 0, none⟩ la ca lb cb (Ne.symm hne) _ _ _ _ hg.shape hv.shape hc (hg.frozen _) (hg.frozen _)]
  rfl

set_option maxHeartbeats 8000000 in
set_option maxRecDepth 100000 in
/-- more is put in than is taken out, and there is room -/
theorem replace_midMore (i j n m q cap vc g vb : Nat) (cur vcur cs ds : List Value) (w : World) (hg : Whole w g 60 cur) (hv : Whole w vb 60 vcur) (hne : vb ≠ g) (hvl : vcur.length ≠ 0) (hcs : cs.length = m * 3) (hsv : ∀ (t : Nat) (v : Value), cs[t]? = some v → vcur[t]? = some v) (h1 : ∀ v ∈ cs, v.oneCell' = true) (hij : i < j) (hjq : j + q = n) (hq : 0 < q) (hnc : n ≤ cap) (hcm : cap ≤ maxLen) (hm : j < i + m)
    (hcl : cur.length = cap * 3) (hds : ds.length = q * 3) (hd : ∀ t v, ds[t]? = some v → cur[j * 3 + t]? = some v) (h2 : ∀ v ∈ ds, v.oneCell' = true) (k T : Nat) (hk : k = i + m) (hT : T = k + q) (hc : T ≤ cap) :
    Calls Try.prog 43 #[.slice (some ⟨g, 0, none⟩) n cap, .int .i64 i, .int .i64 j, .slice (some ⟨vb, 0, none⟩) m vc] w fun e w' =>
      e = .returned (.slice (some ⟨g, 0, none⟩) T cap) ∧ ∃ cur', Whole w' g 60 cur' ∧ cur'.length = cap * 3 ∧ cur'.take (T * 3) = cur.take (i * 3) ++ cs ++ ds ∧ w.grownBy w' (some g) := by
  have hov := fun la ca lb cb (W : World) (h : Whole W g 60 cur ∧ Whole W vb 60 vcur) => overlaps_apart2 (o := k * 3) (la := la) (ca := ca) (lb := lb) (cb := cb) h.1 h.2 hne hvl
  have hovd := fun la ca lb cb => hov la ca lb cb w.drew ⟨hg.drew, hv.drew⟩
  clear hov
  unfold maxLen at hcm
  have hb0 : (i : Int) ≤ (j : Int) := by omega
  have hb1 : (j : Int) ≤ (n : Int) := by omega
  have hb2 : ¬ ((i : Int) = (j : Int)) := by omega
  have hb3 : ¬ ((j : Int) = (n : Int)) := by omega
  have hb4 : (i : Int) ≤ (cap : Int) := by omega
  have hb5 : (j : Int) ≤ (cap : Int) := by omega
  have hb6 : ¬ ((cap : Int) < (T : Int)) := by omega
  have hb7 : ¬ (cap = i) := by omega
  have hb8 : ¬ (cap = j) := by omega
  have hb9 : ¬ (cap = k) := by omega
  have hb10 : (T : Int) ≤ (cap : Int) := by omega
  have hb11 : (i : Int) ≤ (T : Int) := by omega
  have hb12 : (k : Int) ≤ (T : Int) := by omega
  have hb14 : ¬ ((k : Int) ≤ (j : Int)) := by omega
  have hw1 : IntKind.i64.wrap ((i : Int) + (m : Int)) = (k : Int) := by rw [IntKind.wrap_i64]; omega
  have hw2 : IntKind.i64.wrap ((k : Int) + ((n - j : Nat) : Int)) = (T : Int) := by rw [IntKind.wrap_i64]; omega
  have HG := Lib.hid hg; clear hg
  have HV := Lib.hid hv; clear hv
  have HS := Lib.hid hsv; clear hsv
  have HCS := Lib.hid hcs; clear hcs
  have HDS := Lib.hid hds; clear hds
  have HD := Lib.hid hd; clear hd
  have HL := Lib.hid hcl; clear hcl
  have H1 := Lib.hid h1; clear h1
  have H2 := Lib.hid h2; clear h2
  have HK := Lib.hid hk; clear hk
  have HT := Lib.hid hT; clear hT
  have HJ := Lib.hid hjq; clear hjq
  go_enter Try.func43, Try.ntmps43
  go_wp2_with fail
  refine wp_region_plan (S := fun _ => True) [(true, 0), (true, 1), (true, 2), (true, 3), (true, 4), (true, 5), (true, 6), (true, 7), (true, 8), (true, 9), (true, 10), (true, 11), (true, 12)] (by kernel_rfl) (by kernel_rfl) (fun _ _ d _ _ h => by cases d <;> exact h) trivial ?_
  repeat (refine Plan.take (v := ?_) rfl rfl ?_ ?_; rotate_left; (focus (intro W hW; go_simp; (try with_reducible rfl); done)); (try simp only [Act.put, List.setIfInBounds_toArray, List.set_cons_zero, List.set_cons_succ]))
  simp only [Plan]
  go_wp2_with fail
  refine wp_region_plan (S := fun _ => True) [(true, 0), (true, 1), (true, 2), (true, 3), (true, 4), (true, 5), (true, 6), (true, 7), (true, 8), (false, 9)] (by kernel_rfl) (by kernel_rfl) (fun _ _ d _ _ h => by cases d <;> exact h) trivial ?_
  repeat (refine Plan.take (v := ?_) rfl rfl ?_ ?_; rotate_left; (focus (intro W hW; go_simp; (try with_reducible rfl); done)); (try simp only [Act.put, List.setIfInBounds_toArray, List.set_cons_zero, List.set_cons_succ]))
  refine Plan.step rfl rfl fun K2 hK => ?_
  refine wp_copyP _ _ rfl g (k * 3) cur ds _ _ _ _ _ _ rfl rfl HG.out.drew.drew ?_ (fun _ => rfl) (Srcs.of (HG.out.drew.drew.srcs (j * 3) _ HD.out)) ?_ H2.out ?_
  · rw [HDS.out, show Nat.min (n - j) (T - k) = q from by have := HT.out; have := HJ.out; rw [show n - j = q by omega, show T - k = q by omega]; exact Nat.min_self q]
  · rw [HDS.out, HL.out]; have := HJ.out; have := HT.out; omega
  intro w2 hm2
  refine hK _ _ trivial ?_
  simp only [Plan]
  clear hK K2
  have hv2 : Whole w2 vb 60 vcur := hm2.out.away HV.out.drew.drew hne
  have HV2 := Lib.hid hv2; clear hv2 hovd
  obtain ⟨Y, hY⟩ : ∃ Y, Y = splice cur (k * 3) ds := ⟨_, rfl⟩
  rw [← hY] at hm2
  have hYl : Y.length = cap * 3 := by rw [hY, length_splice _ _ _ (by rw [HDS.out, HL.out]; have := HT.out; omega), HL.out]
  have HY := Lib.hid hY; clear hY
  have HYL := Lib.hid hYl; clear hYl
  go_wp2_with (with_reducible show wpList _ _ _ (⟨some 135, _, _, _, _, _⟩ :: _) _ _; go_must (refine wpList_copyP rfl _ _ rfl g (i * 3) Y cs _ _ _ _ _ _ rfl rfl hm2.out.whole ?c1 (fun _ => rfl) (Srcs.of ?c2) ?c3 H1.out ?_))
  case c1 => rw [HCS.out, show Nat.min m (T - i) = m from Nat.min_eq_left (by have := HT.out; have := HK.out; omega)]
  case c2 => exact HV2.out.srcs 0 _ (fun j v hj => by rw [Nat.zero_add]; exact HS.out j v hj)
  case c3 => rw [HYL.out, HCS.out]; have := HK.out; have := HT.out; omega
  intro w3 hm3
  go_wp2_with fail
  go_ret
  refine ⟨rfl, _, hm3.out.whole, ?_, ?_, grown_trans (grown_undrew (grown_undrew hm2.out.grown)) hm3.out.grown⟩
  · rw [length_splice _ _ _ (by rw [HYL.out, HCS.out]; have := HK.out; have := HT.out; omega), HYL.out]
  · have hA : (cur.take (i * 3)).length = i * 3 := by rw [List.length_take, HL.out]; have := HK.out; have := HT.out; omega
    have h := put_cells (cur := cur) (A := cur.take (i * 3)) (B := ds) (X := cs) (Y := Y) (by rw [hA]) (by rw [hA, HCS.out, HDS.out, HL.out]; have := HK.out; have := HT.out; omega) (by rw [HY.out, hA, HCS.out, HK.out, Nat.add_mul])
    rw [hA, HCS.out, HDS.out, show i * 3 + m * 3 + q * 3 = T * 3 by have := HK.out; have := HT.out; omega] at h
    exact h

set_option maxHeartbeats 8000000 in
set_option maxRecDepth 100000 in
/-- more is put in than there is room for -/
theorem replace_midGrow (i j n m q cap vc g vb : Nat) (cur vcur cs ds : List Value) (w : World) (hg : Whole w g 60 cur) (hv : Whole w vb 60 vcur) (hcs : cs.length = m * 3) (hsv : ∀ (t : Nat) (v : Value), cs[t]? = some v → vcur[t]? = some v) (h1 : ∀ v ∈ cs, v.oneCell' = true) (hij : i < j) (hjq : j + q = n) (hq : 0 < q) (hnc : n ≤ cap) (hcm : cap ≤ maxLen)
    (hcl : cur.length = cap * 3) (hds : ds.length = q * 3) (hd : ∀ t v, ds[t]? = some v → cur[j * 3 + t]? = some v) (h2 : ∀ v ∈ ds, v.oneCell' = true) (k T d : Nat) (hk : k = i + m) (hT : T = k + q) (hdd : T = i + d) (hc : cap < T) (hlen : T ≤ 1000000) :
    Calls Try.prog 43 #[.slice (some ⟨g, 0, none⟩) n cap, .int .i64 i, .int .i64 j, .slice (some ⟨vb, 0, none⟩) m vc] w fun e w' =>
      ∃ c, e = .returned (.slice (some ⟨w.heap.size, 0, none⟩) T c) ∧ ∃ cur', Whole w' w.heap.size 60 cur' ∧ cur'.length = c * 3 ∧ T ≤ c ∧ c ≤ maxLen ∧ cur'.take (T * 3) = cur.take (i * 3) ++ cs ++ ds ∧ w.grownBy w' none := by
  unfold maxLen at hcm
  have hb0 : (i : Int) ≤ (j : Int) := by omega
  have hb1 : (j : Int) ≤ (n : Int) := by omega
  have hb2 : ¬ ((i : Int) = (j : Int)) := by omega
  have hb3 : ¬ ((j : Int) = (n : Int)) := by omega
  have hb4 : (i : Int) ≤ (cap : Int) := by omega
  have hb5 : (j : Int) ≤ (cap : Int) := by omega
  have hb6 : ((cap : Int) < (T : Int)) := by omega
  have hb7 : ¬ (cap = i) := by omega
  have hb8 : ¬ (cap = j) := by omega
  have hb12 : (k : Int) ≤ (i : Int) + (d : Int) := by omega
  have hb13 : (i : Int) ≤ (i : Int) + (d : Int) := by omega
  have hw1 : IntKind.i64.wrap ((i : Int) + (m : Int)) = (k : Int) := by rw [IntKind.wrap_i64]; omega
  have hw2 : IntKind.i64.wrap ((k : Int) + ((n - j : Nat) : Int)) = (T : Int) := by rw [IntKind.wrap_i64]; omega
  have hw3 : IntKind.i64.wrap ((T : Int) - (i : Int)) = (d : Int) := by rw [IntKind.wrap_i64]; omega
  have hvlt := hv.size
  have hglt := hg.size
  have hA : (cur.take (i * 3)).length = i * 3 := by rw [List.length_take, hcl]; omega
  have HA := Lib.hid hA; clear hA
  have HG := Lib.hid hg; clear hg
  have HV := Lib.hid hv; clear hv
  have HS := Lib.hid hsv; clear hsv
  have HCS := Lib.hid hcs; clear hcs
  have HDS := Lib.hid hds; clear hds
  have HD := Lib.hid hd; clear hd
  have HL := Lib.hid hcl; clear hcl
  have H1 := Lib.hid h1; clear h1
  have H2 := Lib.hid h2; clear h2
  have HK := Lib.hid hk; clear hk
  have HT := Lib.hid hT; clear hT
  have HJ := Lib.hid hjq; clear hjq
  have HDD := Lib.hid hdd; clear hdd
  go_enter Try.func43, Try.ntmps43
  go_wp2_with fail
  refine wp_region_plan (S := fun _ => True) [(true, 0), (true, 1), (true, 2), (true, 3), (true, 4), (true, 5), (true, 6), (true, 7), (true, 8), (true, 9), (true, 10), (true, 11), (true, 12)] (by kernel_rfl) (by kernel_rfl) (fun _ _ d _ _ h => by cases d <;> exact h) trivial ?_
  repeat (refine Plan.take (v := ?_) rfl rfl ?_ ?_; rotate_left; (focus (intro W hW; go_simp; (try with_reducible rfl); done)); (try simp only [Act.put, List.setIfInBounds_toArray, List.set_cons_zero, List.set_cons_succ]))
  simp only [Plan]
  go_wp2_with (with_reducible show wpList _ _ _ (⟨some 67, _, _, _, _, _⟩ :: _) _ _; go_must (refine wpList_zerosP rfl _ _ rfl (some ⟨g, 0, none⟩) i cap d (cur.take (i * 3)) rfl rfl HA.out (Srcs.of ?c1) ?c2 ?c3 ?c4 ?_))
  case c1 => exact HG.out.drew.srcs 0 _ (fun j v hj => by rw [Nat.zero_add]; rw [List.getElem?_take] at hj; split at hj; exact hj; cases hj)
  case c2 => have := HDD.out; omega
  case c3 => have := HDD.out; omega
  case c4 => have := HDD.out; omega
  intro w1 c cur1 hz hc9
  have hc1 : ¬ (c = i) := by have := HDD.out; have := HT.out; have := HK.out; omega
  have hc2 : ¬ (c = k) := by have := HDD.out; have := HT.out; omega
  have hv1 : Whole w1 vb 60 vcur := HV.out.drew.grown hz.out.2.2.2.2.2.1 (by simp)
  have hg1 : Whole w1 g 60 cur := HG.out.drew.grown hz.out.2.2.2.2.2.1 (by simp)
  have HV1 := Lib.hid hv1; clear hv1
  have HG1 := Lib.hid hg1; clear hg1
  clear hc9
  go_wp2_with (with_reducible show wpList _ _ _ (⟨some 72, _, _, _, _, _⟩ :: _) _ _; go_must (refine wpList_copyP rfl _ _ rfl w.heap.size (i * 3) cur1 cs _ _ _ _ _ _ rfl rfl hz.out.1 ?d1 (fun _ => rfl) (Srcs.of ?d2) ?d3 H1.out ?_))
  case d1 => rw [HCS.out, show Nat.min m d = m from Nat.min_eq_left (by have := HDD.out; have := HT.out; have := HK.out; omega)]
  case d2 => exact HV1.out.srcs 0 _ (fun j v hj => by rw [Nat.zero_add]; exact HS.out j v hj)
  case d3 => rw [hz.out.2.1, HCS.out]; have := hz.out.2.2.2.1; have := HDD.out; have := HT.out; have := HK.out; omega
  intro w2 hm2
  obtain ⟨Y, hY⟩ : ∃ Y, Y = splice cur1 (i * 3) cs := ⟨_, rfl⟩
  rw [← hY] at hm2
  have hYl : Y.length = c * 3 := by rw [hY, length_splice _ _ _ (by rw [HCS.out, hz.out.2.1]; have := hz.out.2.2.2.1; have := HDD.out; have := HT.out; have := HK.out; omega), hz.out.2.1]
  have hYt : Y.take (k * 3) = cur.take (i * 3) ++ cs := by
    rw [hY, take_splice_end cur1 _ (i * 3) _ (by rw [hz.out.2.1]; have := hz.out.2.2.2.1; omega) (by rw [HCS.out]; have := HK.out; omega), hz.out.2.2.1]
  have hg2 : Whole w2 g 60 cur := HG1.out.grown hm2.out.grown (by simp; omega)
  have HG2 := Lib.hid hg2; clear hg2
  have HYL := Lib.hid hYl; clear hYl
  have HYT := Lib.hid hYt; clear hYt
  clear hY
  go_wp2_with fail
  refine wp_region_plan (S := fun _ => True) [(true, 0), (true, 1), (true, 2), (true, 3), (true, 4), (true, 5), (true, 6), (true, 7), (true, 8), (false, 9)] (by kernel_rfl) (by kernel_rfl) (fun _ _ d _ _ h => by cases d <;> exact h) trivial ?_
  repeat (refine Plan.take (v := ?_) rfl rfl ?_ ?_; rotate_left; (focus (intro W hW; go_simp; (try with_reducible rfl); done)); (try simp only [Act.put, List.setIfInBounds_toArray, List.set_cons_zero, List.set_cons_succ]))
  refine Plan.step rfl rfl fun K2 hK => ?_
  refine wp_copyP _ _ rfl w.heap.size (k * 3) Y ds _ _ _ _ _ _ rfl rfl hm2.out.whole.drew ?_ (fun _ => rfl) (Srcs.of (HG2.out.drew.srcs (j * 3) _ HD.out)) ?_ H2.out ?_
  · rw [HDS.out, show Nat.min (n - j) (i + d - k) = q from by have := HDD.out; have := HT.out; have := HJ.out; rw [show n - j = q by omega, show i + d - k = q by omega]; exact Nat.min_self q]
  · rw [HDS.out, HYL.out]; have := hz.out.2.2.2.1; have := HDD.out; have := HT.out; omega
  intro w3 hm3
  refine hK _ _ trivial ?_
  simp only [Plan]
  clear hK
  go_wp2_with fail
  go_ret
  refine ⟨c, ?_, _, hm3.out.whole, ?_, ?_, hz.out.2.2.2.2.1, ?_, ?_⟩
  · rw [HDD.out]; rfl
  · rw [length_splice _ _ _ (by rw [HDS.out, HYL.out]; have := hz.out.2.2.2.1; have := HDD.out; have := HT.out; omega), HYL.out]
  · have := hz.out.2.2.2.1; have := HDD.out; omega
  · rw [take_splice_end Y _ (k * 3) _ (by rw [HYL.out]; have := hz.out.2.2.2.1; have := HDD.out; have := HT.out; omega) (by rw [HDS.out]; have := HT.out; omega), HYT.out]
  · exact grown_new (grown_new (grown_undrew hz.out.2.2.2.2.2.1) hm2.out.grown (Nat.le_refl _)) (grown_undrew hm3.out.grown) (Nat.le_refl _)
end Go.Proofs.Ytcmpbhcldaogiaa
namespace Go.Proofs.Ytcmpbhcldaogiaa
open Go.RowKit

set_option maxRecDepth 100000 in
/-- a part of the slice, by others; by one where nothing is taken out -/
theorem sreplace_any (l : List Wr) (i j : Nat) (hij : i ≤ j) (hj : j ≤ l.length) (p : List Wr) (h0 : p ≠ []) (h1p : i = j → p.length = 1) (v vp : Value) (w : World) (base : Nat) (hown : OwnMk w base v l) (hbase : base ≤ w.heap.size) (hp : SrcK w v p vp) (hlen : l.length + p.length ≤ 1000000) :
    Calls Try.prog 43 #[v, .int .i64 i, .int .i64 j, vp] w fun e w' =>
      ∃ A' c', e = .returned (.slice A' (l.take i ++ p ++ l.drop j).length c') ∧ OwnMk w' base (.slice A' (l.take i ++ p ++ l.drop j).length c') (l.take i ++ p ++ l.drop j) ∧ w.grownBy w' v.ownBlock ∧ NewRow w v.ownBlock (Value.ownBlock (.slice A' (l.take i ++ p ++ l.drop j).length c')) := by
  by_cases he : i = j
  · subst he
    obtain ⟨x, rfl⟩ := List.length_eq_one_iff.1 (h1p rfl)
    exact replace_same l i hj x v vp w base hown hbase hp (by simpa using hlen)
  rcases hown.row with ⟨rfl, rfl⟩ | ⟨g, cap, cur, rfl, hbg, hg, h1, h2, h3, h4⟩
  · simp at hj; omega
  have hpp := hp
  obtain ⟨vb, vc, vcur, rfl, hvc, hv, hvx, hvne⟩ := hp
  have hvg : vb ≠ g := fun e => hvne (by rw [e]; rfl)
  have hs : ∀ w', w.grownBy w' (some g) → Srcs w' (some ⟨vb, 0, none⟩) (flatG encW p) := fun w' hw =>
    Srcs.of ((hv.grown hw (by simpa using hvg)).srcs 0 _ (fun j v hj => by rw [Nat.zero_add]; exact src_cells hvx j v hj))
  have hs' := hs w (grown_same _ _)
  have fA : (flatG encW (l.take i)) = cur.take (i * 3) := by rw [flatG_take encW_len, ← h4, List.take_take, Nat.min_eq_left (by omega)]
  have hcs : (flatG encW p).length = p.length * 3 := flatG_length encW_len p
  have hp1 : 1 ≤ p.length := by
    cases p with
    | nil => exact absurd rfl h0
    | cons => simp
  have hvl : vcur.length ≠ 0 := fun e => by
    have := congrArg List.length hvx
    rw [hcs, List.length_take, e] at this
    omega
  by_cases hjn : j = l.length
  · subst hjn
    rw [List.drop_length, List.append_nil]
    have hL : (l.take i ++ p).length = i + p.length := by rw [List.length_append, List.length_take, Nat.min_eq_left hij]
    have fin : ∀ cur' w', i + p.length ≤ cap → Whole w' g 60 cur' → cur'.length = cap * 3 → cur'.take ((i + p.length) * 3) = cur.take (i * 3) ++ flatG encW p → w.grownBy w' (some g) →
        ∃ A' c', Ending.returned (Value.slice (some ⟨g, 0, none⟩) (i + p.length) cap) = .returned (.slice A' (l.take i ++ p).length c') ∧ OwnMk w' base (.slice A' (l.take i ++ p).length c') (l.take i ++ p) ∧ w.grownBy w' (Value.slice (some ⟨g, 0, none⟩) l.length cap).ownBlock ∧ NewRow w (Value.slice (some ⟨g, 0, none⟩) l.length cap).ownBlock (Value.ownBlock (.slice A' (l.take i ++ p).length c')) := fun cur' w' k0 k1 k2 k3 k4 =>
      ⟨some ⟨g, 0, none⟩, cap, by rw [hL], Own.ofRow encW_len _ hbg k1 (by rw [hL]; exact k0) h2 k2 (by rw [hL, k3, flatG_append, fA]), k4, fun g' hg' => .inl hg'⟩
    by_cases hroom : i + p.length ≤ cap
    · by_cases hlt : i + p.length < l.length
      · refine (replace_endLt i l.length p.length cap vc g _ cur (flatG encW p) w hg hcs hs' (encW_one' _) (by omega) h1 h2 h3 hlt).mono ?_
        rintro e w' ⟨rfl, cur', k1, k2, k3, k4⟩
        exact fin cur' w' hroom k1 k2 k3 k4
      · refine (replace_endEq i l.length p.length cap vc g _ cur (flatG encW p) w hg hcs hs' (encW_one' _) (by omega) h1 h2 h3 (by omega) hroom).mono ?_
        rintro e w' ⟨rfl, cur', k1, k2, k3, k4⟩
        exact fin cur' w' hroom k1 k2 k3 k4
    · exact replace_endGrow l i cap g p _ cur w base hbg hg (by omega) h1 h2 h3 h4 hbase hpp (by omega) (by omega)
  · have hd : (l.drop j).length = l.length - j := List.length_drop
    have hds : (flatG encW (l.drop j)).length = (l.length - j) * 3 := by rw [flatG_length encW_len, hd]
    have hdc : ∀ t v, (flatG encW (l.drop j))[t]? = some v → cur[j * 3 + t]? = some v := by
      have h5 : cur.take (l.length * 3) = flatG encW (l.take j) ++ flatG encW (l.drop j) := by rw [h4, ← flatG_append, List.take_append_drop]
      have h6 := cells_at h5
      rw [flatG_length encW_len, List.length_take, Nat.min_eq_left hj] at h6
      exact h6
    have hL : (l.take i ++ p ++ l.drop j).length = i + p.length + (l.length - j) := by rw [List.length_append, List.length_append, List.length_take, Nat.min_eq_left (by omega), hd]
    have fin : ∀ cur' w', i + p.length + (l.length - j) ≤ cap → Whole w' g 60 cur' → cur'.length = cap * 3 → cur'.take ((i + p.length + (l.length - j)) * 3) = cur.take (i * 3) ++ flatG encW p ++ flatG encW (l.drop j) → w.grownBy w' (some g) →
        ∃ A' c', Ending.returned (Value.slice (some ⟨g, 0, none⟩) (i + p.length + (l.length - j)) cap) = .returned (.slice A' (l.take i ++ p ++ l.drop j).length c') ∧ OwnMk w' base (.slice A' (l.take i ++ p ++ l.drop j).length c') (l.take i ++ p ++ l.drop j) ∧ w.grownBy w' (Value.slice (some ⟨g, 0, none⟩) l.length cap).ownBlock ∧ NewRow w (Value.slice (some ⟨g, 0, none⟩) l.length cap).ownBlock (Value.ownBlock (.slice A' (l.take i ++ p ++ l.drop j).length c')) := fun cur' w' k0 k1 k2 k3 k4 =>
      ⟨some ⟨g, 0, none⟩, cap, by rw [hL], Own.ofRow encW_len _ hbg k1 (by rw [hL]; exact k0) h2 k2 (by rw [hL, k3, flatG_append, flatG_append, fA]), k4, fun g' hg' => .inl hg'⟩
    by_cases hroom : i + p.length + (l.length - j) ≤ cap
    · by_cases hm : i + p.length ≤ j
      · by_cases hc : cap = i + p.length + (l.length - j)
        · refine (replace_midEq i j l.length p.length (l.length - j) cap vc g _ cur (flatG encW p) (flatG encW (l.drop j)) w hg hcs hs (encW_one' _) (by omega) (by omega) (by omega) h1 h2 hm h3 hds hdc (encW_one' _) _ _ rfl rfl hc).mono ?_
          rintro e w' ⟨rfl, cur', k1, k2, k3, k4⟩
          exact fin cur' w' hroom k1 k2 k3 k4
        · refine (replace_midLt i j l.length p.length (l.length - j) cap vc g _ cur (flatG encW p) (flatG encW (l.drop j)) w hg hcs hs (encW_one' _) (by omega) (by omega) (by omega) h1 h2 hm h3 hds hdc (encW_one' _) _ _ rfl rfl hc).mono ?_
          rintro e w' ⟨rfl, cur', k1, k2, k3, k4⟩
          exact fin cur' w' hroom k1 k2 k3 k4
      · refine (replace_midMore i j l.length p.length (l.length - j) cap vc g vb cur vcur (flatG encW p) (flatG encW (l.drop j)) w hg hv hvg hvl hcs (src_cells hvx) (encW_one' _) (by omega) (by omega) (by omega) h1 h2 (by omega) h3 hds hdc (encW_one' _) _ _ rfl rfl hroom).mono ?_
        rintro e w' ⟨rfl, cur', k1, k2, k3, k4⟩
        exact fin cur' w' hroom k1 k2 k3 k4
    · refine (replace_midGrow i j l.length p.length (l.length - j) cap vc g vb cur vcur (flatG encW p) (flatG encW (l.drop j)) w hg hv hcs (src_cells hvx) (encW_one' _) (by omega) (by omega) (by omega) h1 h2 h3 hds hdc (encW_one' _) _ _ (p.length + (l.length - j)) rfl rfl (by omega) (by omega) (by omega)).mono ?_
      rintro e w' ⟨c, rfl, cur', k1, k2, k3, k4, k5, k6⟩
      exact ⟨some ⟨w.heap.size, 0, none⟩, c, by rw [hL], Own.ofRow encW_len _ hbase k1 (by rw [hL]; exact k3) k4 k2 (by rw [hL, k5, flatG_append, flatG_append, fA]), ⟨k6.os, k6.tape, k6.output, k6.size, fun k hk _ => k6.block k hk (by simp)⟩, newRow_new _ _ _ _⟩
end Go.Proofs.Ytcmpbhcldaogiaa
namespace Go.Proofs.Ytcmpbhcldaogiaa
open Go.RowKit
attribute [local go_sem] less_eq same_eq le_eq ge_eq gt_eq

set_option maxHeartbeats 1000000 in
set_option maxRecDepth 100000 in
theorem add_nil (w0 w : World) (ob : Nat) (v : Value) (s : K × K) (hw : w0.grownBy w (some ob)) (hob : w.heap[ob]? = some (.cells #[v] 29 (0, 0))) (ho : OwnS w w0.heap.size v []) (hlt : ob < w0.heap.size) :
    Calls Try.prog 65 #[.agg #[.string s.1, .string s.2], .pointer (some ⟨ob, 0, none⟩)] w fun e w' => e = .returned (.tuple #[]) ∧ ∃ v', w'.heap[ob]? = some (.cells #[v'] 29 (0, 0)) ∧ OwnS w' w0.heap.size v' [s] ∧ w0.grownBy w' (some ob) := by
  have hv : ∃ A c, v = .slice A 0 c := by
    rcases ho.form with ⟨rfl, _⟩ | ⟨g, cap, rfl, _⟩
    · exact ⟨_, _, rfl⟩
    · exact ⟨_, _, rfl⟩
  obtain ⟨A, c, rfl⟩ := hv
  have hc := cell_of_one hob
  have hf := free_of_one hob
  have hlt' := lt_of_block hob
  have HO := Lib.hid ho; clear ho
  have HB := Lib.hid hob; clear hob
  have HW := Lib.hid hw; clear hw
  go_enter Try.func65, Try.ntmps65
  go_wp2_with fail
  go_quiet (fail)
  go_wp2_with (at_builtin; refine wpList_addS rfl _ _ rfl w0.heap.size (.slice A 0 c) [] rfl ?c0 _ 1 [s] rfl ?c1 ?c2 ?c3 ?_)
  case c0 => exact ((HO.out.alloc _).drewN nq).alloc _
  case c1 => simpa using new_cells ((w.alloc (.cells #[.string s.1, .string s.2] 24)).drewN nq) s 24
  case c2 => simp
  case c3 => have := HW.out.size; simp; omega
  intro A' c' w1 ho1 hg1
  have hz := HW.out.size
  have hrow : ∀ k, (Value.slice A 0 c).ownBlock = some k → w0.heap.size ≤ k := fun k hk => (HO.out.lt k hk).1
  have hne : some ob ≠ (Value.slice A 0 c).ownBlock := fun e => by have := hrow ob e.symm; omega
  have hb1 : w1.heap[ob]? = some (.cells #[.slice A 0 c] 29 (0, 0)) := by
    rw [hg1.block ob (by simp; omega) hne, Below.heap_alloc _ _ _ (by simp; omega)]
    show (w.alloc _).heap[ob]? = _
    rw [Below.heap_alloc _ _ _ hlt']
    exact HB.out
  have hc1 := cell_of_one hb1
  have hf1 := free_of_one hb1
  have HO1 := Lib.hid ho1; clear ho1
  have HG1 := Lib.hid hg1; clear hg1
  have HB1 := Lib.hid hb1; clear hb1
  clear hc hf
  go_wp2_with fail
  go_end0
  refine ⟨rfl, _, one_setCell HB1.out, HO1.out.setOther hlt 0 _, grow_set (grow_trans (grow_alloc (grow_drewN (grow_alloc HW.out _) _) _) HG1.out fun k hk => .inl (hrow k hk)) 0 _⟩

set_option maxHeartbeats 1000000 in
set_option maxRecDepth 100000 in
theorem add_snoc (w0 w : World) (ob : Nat) (v : Value) (p : List (K × K)) (l s : K × K) (hw : w0.grownBy w (some ob)) (hob : w.heap[ob]? = some (.cells #[v] 29 (0, 0))) (ho : OwnS w w0.heap.size v (p ++ [l])) (hlt : ob < w0.heap.size) (hp : p.length ≤ 2000000) :
    Calls Try.prog 65 #[.agg #[.string s.1, .string s.2], .pointer (some ⟨ob, 0, none⟩)] w fun e w' => e = .returned (.tuple #[]) ∧ ∃ v', w'.heap[ob]? = some (.cells #[v'] 29 (0, 0)) ∧ OwnS w' w0.heap.size v' (jadd (p ++ [l]) s) ∧ w0.grownBy w' (some ob) := by
  have hv : ∃ g cap, v = .slice (some ⟨g, 0, none⟩) (p.length + 1) cap ∧ w0.heap.size ≤ g ∧ g < w.heap.size ∧ p.length + 1 ≤ cap := by
    rcases ho.form with ⟨_, h0⟩ | ⟨g, cap, hv, h1, h2, h3⟩
    · simp at h0
    · exact ⟨g, cap, by simpa using hv, h1, h2, by simpa using h3⟩
  obtain ⟨g, cap, rfl, hg0, hg, hcap⟩ := hv
  have hc := cell_of_one hob
  have hf := free_of_one hob
  have hlt' := lt_of_block hob
  have ho' : OwnS w w0.heap.size (.slice (some ⟨g, 0, none⟩) (p ++ [l]).length cap) (p ++ [l]) := by simpa using ho
  have hl1 : w.cell? ⟨g, p.length * 2, none⟩ = some (.string l.1) := by
    unfold OwnS at ho'; rw [ho'.cellAt _ (by simp), flat_append, List.getElem?_append_right (by rw [flat_length]; omega), flat_length, Nat.sub_self]; rfl
  have hl2 : w.cell? ⟨g, p.length * 2 + 1, none⟩ = some (.string l.2) := by
    unfold OwnS at ho'; rw [ho'.cellAt _ (by simp; omega), flat_append, List.getElem?_append_right (by rw [flat_length]; omega), flat_length, Nat.add_sub_cancel_left]; rfl
  have hfg : w.frozen? ⟨g, p.length * 2 + 1, none⟩ = false := by unfold OwnS at ho'; exact ho'.frozenAt _
  have hmax := fun (w : World) (ts : Array TypeId) (t : TypeId) (x y : ByteArray) => (Lib.run_max_strs (P := Try.prog) w ts t x y)
  simp only [maxS_eq] at hmax
  rw [jadd_snoc]
  have HO := Lib.hid ho'; clear ho ho'
  have HB := Lib.hid hob; clear hob
  have HW := Lib.hid hw; clear hw
  by_cases hx : s.1 ≤ l.2
  · rw [if_pos hx]
    go_enter Try.func65, Try.ntmps65
    go_wp2_with fail
    go_quiet (fail)
    go_wp2_with fail
    go_region
    go_wp2_with fail
    refine bodyPost_ret (results_none rfl _ _ _) rfl ?_
    have hne : ob ≠ g := by have := HW.out.size; omega
    refine ⟨rfl, .slice (some ⟨g, 0, none⟩) (p.length + 1) cap, ?_, by simpa using (((HO.out.alloc _).drewN nq).drewN 1).setLast (mx l.2 s.2), grow_setNew (grow_drewN (grow_drewN (grow_alloc HW.out _) _) 1) hg0 _ _⟩
    rw [Below.heap_setCell _ _ _ _ (by exact hne)]
    exact (Below.heap_alloc _ _ _ hlt').trans HB.out
  · rw [if_neg hx]
    go_enter Try.func65, Try.ntmps65
    go_wp2_with fail
    go_quiet (fail)
    go_wp2_with (at_builtin; refine wpList_addS rfl _ _ rfl w0.heap.size (.slice (some ⟨g, 0, none⟩) (p.length + 1) cap) (p ++ [l]) rfl ?c0 _ 1 [s] rfl ?c1 ?c2 ?c3 ?_)
    case c0 => simpa using ((HO.out.alloc _).drewN nq).alloc (.cells #[.string s.1, .string s.2] 24)
    case c1 => simpa using new_cells ((w.alloc (.cells #[.string s.1, .string s.2] 24)).drewN nq) s 24
    case c2 => simp; omega
    case c3 => have := HW.out.size; simp; omega
    intro A' c' w1 ho1 hg1
    have hz := HW.out.size
    have hb1 : w1.heap[ob]? = some (.cells #[.slice (some ⟨g, 0, none⟩) (p.length + 1) cap] 29 (0, 0)) := by
      rw [hg1.block ob (by simp; omega) (fun e => by simp [Value.ownBlock] at e; omega), Below.heap_alloc _ _ _ (by simp; omega)]
      show (w.alloc _).heap[ob]? = _
      rw [Below.heap_alloc _ _ _ hlt']
      exact HB.out
    have hc1 := cell_of_one hb1
    have hf1 := free_of_one hb1
    have HO1 := Lib.hid ho1; clear ho1
    have HG1 := Lib.hid hg1; clear hg1
    have HB1 := Lib.hid hb1; clear hb1
    clear hc hf hl1 hl2 hfg
    go_wp2_with fail
    go_end0
    refine ⟨rfl, _, one_setCell HB1.out, ?_, grow_set (grow_trans (grow_alloc (grow_drewN (grow_alloc HW.out _) _) _) HG1.out fun k hk => .inl (by simp [Value.ownBlock] at hk; omega)) 0 _⟩
    simpa using HO1.out.setOther hlt 0 _

/-- what the closure of Join adds -/
theorem add_any (w0 w : World) (ob : Nat) (v : Value) (out : List (K × K)) (s : K × K) (hw : w0.grownBy w (some ob)) (hob : w.heap[ob]? = some (.cells #[v] 29 (0, 0))) (ho : OwnS w w0.heap.size v out) (hlt : ob < w0.heap.size) (hp : out.length ≤ 2000000) :
    Calls Try.prog 65 #[.agg #[.string s.1, .string s.2], .pointer (some ⟨ob, 0, none⟩)] w fun e w' => e = .returned (.tuple #[]) ∧ ∃ v', w'.heap[ob]? = some (.cells #[v'] 29 (0, 0)) ∧ OwnS w' w0.heap.size v' (jadd out s) ∧ w0.grownBy w' (some ob) := by
  rcases List.eq_nil_or_concat out with rfl | ⟨p, l, rfl⟩
  · exact add_nil w0 w ob v s hw hob ho hlt
  · rw [List.concat_eq_append] at *
    exact add_snoc w0 w ob v p l s hw hob ho hlt (by simp at hp; omega)

theorem jadd_len (out : List (K × K)) (s : K × K) : (jadd out s).length ≤ out.length + 1 := by
  rcases List.eq_nil_or_concat out with rfl | ⟨p, l, rfl⟩
  · simp [jadd_nil]
  · rw [List.concat_eq_append, jadd_snoc]
    split <;> simp
theorem jfold_len : ∀ (l out : List (K × K)), (l.foldl jadd out).length ≤ out.length + l.length
  | [], out => by simp
  | s :: r, out => by
    have h1 := jfold_len r (jadd out s)
    have h2 := jadd_len out s
    simp only [List.foldl_cons, List.length_cons]
    omega

set_option maxHeartbeats 1000000 in
set_option maxRecDepth 100000 in
theorem join_any (l : List (K × K)) (v : Value) (w : World) (hv : RdS w w.heap.size v l) (hl : l.length ≤ 2000000) : Calls Try.prog 52 #[v] w fun e w' =>
    ∃ v' J, e = .returned v' ∧ OwnS w' w.heap.size v' J ∧ Below w.heap.size w w' ∧ Normal J ∧ (∀ k, mem J k ↔ mem l k) ∧ J.length ≤ 2000000 := by
  obtain ⟨A, c, rfl, hc⟩ : ∃ A c, v = .slice A l.length c ∧ l.length ≤ c := by obtain ⟨A, c, h1, h2, _⟩ := hv; exact ⟨A, c, h1, h2⟩
  have hr := fun W (hW : RdS W W.heap.size (.slice A l.length c) l) => rising_any l (.slice A l.length c) W hW hl
  have HR := Lib.hid hr; clear hr
  have HV := Lib.hid hv; clear hv
  go_enter Try.func52, Try.ntmps52
  go_wp2_with fail
  refine (HR.out _ ((HV.out.below ((Below.refl _ w).alloc (Nat.le_refl _) _) (Nat.le_refl _)).mono (by simp))).mono ?_
  rintro e w2 ⟨v', l', rfl, ho2, hb2, hp, hq⟩
  obtain ⟨A', c', rfl, hi⟩ := ho2.read
  have hll : l'.length ≤ 2000000 := by rw [hp.length_eq]; exact Nat.le_trans (List.length_filter_le _ _) hl
  have hbox : w2.heap[w.heap.size]? = some (.cells #[.slice none 0 0] 29 (0, 0)) := by
    rw [hb2.block _ (by simp)]
    exact heap_alloc_new w _
  have hw2 : w.heap.size < w2.heap.size := by have := hb2.size; simp at this; omega
  have hbw : Below w.heap.size w w2 := ((Below.refl _ w).alloc (Nat.le_refl _) _).trans (hb2.mono (by simp))
  have HI := Lib.hid hi; clear hi ho2
  have HB := Lib.hid hbox; clear hbox
  have HP := Lib.hid hp; clear hp
  have HQ := Lib.hid hq; clear hq
  have HBW := Lib.hid hbw; clear hbw hb2
  go_wp2_with fail
  go_loopw [11] (fun i wr => ∃ (j : Nat) (ov : Value), j ≤ l'.length ∧ i = .int .i64 j ∧ w2.grownBy wr (some w.heap.size) ∧ wr.heap[w.heap.size]? = some (.cells #[ov] 29 (0, 0)) ∧ OwnS wr w2.heap.size ov ((l'.take j).foldl jadd [])) (fun i _ => l'.length - (intOf i).toNat)
  case atStart => exact ⟨0, _, Nat.zero_le _, rfl, ⟨rfl, rfl, rfl, Nat.le_refl _, fun _ _ _ => rfl⟩, HB.out, OwnS.nil _ _⟩
  case round =>
    obtain ⟨j, ov, hj, rfl, hg, hb, ho⟩ := hrel
    by_cases hlt : j < l'.length
    · obtain ⟨g, rfl, hg1, hg2, h1, h2⟩ := HI.out j hlt
      have hne : some g ≠ some w.heap.size := fun e => by simp at e hg1; omega
      have g1 := hg.cell h1 hne
      have g2 := hg.cell h2 hne
      have hlen : ((l'.take j).foldl jadd []).length ≤ 2000000 := Nat.le_trans (jfold_len _ _) (by simp; omega)
      have hst : (l'.take (j + 1)).foldl jadd [] = jadd ((l'.take j).foldl jadd []) l'[j] := by rw [List.take_succ_eq_append_getElem hlt, List.foldl_append]; rfl
      have HS := Lib.hid hst; clear hst
      clear h1 h2 hne
      have hadd := fun W h1 h2 h3 => add_any w2 W w.heap.size ov _ l'[j] h1 h2 h3 hw2 hlen
      have HA := Lib.hid hadd; clear hadd hlen
      have HG := Lib.hid hg; clear hg
      have HX := Lib.hid hb; clear hb
      have HO := Lib.hid ho; clear ho
      go_wp2_with fail
      refine (HA.out _ (grow_alloc HG.out _) ((Below.heap_alloc _ _ _ (lt_of_block HX.out)).trans HX.out) (HO.out.alloc _)).mono ?_
      rintro e w3 ⟨rfl, ov', hb3, ho3, hg3⟩
      have HG3 := Lib.hid hg3; clear hg3
      have HX3 := Lib.hid hb3; clear hb3
      have HO3 := Lib.hid ho3; clear ho3
      go_wp2_with fail
      go_roundw
      case rel => exact ⟨j + 1, ov', by omega, by go_num, HG3.out, HX3.out, by rw [HS.out]; exact HO3.out⟩
      case measure => simp [intOf]; omega
    · obtain rfl : j = l'.length := by omega
      have hcell := cell_of_one hb
      rw [List.take_length] at ho
      have HG := Lib.hid hg; clear hg
      have HX := Lib.hid hb; clear hb
      have HO := Lib.hid ho; clear ho
      go_wp2_with fail
      have hfull : ∀ s ∈ l', s.1 < s.2 := fun s hs => by
        have := (HP.out.mem_iff.1 hs)
        simpa [full] using (List.mem_filter.1 this).2
      obtain ⟨n1, n2⟩ := join_ok l' hfull HQ.out
      have hmem : ∀ k, mem l' k ↔ mem l k := fun k => by
        rw [mem_perm HP.out]
        constructor
        · rintro ⟨s, hs, hk⟩; exact ⟨s, (List.mem_filter.1 hs).1, hk⟩
        · rintro ⟨s, hs, hk⟩; exact ⟨s, List.mem_filter.2 ⟨hs, by unfold has at hk; simp [full]; grind⟩, hk⟩
      refine bodyPost_ret (v := ov) ?_ rfl ⟨_, _, rfl, HO.out.lower (Nat.le_of_lt hw2), ?_, n1, fun k => (n2 k).trans (hmem k), Nat.le_trans (jfold_len _ _) (by simpa using hll)⟩
      · simp [results, Try.results52, go_sem]
      · have h1 := HBW.out
        have h2 := HG.out
        exact ⟨h2.os.trans h1.os, h2.tape.trans h1.tape, h2.output.trans h1.output, Nat.le_trans h1.size h2.size, fun k hk => (h2.block k (by omega) (by simp; omega)).trans (h1.block k hk)⟩
end Go.Proofs.Ytcmpbhcldaogiaa

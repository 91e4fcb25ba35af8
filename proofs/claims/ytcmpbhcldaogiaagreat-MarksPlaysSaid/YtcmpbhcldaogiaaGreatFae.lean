/- slices.Replace: a part of a slice of the call's own, by at most one pair. slices.Replace: the end of a slice. slices.Replace: a part in the midst of a slice, which leaves spare room. slices.Replace: a part in the midst of a slice without spare room. slices.Replace: a part of a slice of the own call, by at most one pair. Joining spans: what span.Join answers. What is left of a span without others: what span.Without answers. A region with a store in its midst, which waits for some of its operations and writes what these have read: an order laid down beforehand, as in PlanF; what the store does not wait for must yield the same behind it. -/
import Derived.Test.YtcmpbhcldaogiaaGreatFad
import Derived.Test.YtcmpbhcldaogiaaGreatFac
import Derived.Test.YtcmpbhcldaogiaaGreatFaa
import Derived.BigQuiet
import Derived.Deep.QuietTactic
namespace Go.Proofs.YtcmpbhcldaogiaaGreat
open Go.RowKit

theorem grown_drew (w : World) (row : Option Nat) : w.grownBy w.drew row := ⟨rfl, rfl, rfl, Nat.le_refl _, fun _ _ _ => rfl⟩

set_option maxHeartbeats 8000000 in
set_option maxRecDepth 100000 in
theorem replace_same (l : List Wr) (i : Nat) (hi : i ≤ l.length) (x : Wr) (v vp : Value) (w : World) (base : Nat) (hown : OwnMk w base v l) (hbase : base ≤ w.heap.size) (hp : SrcK w v [x] vp) (hlen : l.length + 1 ≤ 1000000) :
    Calls Tryz.prog 51 #[v, .int .i64 i, .int .i64 i, vp] w fun e w' =>
      ∃ A' c', e = .returned (.slice A' (l.take i ++ [x] ++ l.drop i).length c') ∧ OwnMk w' base (.slice A' (l.take i ++ [x] ++ l.drop i).length c') (l.take i ++ [x] ++ l.drop i) ∧ w.grownBy w' v.ownBlock ∧ NewRow w v.ownBlock (Value.ownBlock (.slice A' (l.take i ++ [x] ++ l.drop i).length c')) := by
  have hcon := sinsert_any l i hi x v vp w base hown hbase hp hlen
  obtain ⟨A, c, rfl, hc, hcm⟩ := hown.slice
  obtain ⟨L, hL⟩ : ∃ L, L = l.take i ++ [x] ++ l.drop i := ⟨_, rfl⟩
  rw [← hL] at hcon ⊢
  generalize L.length = z at hcon ⊢
  generalize (Value.slice A l.length c).ownBlock = row at hcon ⊢
  obtain ⟨vb, vc, vcur, rfl, _⟩ := hp
  clear hown hL
  have HC := Lib.hid hcon; clear hcon
  have hb0 : (i : Int) ≤ (c : Int) := by omega
  simp only [List.length_cons, List.length_nil] at HC ⊢
  generalize l.length = n at *
  by_cases hci : c = i
  · subst hci
    go_enter Tryz.func51, Tryz.ntmps51
    go_wp2_with fail
    refine HC.out.mono ?_
    rintro e w1 ⟨A', c', rfl, h1, h2, h3⟩
    have HO1 := Lib.hid h1; clear h1
    have HG1 := Lib.hid h2; clear h2
    have HN1 := Lib.hid h3; clear h3
    go_wp2_with fail
    go_ret
    exact ⟨A', c', rfl, HO1.out, HG1.out, HN1.out⟩
  · go_enter Tryz.func51, Tryz.ntmps51
    go_wp2_with fail
    refine HC.out.mono ?_
    rintro e w1 ⟨A', c', rfl, h1, h2, h3⟩
    have HO1 := Lib.hid h1; clear h1
    have HG1 := Lib.hid h2; clear h2
    have HN1 := Lib.hid h3; clear h3
    go_wp2_with fail
    go_ret
    exact ⟨A', c', rfl, HO1.out, HG1.out, HN1.out⟩
end Go.Proofs.YtcmpbhcldaogiaaGreat
namespace Go.Proofs.YtcmpbhcldaogiaaGreat
open Go.RowKit

set_option maxHeartbeats 8000000 in
set_option maxRecDepth 100000 in
theorem replace_endLt (i n m cap mc g : Nat) (sp : Option Addr) (cur cs : List Value) (w : World) (hg : Whole w g 67 cur) (hcs : cs.length = m * 3) (hs : Srcs w sp cs) (h1 : ∀ v ∈ cs, v.oneCell' = true) (hin : i < n) (hnc : n ≤ cap) (hcm : cap ≤ maxLen) (hcl : cur.length = cap * 3) (hlt : i + m < n) :
    Calls Tryz.prog 51 #[.slice (some ⟨g, 0, none⟩) n cap, .int .i64 i, .int .i64 n, .slice sp m mc] w fun e w' =>
      e = .returned (.slice (some ⟨g, 0, none⟩) (i + m) cap) ∧ ∃ cur', Whole w' g 67 cur' ∧ cur'.length = cap * 3 ∧ cur'.take ((i + m) * 3) = cur.take (i * 3) ++ cs ∧ w.grownBy w' (some g) := by
  unfold maxLen at hcm
  have hb0 : (i : Int) ≤ (n : Int) := by omega
  have hb1 : (n : Int) ≤ (cap : Int) := by omega
  have hb2 : ¬ ((i : Int) = (n : Int)) := by omega
  have hb3 : (i : Int) ≤ (cap : Int) := by omega
  have hb7 : ¬ (cap = i) := by omega
  have HG := Lib.hid hg; clear hg
  have HS := Lib.hid hs; clear hs
  have HCS := Lib.hid hcs; clear hcs
  have HL := Lib.hid hcl; clear hcl
  have H1 := Lib.hid h1; clear h1
  have hc1 : (i : Int) + (m : Int) < (n : Int) := by omega
  have hc2 : ¬ (cap = i + m) := by omega
  have hc3 : (i : Int) + (m : Int) ≤ (n : Int) := by omega
  have hc4 : (0 : Int) ≤ (i : Int) + (m : Int) := by omega
  have hc5 : ((i : Int) + (m : Int)).toNat = i + m := by omega
  go_enter Tryz.func51, Tryz.ntmps51
  go_wp2_with (with_reducible show wpList _ _ _ (⟨some 34, _, _, _, _, _⟩ :: _) _ _; go_must (refine wpList_roomP rfl _ _ rfl g i cap cur cs _ _ _ rfl rfl HG.out HCS.out HS.out ?c1 ?c2 H1.out ?_))
  case c1 => omega
  case c2 => rw [HCS.out, HL.out]; omega
  intro w1 hm1
  obtain ⟨Y, hY⟩ : ∃ Y, Y = splice cur (i * 3) cs := ⟨_, rfl⟩
  rw [← hY] at hm1
  have hYl : Y.length = cap * 3 := by rw [hY, length_splice _ _ _ (by rw [HCS.out, HL.out]; omega), HL.out]
  have hYt : Y.take ((i + m) * 3) = cur.take (i * 3) ++ cs := by rw [hY, take_splice_end cur _ (i * 3) _ (by rw [HL.out]; omega) (by rw [HCS.out]; omega)]
  have HYL := Lib.hid hYl; clear hYl
  have HYT := Lib.hid hYt; clear hYt
  clear hY
  go_wp2_with (with_reducible show wpList _ _ _ (⟨none, _, _, _, _, _⟩ :: _) _ _; go_must (refine wpList_clearP rfl _ rfl g ((i + m) * 3) Y _ _ _ rfl hm1.out.whole (fun _ => rfl) ?d1 ?_))
  case d1 => rw [HYL.out]; omega
  intro w2 zs hz hm2
  have HZ := Lib.hid hz; clear hz
  go_wp2_with fail
  go_ret
  refine ⟨rfl, _, hm2.out.whole, ?_, ?_, grown_trans hm1.out.grown hm2.out.grown⟩
  · rw [length_splice _ _ _ (by rw [HZ.out, HYL.out]; omega), HYL.out]
  · rw [take_splice_lt Y _ _ _ (Nat.le_refl _) (by rw [HYL.out]; omega), HYT.out]

set_option maxHeartbeats 8000000 in
set_option maxRecDepth 100000 in
theorem replace_endEq (i n m cap mc g : Nat) (sp : Option Addr) (cur cs : List Value) (w : World) (hg : Whole w g 67 cur) (hcs : cs.length = m * 3) (hs : Srcs w sp cs) (h1 : ∀ v ∈ cs, v.oneCell' = true) (hin : i < n) (hnc : n ≤ cap) (hcm : cap ≤ maxLen) (hcl : cur.length = cap * 3) (hge : n ≤ i + m) (hroom : i + m ≤ cap) :
    Calls Tryz.prog 51 #[.slice (some ⟨g, 0, none⟩) n cap, .int .i64 i, .int .i64 n, .slice sp m mc] w fun e w' =>
      e = .returned (.slice (some ⟨g, 0, none⟩) (i + m) cap) ∧ ∃ cur', Whole w' g 67 cur' ∧ cur'.length = cap * 3 ∧ cur'.take ((i + m) * 3) = cur.take (i * 3) ++ cs ∧ w.grownBy w' (some g) := by
  unfold maxLen at hcm
  have hb0 : (i : Int) ≤ (n : Int) := by omega
  have hb1 : (n : Int) ≤ (cap : Int) := by omega
  have hb2 : ¬ ((i : Int) = (n : Int)) := by omega
  have hb3 : (i : Int) ≤ (cap : Int) := by omega
  have hb7 : ¬ (cap = i) := by omega
  have HG := Lib.hid hg; clear hg
  have HS := Lib.hid hs; clear hs
  have HCS := Lib.hid hcs; clear hcs
  have HL := Lib.hid hcl; clear hcl
  have H1 := Lib.hid h1; clear h1
  have hc1 : ¬ (i : Int) + (m : Int) < (n : Int) := by omega
  go_enter Tryz.func51, Tryz.ntmps51
  go_wp2_with (with_reducible show wpList _ _ _ (⟨some 34, _, _, _, _, _⟩ :: _) _ _; go_must (refine wpList_roomP rfl _ _ rfl g i cap cur cs _ _ _ rfl rfl HG.out HCS.out HS.out ?c1 ?c2 H1.out ?_))
  case c2 => rw [HCS.out, HL.out]; omega
  intro w1 hm1
  obtain ⟨Y, hY⟩ : ∃ Y, Y = splice cur (i * 3) cs := ⟨_, rfl⟩
  rw [← hY] at hm1
  have hYl : Y.length = cap * 3 := by rw [hY, length_splice _ _ _ (by rw [HCS.out, HL.out]; omega), HL.out]
  have hYt : Y.take ((i + m) * 3) = cur.take (i * 3) ++ cs := by rw [hY, take_splice_end cur _ (i * 3) _ (by rw [HL.out]; omega) (by rw [HCS.out]; omega)]
  have HYL := Lib.hid hYl; clear hYl
  have HYT := Lib.hid hYt; clear hYt
  clear hY
  go_wp2_with fail
  go_ret
  exact ⟨rfl, _, hm1.out.whole, HYL.out, HYT.out, hm1.out.grown⟩

set_option maxHeartbeats 8000000 in
set_option maxRecDepth 100000 in
theorem replace_endGrow (l : List Wr) (i cap g : Nat) (p : List Wr) (v : Value) (cur : List Value) (w : World) (base : Nat) (hbg : base ≤ g) (hg : Whole w g 67 cur) (hin : i < l.length) (hnc : l.length ≤ cap) (hcm : cap ≤ maxLen) (hcl : cur.length = cap * 3) (htk : cur.take (l.length * 3) = flatG encW l)
    (hbase : base ≤ w.heap.size) (hp : SrcK w (.slice (some ⟨g, 0, none⟩) l.length cap) p v) (hgt : cap < i + p.length) (hlen : i + p.length ≤ 1000000) :
    Calls Tryz.prog 51 #[.slice (some ⟨g, 0, none⟩) l.length cap, .int .i64 i, .int .i64 l.length, v] w fun e w' =>
      ∃ A' c', e = .returned (.slice A' (l.take i ++ p).length c') ∧ OwnMk w' base (.slice A' (l.take i ++ p).length c') (l.take i ++ p) ∧ w.grownBy w' (some g) ∧ NewRow w (some g) (Value.ownBlock (.slice A' (l.take i ++ p).length c')) := by
  unfold maxLen at hcm
  have hA : (l.take i).length = i := by rw [List.length_take]; omega
  have ho : OwnMk w base (.slice (some ⟨g, 0, none⟩) i cap) (l.take i) := by
    have := Own.ofRow (enc := encW) (k := 3) (e := 67) encW_len (l.take i) hbg hg (by rw [hA]; omega) (by unfold maxLen; omega) hcl (by rw [hA, flatG_take encW_len, ← htk, List.take_take, Nat.min_eq_left (by omega)])
    rwa [hA] at this
  have HR := Lib.hid hp.rd
  obtain ⟨vb, vc, vcur, rfl, _⟩ := hp
  have HO := Lib.hid ho; clear ho hg htk
  have HA := Lib.hid hA
  have hL : (l.take i ++ p).length = i + p.length := by rw [List.length_append, hA]
  have HL := Lib.hid hL
  generalize l.take i = la at HO HA HL hA hL ⊢
  clear hL
  rw [HL.out]
  generalize l.length = n at *
  have hb0 : (i : Int) ≤ (n : Int) := by omega
  have hb1 : (n : Int) ≤ (cap : Int) := by omega
  have hb2 : ¬ ((i : Int) = (n : Int)) := by omega
  have hb3 : (i : Int) ≤ (cap : Int) := by omega
  have hb7 : ¬ (cap = i) := by omega
  have hc1 : ¬ (i : Int) + (p.length : Int) < (n : Int) := by omega
  have hA2 := hA
  clear hA
  go_enter Tryz.func51, Tryz.ntmps51
  obtain ⟨i0, hi, hz0, hz1, hz2⟩ := info_mkE
  go_wp2_with (at_builtin; go_must (refine BigFrame.wpList_want rfl fun K2 hK => ?_; refine wp_addAnyN (enc := encW) (k := 3) 44 67 40 i0 _ Tryz.underlying44 hi hz0 hz1 hz2 rfl (by decide) encW_len encW_one _ _ rfl base _ la rfl HO.out w.heap.size _ p rfl HR.out (by unfold maxLen; omega) (by omega) hbase ?_))
  intro A' c' w1 h1 h2 h3
  have HO1 := Lib.hid h1; clear h1
  have HG1 := Lib.hid h2; clear h2
  have HN1 := Lib.hid h3; clear h3
  refine hK _ _ ?_
  clear hK hA2
  (try rw [HL.out] at HO1)
  (try rw [HL.out] at HN1)
  go_wp2_with fail
  go_ret
  exact ⟨A', c', rfl, HO1.out, HG1.out, HN1.out⟩
end Go.Proofs.YtcmpbhcldaogiaaGreat
namespace Go.Proofs.YtcmpbhcldaogiaaGreat
open Go.RowKit

set_option maxHeartbeats 8000000 in
set_option maxRecDepth 100000 in
theorem replace_midLt (i j n m q cap mc g : Nat) (sp : Option Addr) (cur cs ds : List Value) (w : World) (hg : Whole w g 67 cur) (hcs : cs.length = m * 3) (hs : ∀ w', w.grownBy w' (some g) → Srcs w' sp cs) (h1 : ∀ v ∈ cs, v.oneCell' = true) (hij : i < j) (hjq : j + q = n) (hq : 0 < q) (hnc : n ≤ cap) (hcm : cap ≤ maxLen) (hm : i + m ≤ j)
    (hcl : cur.length = cap * 3) (hds : ds.length = q * 3) (hd : ∀ t v, ds[t]? = some v → cur[j * 3 + t]? = some v) (h2 : ∀ v ∈ ds, v.oneCell' = true) (k T : Nat) (hk : k = i + m) (hT : T = k + q) (hc : ¬ (cap = T)) :
    Calls Tryz.prog 51 #[.slice (some ⟨g, 0, none⟩) n cap, .int .i64 i, .int .i64 j, .slice sp m mc] w fun e w' =>
      e = .returned (.slice (some ⟨g, 0, none⟩) T cap) ∧ ∃ cur', Whole w' g 67 cur' ∧ cur'.length = cap * 3 ∧ cur'.take (T * 3) = cur.take (i * 3) ++ cs ++ ds ∧ w.grownBy w' (some g) := by
  unfold maxLen at hcm
  have hb0 : (i : Int) ≤ (j : Int) := by omega
  have hb1 : (j : Int) ≤ (n : Int) := by omega
  have hb2 : ¬ ((i : Int) = (j : Int)) := by omega
  have hb3 : ¬ ((j : Int) = (n : Int)) := by omega
  have hb4 : (i : Int) ≤ (cap : Int) := by omega
  have hb5 : (j : Int) ≤ (cap : Int) := by omega
  have hb6 : ¬ ((cap : Int) < (T : Int)) := by omega
  have hb7 : ¬ (cap = i) := by omega
  have hb8 : ¬ (cap = j) := by omega
  have hb9 : ¬ (cap = k) := by omega
  have hb10 : (T : Int) ≤ (cap : Int) := by omega
  have hb11 : (i : Int) ≤ (T : Int) := by omega
  have hb12 : (k : Int) ≤ (T : Int) := by omega
  have hb13 : (T : Int) ≤ (n : Int) := by omega
  have hb14 : (k : Int) ≤ (j : Int) := by omega
  have hw1 : IntKind.i64.wrap ((i : Int) + (m : Int)) = (k : Int) := by rw [IntKind.wrap_i64]; omega
  have hw2 : IntKind.i64.wrap ((k : Int) + ((n - j : Nat) : Int)) = (T : Int) := by rw [IntKind.wrap_i64]; omega
  have HG := Lib.hid hg; clear hg
  have HS := Lib.hid hs; clear hs
  have HCS := Lib.hid hcs; clear hcs
  have HDS := Lib.hid hds; clear hds
  have HD := Lib.hid hd; clear hd
  have HL := Lib.hid hcl; clear hcl
  have H1 := Lib.hid h1; clear h1
  have H2 := Lib.hid h2; clear h2
  have HK := Lib.hid hk; clear hk
  have HT := Lib.hid hT; clear hT
  have HJ := Lib.hid hjq; clear hjq
  go_enter Tryz.func51, Tryz.ntmps51
  go_wp2_with fail
  refine wp_region_plan (S := fun _ => True) [(true, 0), (true, 1), (true, 2), (true, 3), (true, 4), (true, 5), (true, 6), (true, 7), (true, 8), (true, 9), (true, 10), (true, 11), (true, 12)] (by kernel_rfl) (by kernel_rfl) (fun _ _ d _ _ h => by cases d <;> exact h) trivial ?_
  repeat (refine Plan.take (v := ?_) rfl rfl ?_ ?_; rotate_left; (focus (intro W hW; go_simp; (try with_reducible rfl); done)); (try simp only [Act.put, List.setIfInBounds_toArray, List.set_cons_zero, List.set_cons_succ]))
  simp only [Plan]
  go_wp2_with (with_reducible show wpList _ _ _ (⟨some 97, _, _, _, _, _⟩ :: _) _ _; go_must (refine wpList_copyP rfl _ _ rfl g (i * 3) cur cs _ _ _ _ _ _ rfl rfl HG.out.drew ?c1 (fun _ => rfl) (HS.out _ (grown_drew _ _)) ?c2 H1.out ?_))
  case c1 => rw [HCS.out, show Nat.min m (T - i) = m from Nat.min_eq_left (by have := HT.out; have := HK.out; omega)]
  case c2 => rw [HCS.out, HL.out]; omega
  intro w1 hm1
  obtain ⟨Y, hY⟩ : ∃ Y, Y = splice cur (i * 3) cs := ⟨_, rfl⟩
  rw [← hY] at hm1
  have hYl : Y.length = cap * 3 := by rw [hY, length_splice _ _ _ (by rw [HCS.out, HL.out]; omega), HL.out]
  have hYt : Y.take (k * 3) = cur.take (i * 3) ++ cs := by rw [hY, take_splice_end cur _ (i * 3) _ (by rw [HL.out]; omega) (by rw [HCS.out, HK.out]; omega)]
  have hYd : ∀ t v, ds[t]? = some v → Y[j * 3 + t]? = some v := fun t v ht => by rw [hY, get_splice_ge cur cs (i * 3) _ (by rw [HCS.out]; have := HK.out; omega) (by rw [HL.out]; omega)]; exact HD.out t v ht
  have HYL := Lib.hid hYl; clear hYl
  have HYT := Lib.hid hYt; clear hYt
  have HYD := Lib.hid hYd; clear hYd
  clear hY
  go_wp2_with fail
  refine wp_region_plan (S := fun _ => True) [(true, 0), (true, 1), (true, 2), (true, 3), (true, 4), (true, 5), (true, 6), (true, 7), (true, 8), (false, 9)] (by kernel_rfl) (by kernel_rfl) (fun _ _ d _ _ h => by cases d <;> exact h) trivial ?_
  repeat (refine Plan.take (v := ?_) rfl rfl ?_ ?_; rotate_left; (focus (intro W hW; go_simp; (try with_reducible rfl); done)); (try simp only [Act.put, List.setIfInBounds_toArray, List.set_cons_zero, List.set_cons_succ]))
  refine Plan.step rfl rfl fun K2 hK => ?_
  refine wp_copyP _ _ rfl g (k * 3) Y ds _ _ _ _ _ _ rfl rfl hm1.out.whole.drew ?_ (fun _ => rfl) (Srcs.of (hm1.out.whole.drew.srcs (j * 3) _ HYD.out)) ?_ H2.out ?_
  · rw [HDS.out, show Nat.min (n - j) (T - k) = q from by have := HT.out; have := HJ.out; rw [show n - j = q by omega, show T - k = q by omega]; exact Nat.min_self q]
  · rw [HDS.out, HYL.out]; have := HJ.out; omega
  intro w2 hm2
  refine hK _ _ trivial ?_
  simp only [Plan]
  clear hK K2
  obtain ⟨Z, hZ⟩ : ∃ Z, Z = splice Y (k * 3) ds := ⟨_, rfl⟩
  rw [← hZ] at hm2
  have hZl : Z.length = cap * 3 := by rw [hZ, length_splice _ _ _ (by rw [HDS.out, HYL.out]; have := HJ.out; omega), HYL.out]
  have hZt : Z.take (T * 3) = cur.take (i * 3) ++ cs ++ ds := by rw [hZ, take_splice_end Y _ (k * 3) _ (by rw [HYL.out]; omega) (by rw [HDS.out, HT.out]; omega), HYT.out]
  have HZL := Lib.hid hZl; clear hZl
  have HZT := Lib.hid hZt; clear hZt
  clear hZ
  go_wp2_with (with_reducible show wpList _ _ _ (⟨none, _, _, _, _, _⟩ :: _) _ _; go_must (refine wpList_clearP rfl _ rfl g (T * 3) Z _ _ _ rfl hm2.out.whole (fun _ => rfl) ?d1 ?_))
  case d1 => rw [HZL.out]; omega
  intro w3 zs hz hm3
  have HZ := Lib.hid hz; clear hz
  go_wp2_with fail
  go_ret
  refine ⟨rfl, _, hm3.out.whole, ?_, ?_, grown_trans (grown_undrew hm1.out.grown) (grown_trans (grown_undrew hm2.out.grown) hm3.out.grown)⟩
  · rw [length_splice _ _ _ (by rw [HZ.out, HZL.out]; omega), HZL.out]
  · rw [take_splice_lt Z _ _ _ (Nat.le_refl _) (by rw [HZL.out]; omega), HZT.out]
end Go.Proofs.YtcmpbhcldaogiaaGreat
namespace Go.Proofs.YtcmpbhcldaogiaaGreat
open Go.RowKit

set_option maxHeartbeats 8000000 in
set_option maxRecDepth 100000 in
theorem replace_midEq (i j n m q cap mc g : Nat) (sp : Option Addr) (cur cs ds : List Value) (w : World) (hg : Whole w g 67 cur) (hcs : cs.length = m * 3) (hs : ∀ w', w.grownBy w' (some g) → Srcs w' sp cs) (h1 : ∀ v ∈ cs, v.oneCell' = true) (hij : i < j) (hjq : j + q = n) (hq : 0 < q) (hnc : n ≤ cap) (hcm : cap ≤ maxLen) (hm : i + m ≤ j)
    (hcl : cur.length = cap * 3) (hds : ds.length = q * 3) (hd : ∀ t v, ds[t]? = some v → cur[j * 3 + t]? = some v) (h2 : ∀ v ∈ ds, v.oneCell' = true) (k T : Nat) (hk : k = i + m) (hT : T = k + q) (hc : cap = T) :
    Calls Tryz.prog 51 #[.slice (some ⟨g, 0, none⟩) n cap, .int .i64 i, .int .i64 j, .slice sp m mc] w fun e w' =>
      e = .returned (.slice (some ⟨g, 0, none⟩) T cap) ∧ ∃ cur', Whole w' g 67 cur' ∧ cur'.length = cap * 3 ∧ cur'.take (T * 3) = cur.take (i * 3) ++ cs ++ ds ∧ w.grownBy w' (some g) := by
  unfold maxLen at hcm
  subst hc
  have hb0 : (i : Int) ≤ (j : Int) := by omega
  have hb1 : (j : Int) ≤ (n : Int) := by omega
  have hb2 : ¬ ((i : Int) = (j : Int)) := by omega
  have hb3 : ¬ ((j : Int) = (n : Int)) := by omega
  have hb4 : (i : Int) ≤ (cap : Int) := by omega
  have hb5 : (j : Int) ≤ (cap : Int) := by omega
  have hb6 : ¬ ((cap : Int) < (cap : Int)) := by omega
  have hb7 : ¬ (cap = i) := by omega
  have hb8 : ¬ (cap = j) := by omega
  have hb9 : ¬ (cap = k) := by omega
  have hb10 : (cap : Int) ≤ (cap : Int) := by omega
  have hb11 : (i : Int) ≤ (cap : Int) := by omega
  have hb12 : (k : Int) ≤ (cap : Int) := by omega
  have hb13 : (cap : Int) ≤ (n : Int) := by omega
  have hb14 : (k : Int) ≤ (j : Int) := by omega
  have hw1 : IntKind.i64.wrap ((i : Int) + (m : Int)) = (k : Int) := by rw [IntKind.wrap_i64]; omega
  have hw2 : IntKind.i64.wrap ((k : Int) + ((n - j : Nat) : Int)) = (cap : Int) := by rw [IntKind.wrap_i64]; omega
  have HG := Lib.hid hg; clear hg
  have HS := Lib.hid hs; clear hs
  have HCS := Lib.hid hcs; clear hcs
  have HDS := Lib.hid hds; clear hds
  have HD := Lib.hid hd; clear hd
  have HL := Lib.hid hcl; clear hcl
  have H1 := Lib.hid h1; clear h1
  have H2 := Lib.hid h2; clear h2
  have HK := Lib.hid hk; clear hk
  have HT := Lib.hid hT; clear hT
  have HJ := Lib.hid hjq; clear hjq
  go_enter Tryz.func51, Tryz.ntmps51
  go_wp2_with fail
  refine wp_region_plan (S := fun _ => True) [(true, 0), (true, 1), (true, 2), (true, 3), (true, 4), (true, 5), (true, 6), (true, 7), (true, 8), (true, 9), (true, 10), (true, 11), (true, 12)] (by kernel_rfl) (by kernel_rfl) (fun _ _ d _ _ h => by cases d <;> exact h) trivial ?_
  repeat (refine Plan.take (v := ?_) rfl rfl ?_ ?_; rotate_left; (focus (intro W hW; go_simp; (try with_reducible rfl); done)); (try simp only [Act.put, List.setIfInBounds_toArray, List.set_cons_zero, List.set_cons_succ]))
  simp only [Plan]
  go_wp2_with (with_reducible show wpList _ _ _ (⟨some 97, _, _, _, _, _⟩ :: _) _ _; go_must (refine wpList_copyP rfl _ _ rfl g (i * 3) cur cs _ _ _ _ _ _ rfl rfl HG.out.drew ?c1 (fun _ => rfl) (HS.out _ (grown_drew _ _)) ?c2 H1.out ?_))
  case c1 => rw [HCS.out, show Nat.min m (cap - i) = m from Nat.min_eq_left (by have := HT.out; have := HK.out; omega)]
  case c2 => rw [HCS.out, HL.out]; omega
  intro w1 hm1
  obtain ⟨Y, hY⟩ : ∃ Y, Y = splice cur (i * 3) cs := ⟨_, rfl⟩
  rw [← hY] at hm1
  have hYl : Y.length = cap * 3 := by rw [hY, length_splice _ _ _ (by rw [HCS.out, HL.out]; omega), HL.out]
  have hYt : Y.take (k * 3) = cur.take (i * 3) ++ cs := by rw [hY, take_splice_end cur _ (i * 3) _ (by rw [HL.out]; omega) (by rw [HCS.out, HK.out]; omega)]
  have hYd : ∀ t v, ds[t]? = some v → Y[j * 3 + t]? = some v := fun t v ht => by rw [hY, get_splice_ge cur cs (i * 3) _ (by rw [HCS.out]; have := HK.out; omega) (by rw [HL.out]; omega)]; exact HD.out t v ht
  have HYL := Lib.hid hYl; clear hYl
  have HYT := Lib.hid hYt; clear hYt
  have HYD := Lib.hid hYd; clear hYd
  clear hY
  go_wp2_with fail
  refine wp_region_plan (S := fun _ => True) [(true, 0), (true, 1), (true, 2), (true, 3), (true, 4), (true, 5), (true, 6), (true, 7), (true, 8), (false, 9)] (by kernel_rfl) (by kernel_rfl) (fun _ _ d _ _ h => by cases d <;> exact h) trivial ?_
  repeat (refine Plan.take (v := ?_) rfl rfl ?_ ?_; rotate_left; (focus (intro W hW; go_simp; (try with_reducible rfl); done)); (try simp only [Act.put, List.setIfInBounds_toArray, List.set_cons_zero, List.set_cons_succ]))
  refine Plan.step rfl rfl fun K2 hK => ?_
  refine wp_copyP _ _ rfl g (k * 3) Y ds _ _ _ _ _ _ rfl rfl hm1.out.whole.drew ?_ (fun _ => rfl) (Srcs.of (hm1.out.whole.drew.srcs (j * 3) _ HYD.out)) ?_ H2.out ?_
  · rw [HDS.out, show Nat.min (n - j) (cap - k) = q from by have := HT.out; have := HJ.out; rw [show n - j = q by omega, show cap - k = q by omega]; exact Nat.min_self q]
  · rw [HDS.out, HYL.out]; have := HJ.out; omega
  intro w2 hm2
  refine hK _ _ trivial ?_
  simp only [Plan]
  clear hK K2
  obtain ⟨Z, hZ⟩ : ∃ Z, Z = splice Y (k * 3) ds := ⟨_, rfl⟩
  rw [← hZ] at hm2
  have hZl : Z.length = cap * 3 := by rw [hZ, length_splice _ _ _ (by rw [HDS.out, HYL.out]; have := HJ.out; omega), HYL.out]
  have hZt : Z.take (cap * 3) = cur.take (i * 3) ++ cs ++ ds := by rw [hZ, take_splice_end Y _ (k * 3) _ (by rw [HYL.out]; omega) (by rw [HDS.out, HT.out]; omega), HYT.out]
  have HZL := Lib.hid hZl; clear hZl
  have HZT := Lib.hid hZt; clear hZt
  clear hZ
  go_wp2_with (with_reducible show wpList _ _ _ (⟨none, _, _, _, _, _⟩ :: _) _ _; go_must (refine wpList_clearP rfl _ rfl g (cap * 3) Z _ _ _ rfl hm2.out.whole (fun h => absurd h (by omega)) ?d1 ?_))
  case d1 => rw [HZL.out]; omega
  intro w3 hm3
  go_wp2_with fail
  go_ret
  refine ⟨rfl, Z, ?_, HZL.out, HZT.out, grown_trans (grown_undrew hm1.out.grown) (grown_trans (grown_undrew hm2.out.grown) hm3.out.grown)⟩
  have h := hm3.out.whole
  rwa [splice_nil] at h
end Go.Proofs.YtcmpbhcldaogiaaGreat
namespace Go.Proofs.YtcmpbhcldaogiaaGreat
open Go.RowKit
theorem put_cells {cur A B X Y : List Value} (hA : cur.take A.length = A) (hl : A.length + X.length + B.length ≤ cur.length) (hY : Y = splice cur (A.length + X.length) B) :
    (splice Y A.length X).take (A.length + X.length + B.length) = A ++ X ++ B := by
  have hYl : Y.length = cur.length := by rw [hY, length_splice _ _ _ (by omega)]
  have h1 : (splice Y A.length X).take (A.length + X.length) = A ++ X := by
    rw [take_splice_end Y X A.length _ (by omega) rfl, hY, take_splice_lt cur B _ _ (by omega) (by omega), hA]
  have h2 : (splice Y A.length X).drop (A.length + X.length) = B ++ cur.drop (A.length + X.length + B.length) := by
    rw [drop_splice_ge Y X A.length _ (Nat.le_refl _) (by omega), hY]
    unfold splice
    rw [List.drop_append, List.drop_eq_nil_of_le (by simp; omega), List.nil_append, show A.length + X.length - (cur.take (A.length + X.length)).length = 0 by simp; omega, List.drop_zero]
  have h3 : splice Y A.length X = (A ++ X ++ B) ++ cur.drop (A.length + X.length + B.length) := by
    rw [← List.take_append_drop (A.length + X.length) (splice Y A.length X), h1, h2, List.append_assoc (A ++ X)]
  rw [h3]
  exact List.take_left' (by simp only [List.length_append])
theorem overlaps_apart2 {w : World} {g vb : Nat} {cur cs : List Value} {o la ca lb cb : Nat} (hg : Whole w g 67 cur) (hv : Whole w vb 67 cs) (hne : vb ≠ g) (hc : cs.length ≠ 0) :
    (callFunc 67 #[.slice (some ⟨g, o, none⟩) la ca, .slice (some ⟨vb, 0, none⟩) lb cb]).run Tryz.prog w = .ok (.value (.bool false)) w := by
  rw [run_callFunc_extern Tryz.func67 (by kernel_rfl) (by kernel_rfl) (by kernel_rfl) (e := Extern.SlicesOverlaps.overlaps #[44, 44] #[4]) (by kernel_rfl),
    Lib.run_overlaps_apart w 44 4 67 Tryz.underlying44 3 Tryz.sizeOf67 ⟨g, o, none⟩ ⟨vb, 0, none⟩ la ca lb cb (Ne.symm hne) _ _ _ _ hg.shape hv.shape hc (hg.frozen _) (hg.frozen _)]
  rfl

set_option maxHeartbeats 8000000 in
set_option maxRecDepth 100000 in
/-- more is put in than is taken out, and there is room -/
theorem replace_midMore (i j n m q cap vc g vb : Nat) (cur vcur cs ds : List Value) (w : World) (hg : Whole w g 67 cur) (hv : Whole w vb 67 vcur) (hne : vb ≠ g) (hvl : vcur.length ≠ 0) (hcs : cs.length = m * 3) (hsv : ∀ (t : Nat) (v : Value), cs[t]? = some v → vcur[t]? = some v) (h1 : ∀ v ∈ cs, v.oneCell' = true) (hij : i < j) (hjq : j + q = n) (hq : 0 < q) (hnc : n ≤ cap) (hcm : cap ≤ maxLen) (hm : j < i + m)
    (hcl : cur.length = cap * 3) (hds : ds.length = q * 3) (hd : ∀ t v, ds[t]? = some v → cur[j * 3 + t]? = some v) (h2 : ∀ v ∈ ds, v.oneCell' = true) (k T : Nat) (hk : k = i + m) (hT : T = k + q) (hc : T ≤ cap) :
    Calls Tryz.prog 51 #[.slice (some ⟨g, 0, none⟩) n cap, .int .i64 i, .int .i64 j, .slice (some ⟨vb, 0, none⟩) m vc] w fun e w' =>
      e = .returned (.slice (some ⟨g, 0, none⟩) T cap) ∧ ∃ cur', Whole w' g 67 cur' ∧ cur'.length = cap * 3 ∧ cur'.take (T * 3) = cur.take (i * 3) ++ cs ++ ds ∧ w.grownBy w' (some g) := by
  have hov := fun la ca lb cb (W : World) (h : Whole W g 67 cur ∧ Whole W vb 67 vcur) => overlaps_apart2 (o := k * 3) (la := la) (ca := ca) (lb := lb) (cb := cb) h.1 h.2 hne hvl
  have hovd := fun la ca lb cb => hov la ca lb cb w.drew ⟨hg.drew, hv.drew⟩
  clear hov
  unfold maxLen at hcm
  have hb0 : (i : Int) ≤ (j : Int) := by omega
  have hb1 : (j : Int) ≤ (n : Int) := by omega
  have hb2 : ¬ ((i : Int) = (j : Int)) := by omega
  have hb3 : ¬ ((j : Int) = (n : Int)) := by omega
  have hb4 : (i : Int) ≤ (cap : Int) := by omega
  have hb5 : (j : Int) ≤ (cap : Int) := by omega
  have hb6 : ¬ ((cap : Int) < (T : Int)) := by omega
  have hb7 : ¬ (cap = i) := by omega
  have hb8 : ¬ (cap = j) := by omega
  have hb9 : ¬ (cap = k) := by omega
  have hb10 : (T : Int) ≤ (cap : Int) := by omega
  have hb11 : (i : Int) ≤ (T : Int) := by omega
  have hb12 : (k : Int) ≤ (T : Int) := by omega
  have hb14 : ¬ ((k : Int) ≤ (j : Int)) := by omega
  have hw1 : IntKind.i64.wrap ((i : Int) + (m : Int)) = (k : Int) := by rw [IntKind.wrap_i64]; omega
  have hw2 : IntKind.i64.wrap ((k : Int) + ((n - j : Nat) : Int)) = (T : Int) := by rw [IntKind.wrap_i64]; omega
  have HG := Lib.hid hg; clear hg
  have HV := Lib.hid hv; clear hv
  have HS := Lib.hid hsv; clear hsv
  have HCS := Lib.hid hcs; clear hcs
  have HDS := Lib.hid hds; clear hds
  have HD := Lib.hid hd; clear hd
  have HL := Lib.hid hcl; clear hcl
  have H1 := Lib.hid h1; clear h1
  have H2 := Lib.hid h2; clear h2
  have HK := Lib.hid hk; clear hk
  have HT := Lib.hid hT; clear hT
  have HJ := Lib.hid hjq; clear hjq
  go_enter Tryz.func51, Tryz.ntmps51
  go_wp2_with fail
  refine wp_region_plan (S := fun _ => True) [(true, 0), (true, 1), (true, 2), (true, 3), (true, 4), (true, 5), (true, 6), (true, 7), (true, 8), (true, 9), (true, 10), (true, 11), (true, 12)] (by kernel_rfl) (by kernel_rfl) (fun _ _ d _ _ h => by cases d <;> exact h) trivial ?_
  repeat (refine Plan.take (v := ?_) rfl rfl ?_ ?_; rotate_left; (focus (intro W hW; go_simp; (try with_reducible rfl); done)); (try simp only [Act.put, List.setIfInBounds_toArray, List.set_cons_zero, List.set_cons_succ]))
  simp only [Plan]
  go_wp2_with fail
  refine wp_region_plan (S := fun _ => True) [(true, 0), (true, 1), (true, 2), (true, 3), (true, 4), (true, 5), (true, 6), (true, 7), (true, 8), (false, 9)] (by kernel_rfl) (by kernel_rfl) (fun _ _ d _ _ h => by cases d <;> exact h) trivial ?_
  repeat (refine Plan.take (v := ?_) rfl rfl ?_ ?_; rotate_left; (focus (intro W hW; go_simp; (try with_reducible rfl); done)); (try simp only [Act.put, List.setIfInBounds_toArray, List.set_cons_zero, List.set_cons_succ]))
  refine Plan.step rfl rfl fun K2 hK => ?_
  refine wp_copyP _ _ rfl g (k * 3) cur ds _ _ _ _ _ _ rfl rfl HG.out.drew.drew ?_ (fun _ => rfl) (Srcs.of (HG.out.drew.drew.srcs (j * 3) _ HD.out)) ?_ H2.out ?_
  · rw [HDS.out, show Nat.min (n - j) (T - k) = q from by have := HT.out; have := HJ.out; rw [show n - j = q by omega, show T - k = q by omega]; exact Nat.min_self q]
  · rw [HDS.out, HL.out]; have := HJ.out; have := HT.out; omega
  intro w2 hm2
  refine hK _ _ trivial ?_
  simp only [Plan]
  clear hK K2
  have hv2 : Whole w2 vb 67 vcur := hm2.out.away HV.out.drew.drew hne
  have HV2 := Lib.hid hv2; clear hv2 hovd
  obtain ⟨Y, hY⟩ : ∃ Y, Y = splice cur (k * 3) ds := ⟨_, rfl⟩
  rw [← hY] at hm2
  have hYl : Y.length = cap * 3 := by rw [hY, length_splice _ _ _ (by rw [HDS.out, HL.out]; have := HT.out; omega), HL.out]
  have HY := Lib.hid hY; clear hY
  have HYL := Lib.hid hYl; clear hYl
  go_wp2_with (with_reducible show wpList _ _ _ (⟨some 135, _, _, _, _, _⟩ :: _) _ _; go_must (refine wpList_copyP rfl _ _ rfl g (i * 3) Y cs _ _ _ _ _ _ rfl rfl hm2.out.whole ?c1 (fun _ => rfl) (Srcs.of ?c2) ?c3 H1.out ?_))
  case c1 => rw [HCS.out, show Nat.min m (T - i) = m from Nat.min_eq_left (by have := HT.out; have := HK.out; omega)]
  case c2 => exact HV2.out.srcs 0 _ (fun j v hj => by rw [Nat.zero_add]; exact HS.out j v hj)
  case c3 => rw [HYL.out, HCS.out]; have := HK.out; have := HT.out; omega
  intro w3 hm3
  go_wp2_with fail
  go_ret
  refine ⟨rfl, _, hm3.out.whole, ?_, ?_, grown_trans (grown_undrew (grown_undrew hm2.out.grown)) hm3.out.grown⟩
  · rw [length_splice _ _ _ (by rw [HYL.out, HCS.out]; have := HK.out; have := HT.out; omega), HYL.out]
  · have hA : (cur.take (i * 3)).length = i * 3 := by rw [List.length_take, HL.out]; have := HK.out; have := HT.out; omega
    have h := put_cells (cur := cur) (A := cur.take (i * 3)) (B := ds) (X := cs) (Y := Y) (by rw [hA]) (by rw [hA, HCS.out, HDS.out, HL.out]; have := HK.out; have := HT.out; omega) (by rw [HY.out, hA, HCS.out, HK.out, Nat.add_mul])
    rw [hA, HCS.out, HDS.out, show i * 3 + m * 3 + q * 3 = T * 3 by have := HK.out; have := HT.out; omega] at h
    exact h

set_option maxHeartbeats 8000000 in
set_option maxRecDepth 100000 in
/-- more is put in than there is room for -/
theorem replace_midGrow (i j n m q cap vc g vb : Nat) (cur vcur cs ds : List Value) (w : World) (hg : Whole w g 67 cur) (hv : Whole w vb 67 vcur) (hcs : cs.length = m * 3) (hsv : ∀ (t : Nat) (v : Value), cs[t]? = some v → vcur[t]? = some v) (h1 : ∀ v ∈ cs, v.oneCell' = true) (hij : i < j) (hjq : j + q = n) (hq : 0 < q) (hnc : n ≤ cap) (hcm : cap ≤ maxLen)
    (hcl : cur.length = cap * 3) (hds : ds.length = q * 3) (hd : ∀ t v, ds[t]? = some v → cur[j * 3 + t]? = some v) (h2 : ∀ v ∈ ds, v.oneCell' = true) (k T d : Nat) (hk : k = i + m) (hT : T = k + q) (hdd : T = i + d) (hc : cap < T) (hlen : T ≤ 1000000) :
    Calls Tryz.prog 51 #[.slice (some ⟨g, 0, none⟩) n cap, .int .i64 i, .int .i64 j, .slice (some ⟨vb, 0, none⟩) m vc] w fun e w' =>
      ∃ c, e = .returned (.slice (some ⟨w.heap.size, 0, none⟩) T c) ∧ ∃ cur', Whole w' w.heap.size 67 cur' ∧ cur'.length = c * 3 ∧ T ≤ c ∧ c ≤ maxLen ∧ cur'.take (T * 3) = cur.take (i * 3) ++ cs ++ ds ∧ w.grownBy w' none := by
  unfold maxLen at hcm
  have hb0 : (i : Int) ≤ (j : Int) := by omega
  have hb1 : (j : Int) ≤ (n : Int) := by omega
  have hb2 : ¬ ((i : Int) = (j : Int)) := by omega
  have hb3 : ¬ ((j : Int) = (n : Int)) := by omega
  have hb4 : (i : Int) ≤ (cap : Int) := by omega
  have hb5 : (j : Int) ≤ (cap : Int) := by omega
  have hb6 : ((cap : Int) < (T : Int)) := by omega
  have hb7 : ¬ (cap = i) := by omega
  have hb8 : ¬ (cap = j) := by omega
  have hb12 : (k : Int) ≤ (i : Int) + (d : Int) := by omega
  have hb13 : (i : Int) ≤ (i : Int) + (d : Int) := by omega
  have hw1 : IntKind.i64.wrap ((i : Int) + (m : Int)) = (k : Int) := by rw [IntKind.wrap_i64]; omega
  have hw2 : IntKind.i64.wrap ((k : Int) + ((n - j : Nat) : Int)) = (T : Int) := by rw [IntKind.wrap_i64]; omega
  have hw3 : IntKind.i64.wrap ((T : Int) - (i : Int)) = (d : Int) := by rw [IntKind.wrap_i64]; omega
  have hvlt := hv.size
  have hglt := hg.size
  have hA : (cur.take (i * 3)).length = i * 3 := by rw [List.length_take, hcl]; omega
  have HA := Lib.hid hA; clear hA
  have HG := Lib.hid hg; clear hg
  have HV := Lib.hid hv; clear hv
  have HS := Lib.hid hsv; clear hsv
  have HCS := Lib.hid hcs; clear hcs
  have HDS := Lib.hid hds; clear hds
  have HD := Lib.hid hd; clear hd
  have HL := Lib.hid hcl; clear hcl
  have H1 := Lib.hid h1; clear h1
  have H2 := Lib.hid h2; clear h2
  have HK := Lib.hid hk; clear hk
  have HT := Lib.hid hT; clear hT
  have HJ := Lib.hid hjq; clear hjq
  have HDD := Lib.hid hdd; clear hdd
  go_enter Tryz.func51, Tryz.ntmps51
  go_wp2_with fail
  refine wp_region_plan (S := fun _ => True) [(true, 0), (true, 1), (true, 2), (true, 3), (true, 4), (true, 5), (true, 6), (true, 7), (true, 8), (true, 9), (true, 10), (true, 11), (true, 12)] (by kernel_rfl) (by kernel_rfl) (fun _ _ d _ _ h => by cases d <;> exact h) trivial ?_
  repeat (refine Plan.take (v := ?_) rfl rfl ?_ ?_; rotate_left; (focus (intro W hW; go_simp; (try with_reducible rfl); done)); (try simp only [Act.put, List.setIfInBounds_toArray, List.set_cons_zero, List.set_cons_succ]))
  simp only [Plan]
  go_wp2_with (with_reducible show wpList _ _ _ (⟨some 67, _, _, _, _, _⟩ :: _) _ _; go_must (refine wpList_zerosP rfl _ _ rfl (some ⟨g, 0, none⟩) i cap d (cur.take (i * 3)) rfl rfl HA.out (Srcs.of ?c1) ?c2 ?c3 ?c4 ?_))
  case c1 => exact HG.out.drew.srcs 0 _ (fun j v hj => by rw [Nat.zero_add]; rw [List.getElem?_take] at hj; split at hj; exact hj; cases hj)
  case c2 => have := HDD.out; omega
  case c3 => have := HDD.out; omega
  case c4 => have := HDD.out; omega
  intro w1 c cur1 hz hc9
  have hc1 : ¬ (c = i) := by have := HDD.out; have := HT.out; have := HK.out; omega
  have hc2 : ¬ (c = k) := by have := HDD.out; have := HT.out; omega
  have hv1 : Whole w1 vb 67 vcur := HV.out.drew.grown hz.out.2.2.2.2.2.1 (by simp)
  have hg1 : Whole w1 g 67 cur := HG.out.drew.grown hz.out.2.2.2.2.2.1 (by simp)
  have HV1 := Lib.hid hv1; clear hv1
  have HG1 := Lib.hid hg1; clear hg1
  clear hc9
  go_wp2_with (with_reducible show wpList _ _ _ (⟨some 72, _, _, _, _, _⟩ :: _) _ _; go_must (refine wpList_copyP rfl _ _ rfl w.heap.size (i * 3) cur1 cs _ _ _ _ _ _ rfl rfl hz.out.1 ?d1 (fun _ => rfl) (Srcs.of ?d2) ?d3 H1.out ?_))
  case d1 => rw [HCS.out, show Nat.min m d = m from Nat.min_eq_left (by have := HDD.out; have := HT.out; have := HK.out; omega)]
  case d2 => exact HV1.out.srcs 0 _ (fun j v hj => by rw [Nat.zero_add]; exact HS.out j v hj)
  case d3 => rw [hz.out.2.1, HCS.out]; have := hz.out.2.2.2.1; have := HDD.out; have := HT.out; have := HK.out; omega
  intro w2 hm2
  obtain ⟨Y, hY⟩ : ∃ Y, Y = splice cur1 (i * 3) cs := ⟨_, rfl⟩
  rw [← hY] at hm2
  have hYl : Y.length = c * 3 := by rw [hY, length_splice _ _ _ (by rw [HCS.out, hz.out.2.1]; have := hz.out.2.2.2.1; have := HDD.out; have := HT.out; have := HK.out; omega), hz.out.2.1]
  have hYt : Y.take (k * 3) = cur.take (i * 3) ++ cs := by
    rw [hY, take_splice_end cur1 _ (i * 3) _ (by rw [hz.out.2.1]; have := hz.out.2.2.2.1; omega) (by rw [HCS.out]; have := HK.out; omega), hz.out.2.2.1]
  have hg2 : Whole w2 g 67 cur := HG1.out.grown hm2.out.grown (by simp; omega)
  have HG2 := Lib.hid hg2; clear hg2
  have HYL := Lib.hid hYl; clear hYl
  have HYT := Lib.hid hYt; clear hYt
  clear hY
  go_wp2_with fail
  refine wp_region_plan (S := fun _ => True) [(true, 0), (true, 1), (true, 2), (true, 3), (true, 4), (true, 5), (true, 6), (true, 7), (true, 8), (false, 9)] (by kernel_rfl) (by kernel_rfl) (fun _ _ d _ _ h => by cases d <;> exact h) trivial ?_
  repeat (refine Plan.take (v := ?_) rfl rfl ?_ ?_; rotate_left; (focus (intro W hW; go_simp; (try with_reducible rfl); done)); (try simp only [Act.put, List.setIfInBounds_toArray, List.set_cons_zero, List.set_cons_succ]))
  refine Plan.step rfl rfl fun K2 hK => ?_
  refine wp_copyP _ _ rfl w.heap.size (k * 3) Y ds _ _ _ _ _ _ rfl rfl hm2.out.whole.drew ?_ (fun _ => rfl) (Srcs.of (HG2.out.drew.srcs (j * 3) _ HD.out)) ?_ H2.out ?_
  · rw [HDS.out, show Nat.min (n - j) (i + d - k) = q from by have := HDD.out; have := HT.out; have := HJ.out; rw [show n - j = q by omega, show i + d - k = q by omega]; exact Nat.min_self q]
  · rw [HDS.out, HYL.out]; have := hz.out.2.2.2.1; have := HDD.out; have := HT.out; omega
  intro w3 hm3
  refine hK _ _ trivial ?_
  simp only [Plan]
  clear hK
  go_wp2_with fail
  go_ret
  refine ⟨c, ?_, _, hm3.out.whole, ?_, ?_, hz.out.2.2.2.2.1, ?_, ?_⟩
  · rw [HDD.out]; rfl
  · rw [length_splice _ _ _ (by rw [HDS.out, HYL.out]; have := hz.out.2.2.2.1; have := HDD.out; have := HT.out; omega), HYL.out]
  · have := hz.out.2.2.2.1; have := HDD.out; omega
  · rw [take_splice_end Y _ (k * 3) _ (by rw [HYL.out]; have := hz.out.2.2.2.1; have := HDD.out; have := HT.out; omega) (by rw [HDS.out]; have := HT.out; omega), HYT.out]
  · exact grown_new (grown_new (grown_undrew hz.out.2.2.2.2.2.1) hm2.out.grown (Nat.le_refl _)) (grown_undrew hm3.out.grown) (Nat.le_refl _)
end Go.Proofs.YtcmpbhcldaogiaaGreat
namespace Go.Proofs.YtcmpbhcldaogiaaGreat
open Go.RowKit

set_option maxRecDepth 100000 in
/-- a part of the slice, by others; by one where nothing is taken out -/
theorem sreplace_any (l : List Wr) (i j : Nat) (hij : i ≤ j) (hj : j ≤ l.length) (p : List Wr) (h0 : p ≠ []) (h1p : i = j → p.length = 1) (v vp : Value) (w : World) (base : Nat) (hown : OwnMk w base v l) (hbase : base ≤ w.heap.size) (hp : SrcK w v p vp) (hlen : l.length + p.length ≤ 1000000) :
    Calls Tryz.prog 51 #[v, .int .i64 i, .int .i64 j, vp] w fun e w' =>
      ∃ A' c', e = .returned (.slice A' (l.take i ++ p ++ l.drop j).length c') ∧ OwnMk w' base (.slice A' (l.take i ++ p ++ l.drop j).length c') (l.take i ++ p ++ l.drop j) ∧ w.grownBy w' v.ownBlock ∧ NewRow w v.ownBlock (Value.ownBlock (.slice A' (l.take i ++ p ++ l.drop j).length c')) := by
  by_cases he : i = j
  · subst he
    obtain ⟨x, rfl⟩ := List.length_eq_one_iff.1 (h1p rfl)
    exact replace_same l i hj x v vp w base hown hbase hp (by simpa using hlen)
  rcases hown.row with ⟨rfl, rfl⟩ | ⟨g, cap, cur, rfl, hbg, hg, h1, h2, h3, h4⟩
  · simp at hj; omega
  have hpp := hp
  obtain ⟨vb, vc, vcur, rfl, hvc, hv, hvx, hvne⟩ := hp
  have hvg : vb ≠ g := fun e => hvne (by rw [e]; rfl)
  have hs : ∀ w', w.grownBy w' (some g) → Srcs w' (some ⟨vb, 0, none⟩) (flatG encW p) := fun w' hw =>
    Srcs.of ((hv.grown hw (by simpa using hvg)).srcs 0 _ (fun j v hj => by rw [Nat.zero_add]; exact src_cells hvx j v hj))
  have hs' := hs w (grown_same _ _)
  have fA : (flatG encW (l.take i)) = cur.take (i * 3) := by rw [flatG_take encW_len, ← h4, List.take_take, Nat.min_eq_left (by omega)]
  have hcs : (flatG encW p).length = p.length * 3 := flatG_length encW_len p
  have hp1 : 1 ≤ p.length := by
    cases p with
    | nil => exact absurd rfl h0
    | cons => simp
  have hvl : vcur.length ≠ 0 := fun e => by
    have := congrArg List.length hvx
    rw [hcs, List.length_take, e] at this
    omega
  by_cases hjn : j = l.length
  · subst hjn
    rw [List.drop_length, List.append_nil]
    have hL : (l.take i ++ p).length = i + p.length := by rw [List.length_append, List.length_take, Nat.min_eq_left hij]
    have fin : ∀ cur' w', i + p.length ≤ cap → Whole w' g 67 cur' → cur'.length = cap * 3 → cur'.take ((i + p.length) * 3) = cur.take (i * 3) ++ flatG encW p → w.grownBy w' (some g) →
        ∃ A' c', Ending.returned (Value.slice (some ⟨g, 0, none⟩) (i + p.length) cap) = .returned (.slice A' (l.take i ++ p).length c') ∧ OwnMk w' base (.slice A' (l.take i ++ p).length c') (l.take i ++ p) ∧ w.grownBy w' (Value.slice (some ⟨g, 0, none⟩) l.length cap).ownBlock ∧ NewRow w (Value.slice (some ⟨g, 0, none⟩) l.length cap).ownBlock (Value.ownBlock (.slice A' (l.take i ++ p).length c')) := fun cur' w' k0 k1 k2 k3 k4 =>
      ⟨some ⟨g, 0, none⟩, cap, by rw [hL], Own.ofRow encW_len _ hbg k1 (by rw [hL]; exact k0) h2 k2 (by rw [hL, k3, flatG_append, fA]), k4, fun g' hg' => .inl hg'⟩
    by_cases hroom : i + p.length ≤ cap
    · by_cases hlt : i + p.length < l.length
      · refine (replace_endLt i l.length p.length cap vc g _ cur (flatG encW p) w hg hcs hs' (encW_one' _) (by omega) h1 h2 h3 hlt).mono ?_
        rintro e w' ⟨rfl, cur', k1, k2, k3, k4⟩
        exact fin cur' w' hroom k1 k2 k3 k4
      · refine (replace_endEq i l.length p.length cap vc g _ cur (flatG encW p) w hg hcs hs' (encW_one' _) (by omega) h1 h2 h3 (by omega) hroom).mono ?_
        rintro e w' ⟨rfl, cur', k1, k2, k3, k4⟩
        exact fin cur' w' hroom k1 k2 k3 k4
    · exact replace_endGrow l i cap g p _ cur w base hbg hg (by omega) h1 h2 h3 h4 hbase hpp (by omega) (by omega)
  · have hd : (l.drop j).length = l.length - j := List.length_drop
    have hds : (flatG encW (l.drop j)).length = (l.length - j) * 3 := by rw [flatG_length encW_len, hd]
    have hdc : ∀ t v, (flatG encW (l.drop j))[t]? = some v → cur[j * 3 + t]? = some v := by
      have h5 : cur.take (l.length * 3) = flatG encW (l.take j) ++ flatG encW (l.drop j) := by rw [h4, ← flatG_append, List.take_append_drop]
      have h6 := cells_at h5
      rw [flatG_length encW_len, List.length_take, Nat.min_eq_left hj] at h6
      exact h6
    have hL : (l.take i ++ p ++ l.drop j).length = i + p.length + (l.length - j) := by rw [List.length_append, List.length_append, List.length_take, Nat.min_eq_left (by omega), hd]
    have fin : ∀ cur' w', i + p.length + (l.length - j) ≤ cap → Whole w' g 67 cur' → cur'.length = cap * 3 → cur'.take ((i + p.length + (l.length - j)) * 3) = cur.take (i * 3) ++ flatG encW p ++ flatG encW (l.drop j) → w.grownBy w' (some g) →
        ∃ A' c', Ending.returned (Value.slice (some ⟨g, 0, none⟩) (i + p.length + (l.length - j)) cap) = .returned (.slice A' (l.take i ++ p ++ l.drop j).length c') ∧ OwnMk w' base (.slice A' (l.take i ++ p ++ l.drop j).length c') (l.take i ++ p ++ l.drop j) ∧ w.grownBy w' (Value.slice (some ⟨g, 0, none⟩) l.length cap).ownBlock ∧ NewRow w (Value.slice (some ⟨g, 0, none⟩) l.length cap).ownBlock (Value.ownBlock (.slice A' (l.take i ++ p ++ l.drop j).length c')) := fun cur' w' k0 k1 k2 k3 k4 =>
      ⟨some ⟨g, 0, none⟩, cap, by rw [hL], Own.ofRow encW_len _ hbg k1 (by rw [hL]; exact k0) h2 k2 (by rw [hL, k3, flatG_append, flatG_append, fA]), k4, fun g' hg' => .inl hg'⟩
    by_cases hroom : i + p.length + (l.length - j) ≤ cap
    · by_cases hm : i + p.length ≤ j
      · by_cases hc : cap = i + p.length + (l.length - j)
        · refine (replace_midEq i j l.length p.length (l.length - j) cap vc g _ cur (flatG encW p) (flatG encW (l.drop j)) w hg hcs hs (encW_one' _) (by omega) (by omega) (by omega) h1 h2 hm h3 hds hdc (encW_one' _) _ _ rfl rfl hc).mono ?_
          rintro e w' ⟨rfl, cur', k1, k2, k3, k4⟩
          exact fin cur' w' hroom k1 k2 k3 k4
        · refine (replace_midLt i j l.length p.length (l.length - j) cap vc g _ cur (flatG encW p) (flatG encW (l.drop j)) w hg hcs hs (encW_one' _) (by omega) (by omega) (by omega) h1 h2 hm h3 hds hdc (encW_one' _) _ _ rfl rfl hc).mono ?_
          rintro e w' ⟨rfl, cur', k1, k2, k3, k4⟩
          exact fin cur' w' hroom k1 k2 k3 k4
      · refine (replace_midMore i j l.length p.length (l.length - j) cap vc g vb cur vcur (flatG encW p) (flatG encW (l.drop j)) w hg hv hvg hvl hcs (src_cells hvx) (encW_one' _) (by omega) (by omega) (by omega) h1 h2 (by omega) h3 hds hdc (encW_one' _) _ _ rfl rfl hroom).mono ?_
        rintro e w' ⟨rfl, cur', k1, k2, k3, k4⟩
        exact fin cur' w' hroom k1 k2 k3 k4
    · refine (replace_midGrow i j l.length p.length (l.length - j) cap vc g vb cur vcur (flatG encW p) (flatG encW (l.drop j)) w hg hv hcs (src_cells hvx) (encW_one' _) (by omega) (by omega) (by omega) h1 h2 h3 hds hdc (encW_one' _) _ _ (p.length + (l.length - j)) rfl rfl (by omega) (by omega) (by omega)).mono ?_
      rintro e w' ⟨c, rfl, cur', k1, k2, k3, k4, k5, k6⟩
      exact ⟨some ⟨w.heap.size, 0, none⟩, c, by rw [hL], Own.ofRow encW_len _ hbase k1 (by rw [hL]; exact k3) k4 k2 (by rw [hL, k5, flatG_append, flatG_append, fA]), ⟨k6.os, k6.tape, k6.output, k6.size, fun k hk _ => k6.block k hk (by simp)⟩, newRow_new _ _ _ _⟩
end Go.Proofs.YtcmpbhcldaogiaaGreat
namespace Go.Proofs.YtcmpbhcldaogiaaGreat
open Go.RowKit
attribute [local go_sem] less_eq same_eq le_eq ge_eq gt_eq

set_option maxHeartbeats 1000000 in
set_option maxRecDepth 100000 in
theorem add_nil (w0 w : World) (ob : Nat) (v : Value) (s : K × K) (hw : w0.grownBy w (some ob)) (hob : w.heap[ob]? = some (.cells #[v] 50 (0, 0))) (ho : OwnS w w0.heap.size v []) (hlt : ob < w0.heap.size) :
    Calls Tryz.prog 77 #[.agg #[.string s.1, .string s.2], .pointer (some ⟨ob, 0, none⟩)] w fun e w' => e = .returned (.tuple #[]) ∧ ∃ v', w'.heap[ob]? = some (.cells #[v'] 50 (0, 0)) ∧ OwnS w' w0.heap.size v' [s] ∧ w0.grownBy w' (some ob) := by
  have hv : ∃ A c, v = .slice A 0 c := by
    rcases ho.form with ⟨rfl, _⟩ | ⟨g, cap, rfl, _⟩
    · exact ⟨_, _, rfl⟩
    · exact ⟨_, _, rfl⟩
  obtain ⟨A, c, rfl⟩ := hv
  have hc := cell_of_one hob
  have hf := free_of_one hob
  have hlt' := lt_of_block hob
  have HO := Lib.hid ho; clear ho
  have HB := Lib.hid hob; clear hob
  have HW := Lib.hid hw; clear hw
  go_enter Tryz.func77, Tryz.ntmps77
  go_wp2_with fail
  go_quiet (fail)
  go_wp2_with (at_builtin; refine wpList_addS rfl _ _ rfl w0.heap.size (.slice A 0 c) [] rfl ?c0 _ 1 [s] rfl ?c1 ?c2 ?c3 ?_)
  case c0 => exact ((HO.out.alloc _).drewN nq).alloc _
  case c1 => simpa using new_cells ((w.alloc (.cells #[.string s.1, .string s.2] 29)).drewN nq) s 29
  case c2 => simp
  case c3 => have := HW.out.size; simp; omega
  intro A' c' w1 ho1 hg1
  have hz := HW.out.size
  have hrow : ∀ k, (Value.slice A 0 c).ownBlock = some k → w0.heap.size ≤ k := fun k hk => (HO.out.lt k hk).1
  have hne : some ob ≠ (Value.slice A 0 c).ownBlock := fun e => by have := hrow ob e.symm; omega
  have hb1 : w1.heap[ob]? = some (.cells #[.slice A 0 c] 50 (0, 0)) := by
    rw [hg1.block ob (by simp; omega) hne, Below.heap_alloc _ _ _ (by simp; omega)]
    show (w.alloc _).heap[ob]? = _
    rw [Below.heap_alloc _ _ _ hlt']
    exact HB.out
  have hc1 := cell_of_one hb1
  have hf1 := free_of_one hb1
  have HO1 := Lib.hid ho1; clear ho1
  have HG1 := Lib.hid hg1; clear hg1
  have HB1 := Lib.hid hb1; clear hb1
  clear hc hf
  go_wp2_with fail
  go_end0
  refine ⟨rfl, _, one_setCell HB1.out, HO1.out.setOther hlt 0 _, grow_set (grow_trans (grow_alloc (grow_drewN (grow_alloc HW.out _) _) _) HG1.out fun k hk => .inl (hrow k hk)) 0 _⟩

set_option maxHeartbeats 1000000 in
set_option maxRecDepth 100000 in
theorem add_snoc (w0 w : World) (ob : Nat) (v : Value) (p : List (K × K)) (l s : K × K) (hw : w0.grownBy w (some ob)) (hob : w.heap[ob]? = some (.cells #[v] 50 (0, 0))) (ho : OwnS w w0.heap.size v (p ++ [l])) (hlt : ob < w0.heap.size) (hp : p.length ≤ 2000000) :
    Calls Tryz.prog 77 #[.agg #[.string s.1, .string s.2], .pointer (some ⟨ob, 0, none⟩)] w fun e w' => e = .returned (.tuple #[]) ∧ ∃ v', w'.heap[ob]? = some (.cells #[v'] 50 (0, 0)) ∧ OwnS w' w0.heap.size v' (jadd (p ++ [l]) s) ∧ w0.grownBy w' (some ob) := by
  have hv : ∃ g cap, v = .slice (some ⟨g, 0, none⟩) (p.length + 1) cap ∧ w0.heap.size ≤ g ∧ g < w.heap.size ∧ p.length + 1 ≤ cap := by
    rcases ho.form with ⟨_, h0⟩ | ⟨g, cap, hv, h1, h2, h3⟩
    · simp at h0
    · exact ⟨g, cap, by simpa using hv, h1, h2, by simpa using h3⟩
  obtain ⟨g, cap, rfl, hg0, hg, hcap⟩ := hv
  have hc := cell_of_one hob
  have hf := free_of_one hob
  have hlt' := lt_of_block hob
  have ho' : OwnS w w0.heap.size (.slice (some ⟨g, 0, none⟩) (p ++ [l]).length cap) (p ++ [l]) := by simpa using ho
  have hl1 : w.cell? ⟨g, p.length * 2, none⟩ = some (.string l.1) := by
    unfold OwnS at ho'; rw [ho'.cellAt _ (by simp), flat_append, List.getElem?_append_right (by rw [flat_length]; omega), flat_length, Nat.sub_self]; rfl
  have hl2 : w.cell? ⟨g, p.length * 2 + 1, none⟩ = some (.string l.2) := by
    unfold OwnS at ho'; rw [ho'.cellAt _ (by simp; omega), flat_append, List.getElem?_append_right (by rw [flat_length]; omega), flat_length, Nat.add_sub_cancel_left]; rfl
  have hfg : w.frozen? ⟨g, p.length * 2 + 1, none⟩ = false := by unfold OwnS at ho'; exact ho'.frozenAt _
  have hmax := fun (w : World) (ts : Array TypeId) (t : TypeId) (x y : ByteArray) => (Lib.run_max_strs (P := Tryz.prog) w ts t x y)
  simp only [maxS_eq] at hmax
  rw [jadd_snoc]
  have HO := Lib.hid ho'; clear ho ho'
  have HB := Lib.hid hob; clear hob
  have HW := Lib.hid hw; clear hw
  by_cases hx : s.1 ≤ l.2
  · rw [if_pos hx]
    go_enter Tryz.func77, Tryz.ntmps77
    go_wp2_with fail
    go_quiet (fail)
    go_wp2_with fail
    go_region
    go_wp2_with fail
    refine bodyPost_ret (results_none rfl _ _ _) rfl ?_
    have hne : ob ≠ g := by have := HW.out.size; omega
    refine ⟨rfl, .slice (some ⟨g, 0, none⟩) (p.length + 1) cap, ?_, by simpa using (((HO.out.alloc _).drewN nq).drewN 1).setLast (mx l.2 s.2), grow_setNew (grow_drewN (grow_drewN (grow_alloc HW.out _) _) 1) hg0 _ _⟩
    rw [Below.heap_setCell _ _ _ _ (by exact hne)]
    exact (Below.heap_alloc _ _ _ hlt').trans HB.out
  · rw [if_neg hx]
    go_enter Tryz.func77, Tryz.ntmps77
    go_wp2_with fail
    go_quiet (fail)
    go_wp2_with (at_builtin; refine wpList_addS rfl _ _ rfl w0.heap.size (.slice (some ⟨g, 0, none⟩) (p.length + 1) cap) (p ++ [l]) rfl ?c0 _ 1 [s] rfl ?c1 ?c2 ?c3 ?_)
    case c0 => simpa using ((HO.out.alloc _).drewN nq).alloc (.cells #[.string s.1, .string s.2] 29)
    case c1 => simpa using new_cells ((w.alloc (.cells #[.string s.1, .string s.2] 29)).drewN nq) s 29
    case c2 => simp; omega
    case c3 => have := HW.out.size; simp; omega
    intro A' c' w1 ho1 hg1
    have hz := HW.out.size
    have hb1 : w1.heap[ob]? = some (.cells #[.slice (some ⟨g, 0, none⟩) (p.length + 1) cap] 50 (0, 0)) := by
      rw [hg1.block ob (by simp; omega) (fun e => by simp [Value.ownBlock] at e; omega), Below.heap_alloc _ _ _ (by simp; omega)]
      show (w.alloc _).heap[ob]? = _
      rw [Below.heap_alloc _ _ _ hlt']
      exact HB.out
    have hc1 := cell_of_one hb1
    have hf1 := free_of_one hb1
    have HO1 := Lib.hid ho1; clear ho1
    have HG1 := Lib.hid hg1; clear hg1
    have HB1 := Lib.hid hb1; clear hb1
    clear hc hf hl1 hl2 hfg
    go_wp2_with fail
    go_end0
    refine ⟨rfl, _, one_setCell HB1.out, ?_, grow_set (grow_trans (grow_alloc (grow_drewN (grow_alloc HW.out _) _) _) HG1.out fun k hk => .inl (by simp [Value.ownBlock] at hk; omega)) 0 _⟩
    simpa using HO1.out.setOther hlt 0 _

/-- what the closure of Join adds -/
theorem add_any (w0 w : World) (ob : Nat) (v : Value) (out : List (K × K)) (s : K × K) (hw : w0.grownBy w (some ob)) (hob : w.heap[ob]? = some (.cells #[v] 50 (0, 0))) (ho : OwnS w w0.heap.size v out) (hlt : ob < w0.heap.size) (hp : out.length ≤ 2000000) :
    Calls Tryz.prog 77 #[.agg #[.string s.1, .string s.2], .pointer (some ⟨ob, 0, none⟩)] w fun e w' => e = .returned (.tuple #[]) ∧ ∃ v', w'.heap[ob]? = some (.cells #[v'] 50 (0, 0)) ∧ OwnS w' w0.heap.size v' (jadd out s) ∧ w0.grownBy w' (some ob) := by
  rcases List.eq_nil_or_concat out with rfl | ⟨p, l, rfl⟩
  · exact add_nil w0 w ob v s hw hob ho hlt
  · rw [List.concat_eq_append] at *
    exact add_snoc w0 w ob v p l s hw hob ho hlt (by simp at hp; omega)

theorem jadd_len (out : List (K × K)) (s : K × K) : (jadd out s).length ≤ out.length + 1 := by
  rcases List.eq_nil_or_concat out with rfl | ⟨p, l, rfl⟩
  · simp [jadd_nil]
  · rw [List.concat_eq_append, jadd_snoc]
    split <;> simp
theorem jfold_len : ∀ (l out : List (K × K)), (l.foldl jadd out).length ≤ out.length + l.length
  | [], out => by simp
  | s :: r, out => by
    have h1 := jfold_len r (jadd out s)
    have h2 := jadd_len out s
    simp only [List.foldl_cons, List.length_cons]
    omega

set_option maxHeartbeats 1000000 in
set_option maxRecDepth 100000 in
theorem join_any (l : List (K × K)) (v : Value) (w : World) (hv : RdS w w.heap.size v l) (hl : l.length ≤ 2000000) : Calls Tryz.prog 62 #[v] w fun e w' =>
    ∃ v' J, e = .returned v' ∧ OwnS w' w.heap.size v' J ∧ Below w.heap.size w w' ∧ Normal J ∧ (∀ k, mem J k ↔ mem l k) ∧ J.length ≤ 2000000 := by
  obtain ⟨A, c, rfl, hc⟩ : ∃ A c, v = .slice A l.length c ∧ l.length ≤ c := by obtain ⟨A, c, h1, h2, _⟩ := hv; exact ⟨A, c, h1, h2⟩
  have hr := fun W (hW : RdS W W.heap.size (.slice A l.length c) l) => rising_any l (.slice A l.length c) W hW hl
  have HR := Lib.hid hr; clear hr
  have HV := Lib.hid hv; clear hv
  go_enter Tryz.func62, Tryz.ntmps62
  go_wp2_with fail
  refine (HR.out _ ((HV.out.below ((Below.refl _ w).alloc (Nat.le_refl _) _) (Nat.le_refl _)).mono (by simp))).mono ?_
  rintro e w2 ⟨v', l', rfl, ho2, hb2, hp, hq⟩
  obtain ⟨A', c', rfl, hi⟩ := ho2.read
  have hll : l'.length ≤ 2000000 := by rw [hp.length_eq]; exact Nat.le_trans (List.length_filter_le _ _) hl
  have hbox : w2.heap[w.heap.size]? = some (.cells #[.slice none 0 0] 50 (0, 0)) := by
    rw [hb2.block _ (by simp)]
    exact heap_alloc_new w _
  have hw2 : w.heap.size < w2.heap.size := by have := hb2.size; simp at this; omega
  have hbw : Below w.heap.size w w2 := ((Below.refl _ w).alloc (Nat.le_refl _) _).trans (hb2.mono (by simp))
  have HI := Lib.hid hi; clear hi ho2
  have HB := Lib.hid hbox; clear hbox
  have HP := Lib.hid hp; clear hp
  have HQ := Lib.hid hq; clear hq
  have HBW := Lib.hid hbw; clear hbw hb2
  go_wp2_with fail
  go_loopw [11] (fun i wr => ∃ (j : Nat) (ov : Value), j ≤ l'.length ∧ i = .int .i64 j ∧ w2.grownBy wr (some w.heap.size) ∧ wr.heap[w.heap.size]? = some (.cells #[ov] 50 (0, 0)) ∧ OwnS wr w2.heap.size ov ((l'.take j).foldl jadd [])) (fun i _ => l'.length - (intOf i).toNat)
  case atStart => exact ⟨0, _, Nat.zero_le _, rfl, ⟨rfl, rfl, rfl, Nat.le_refl _, fun _ _ _ => rfl⟩, HB.out, OwnS.nil _ _⟩
  case round =>
    obtain ⟨j, ov, hj, rfl, hg, hb, ho⟩ := hrel
    by_cases hlt : j < l'.length
    · obtain ⟨g, rfl, hg1, hg2, h1, h2⟩ := HI.out j hlt
      have hne : some g ≠ some w.heap.size := fun e => by simp at e hg1; omega
      have g1 := hg.cell h1 hne
      have g2 := hg.cell h2 hne
      have hlen : ((l'.take j).foldl jadd []).length ≤ 2000000 := Nat.le_trans (jfold_len _ _) (by simp; omega)
      have hst : (l'.take (j + 1)).foldl jadd [] = jadd ((l'.take j).foldl jadd []) l'[j] := by rw [List.take_succ_eq_append_getElem hlt, List.foldl_append]; rfl
      have HS := Lib.hid hst; clear hst
      clear h1 h2 hne
      have hadd := fun W h1 h2 h3 => add_any w2 W w.heap.size ov _ l'[j] h1 h2 h3 hw2 hlen
      have HA := Lib.hid hadd; clear hadd hlen
      have HG := Lib.hid hg; clear hg
      have HX := Lib.hid hb; clear hb
      have HO := Lib.hid ho; clear ho
      go_wp2_with fail
      refine (HA.out _ (grow_alloc HG.out _) ((Below.heap_alloc _ _ _ (lt_of_block HX.out)).trans HX.out) (HO.out.alloc _)).mono ?_
      rintro e w3 ⟨rfl, ov', hb3, ho3, hg3⟩
      have HG3 := Lib.hid hg3; clear hg3
      have HX3 := Lib.hid hb3; clear hb3
      have HO3 := Lib.hid ho3; clear ho3
      go_wp2_with fail
      go_roundw
      case rel => exact ⟨j + 1, ov', by omega, by go_num, HG3.out, HX3.out, by rw [HS.out]; exact HO3.out⟩
      case measure => simp [intOf]; omega
    · obtain rfl : j = l'.length := by omega
      have hcell := cell_of_one hb
      rw [List.take_length] at ho
      have HG := Lib.hid hg; clear hg
      have HX := Lib.hid hb; clear hb
      have HO := Lib.hid ho; clear ho
      go_wp2_with fail
      have hfull : ∀ s ∈ l', s.1 < s.2 := fun s hs => by
        have := (HP.out.mem_iff.1 hs)
        simpa [full] using (List.mem_filter.1 this).2
      obtain ⟨n1, n2⟩ := join_ok l' hfull HQ.out
      have hmem : ∀ k, mem l' k ↔ mem l k := fun k => by
        rw [mem_perm HP.out]
        constructor
        · rintro ⟨s, hs, hk⟩; exact ⟨s, (List.mem_filter.1 hs).1, hk⟩
        · rintro ⟨s, hs, hk⟩; exact ⟨s, List.mem_filter.2 ⟨hs, by unfold has at hk; simp [full]; grind⟩, hk⟩
      refine bodyPost_ret (v := ov) ?_ rfl ⟨_, _, rfl, HO.out.lower (Nat.le_of_lt hw2), ?_, n1, fun k => (n2 k).trans (hmem k), Nat.le_trans (jfold_len _ _) (by simpa using hll)⟩
      · simp [results, Tryz.results62, go_sem]
      · have h1 := HBW.out
        have h2 := HG.out
        exact ⟨h2.os.trans h1.os, h2.tape.trans h1.tape, h2.output.trans h1.output, Nat.le_trans h1.size h2.size, fun k hk => (h2.block k (by omega) (by simp; omega)).trans (h1.block k hk)⟩
end Go.Proofs.YtcmpbhcldaogiaaGreat
namespace Go.Proofs.YtcmpbhcldaogiaaGreat
open Go.RowKit
attribute [local go_sem] less_eq same_eq le_eq ge_eq gt_eq

/-- between two worlds only blocks of S, and new ones, have turned -/
structure Keep (S : Nat → Prop) (a b : World) : Prop where
  os : b.os = a.os
  tape : b.tape = a.tape
  output : b.output = a.output
  size : a.heap.size ≤ b.heap.size
  block : ∀ k, k < a.heap.size → ¬ S k → b.heap[k]? = a.heap[k]?
section
variable {S : Nat → Prop} {a w w' : World}
theorem Keep.refl (S : Nat → Prop) (a : World) : Keep S a a := ⟨rfl, rfl, rfl, Nat.le_refl _, fun _ _ _ => rfl⟩
theorem Keep.grown {row : Option Nat} (h : Keep S a w) (g : w.grownBy w' row) (hr : ∀ k, row = some k → a.heap.size ≤ k ∨ S k) : Keep S a w' :=
  ⟨g.os.trans h.os, g.tape.trans h.tape, g.output.trans h.output, Nat.le_trans h.size g.size, fun k hk hn => by
    rw [g.block k (Nat.lt_of_lt_of_le hk h.size) (fun e => by
      rcases hr k e.symm with h1 | h1
      · omega
      · exact hn h1)]
    exact h.block k hk hn⟩
theorem Keep.alloc (h : Keep S a w) (o : Obj) : Keep S a (w.alloc o) := h.grown (World.grownBy_alloc w o none) (fun k hk => by cases hk)
theorem Keep.drewN (h : Keep S a w) (n : Nat) : Keep S a (w.drewN n) := ⟨h.os, h.tape, h.output, h.size, h.block⟩
theorem Keep.set (h : Keep S a w) {g : Nat} (hg : S g ∨ a.heap.size ≤ g) (j : Nat) (u : Value) : Keep S a (w.setCell ⟨g, j, none⟩ u) :=
  ⟨h.os, h.tape, h.output, by simpa [World.setCell] using h.size, fun k hk hn => (Below.heap_setCell w _ u k (fun e => by
    simp only at e
    rcases hg with h1 | h1
    · exact hn (e ▸ h1)
    · omega)).trans (h.block k hk hn)⟩
theorem Keep.below {B : Nat} (h : Keep S a w) (g : Below B w w') (hB : a.heap.size ≤ B) : Keep S a w' :=
  ⟨g.os.trans h.os, g.tape.trans h.tape, g.output.trans h.output, Nat.le_trans h.size g.size, fun k hk hn => (g.block k (Nat.lt_of_lt_of_le hk hB)).trans (h.block k hk hn)⟩
theorem Keep.toBelow {B : Nat} {z : World} (h : Keep S a w) (hz : Below B z a) (hB : B ≤ z.heap.size) (hS : ∀ k, S k → B ≤ k) : Below B z w :=
  ⟨h.os.trans hz.os, h.tape.trans hz.tape, h.output.trans hz.output, Nat.le_trans hz.size h.size, fun k hk => (h.block k (Nat.lt_of_lt_of_le hk (Nat.le_trans hB hz.size)) (fun hs => by have := hS k hs; omega)).trans (hz.block k hk)⟩
end

theorem cells_of_two {w : World} {b : Nat} {u v : Value} {t : TypeId} (h : w.heap[b]? = some (.cells #[u, v] t (0, 0))) : w.cell? ⟨b, 0, none⟩ = some u ∧ w.cell? ⟨b, 1, none⟩ = some v := by simp [World.cell?, h]

set_option maxHeartbeats 1000000 in
set_option maxRecDepth 100000 in
theorem keep_any (S : Nat → Prop) (w0 w : World) (ob fb sb : Nat) (v : Value) (f t : K) (s : K × K) (out : List (K × K)) (hw : Keep S w0 w) (hob : w.heap[ob]? = some (.cells #[v] 50 (0, 0)))
    (hfb : w.heap[fb]? = some (.cells #[.string f] 9 (0, 0))) (hsb : w.heap[sb]? = some (.cells #[.string s.1, .string s.2] 29 (0, 0))) (ho : OwnS w w0.heap.size v out) (hS : S ob)
    (h1 : ob < w0.heap.size) (h2 : fb < w0.heap.size) (h3 : sb < w0.heap.size) (hf : fb ≠ ob) (hs : sb ≠ ob) (hl : out.length ≤ 3999990) :
    Calls Tryz.prog 63 #[.string t, .pointer (some ⟨fb, 0, none⟩), .pointer (some ⟨sb, 0, none⟩), .pointer (some ⟨ob, 0, none⟩)] w fun e w' => e = .returned (.tuple #[]) ∧ ∃ v', w'.heap[ob]? = some (.cells #[v'] 50 (0, 0)) ∧
      w'.heap[fb]? = some (.cells #[.string f] 9 (0, 0)) ∧ w'.heap[sb]? = some (.cells #[.string s.1, .string s.2] 29 (0, 0)) ∧ OwnS w' w0.heap.size v' (out ++ piece f (mn t s.2)) ∧ Keep S w0 w' ∧ ∀ k, k < w.heap.size → k ≠ ob → some k ≠ v.ownBlock → w'.heap[k]? = w.heap[k]? := by
  have hv : ∃ A c, v = .slice A out.length c := by obtain ⟨A, c, h, _⟩ := ho.read; exact ⟨A, c, h⟩
  obtain ⟨A, c, rfl⟩ := hv
  have c1 := cell_of_one hob
  have c2 := cell_of_one hfb
  obtain ⟨c3, c4⟩ := cells_of_two hsb
  have f1 := free_of_one hob
  have l1 := lt_of_block hob
  have hmin := fun (w : World) (ts : Array TypeId) (t : TypeId) (x y : ByteArray) => (Lib.run_min_strs (P := Tryz.prog) w ts t x y)
  simp only [minS_eq] at hmin
  have HO := Lib.hid ho; clear ho
  have HX := Lib.hid hob; clear hob
  have HF := Lib.hid hfb; clear hfb
  have HS := Lib.hid hsb; clear hsb
  have HW := Lib.hid hw; clear hw
  have hz := HW.out.size
  by_cases hx : f < mn t s.2
  · rw [piece, if_pos hx]
    go_enter Tryz.func63, Tryz.ntmps63
    go_wp2_with (first | (go_at_call 23; refine (empty_exact (f, mn t s.2) _).mono ?_; rintro e w1 ⟨rfl, rfl⟩) | (at_builtin; refine wpList_addS rfl _ _ rfl w0.heap.size (.slice A out.length c) out rfl ?c0 _ 1 [(f, mn t s.2)] rfl ?c1 ?c2 ?c3 ?_))
    case c0 => exact ((HO.out.alloc _).alloc _).alloc _
    case c1 => simpa using new_cells ((w.alloc (.cells #[.string f, .string (mn t s.2)] 29)).alloc (.cells #[.string f, .string (mn t s.2)] 29)) (f, mn t s.2) 29
    case c2 => simp; omega
    case c3 => simp; omega
    intro A' c' w1 ho1 hg1
    have hrow : ∀ k, (Value.slice A out.length c).ownBlock = some k → w0.heap.size ≤ k := fun k hk => (HO.out.lt k hk).1
    have hold : ∀ k, k < w0.heap.size → w1.heap[k]? = w.heap[k]? := fun k hk => by
      rw [hg1.block k (by simp; omega) (fun e => by have := hrow k e.symm; omega), Below.heap_alloc _ _ _ (by simp; omega), Below.heap_alloc _ _ _ (by simp; omega), Below.heap_alloc _ _ _ (by omega)]
    have hall : ∀ k, k < w.heap.size → some k ≠ (Value.slice A out.length c).ownBlock → w1.heap[k]? = w.heap[k]? := fun k hk hne => by
      rw [hg1.block k (by simp; omega) hne, Below.heap_alloc _ _ _ (by simp; omega), Below.heap_alloc _ _ _ (by simp; omega), Below.heap_alloc _ _ _ (by omega)]
    have HA := Lib.hid hall; clear hall
    have hb1 := (hold ob h1).trans HX.out
    have hb2 := (hold fb h2).trans HF.out
    have hb3 := (hold sb h3).trans HS.out
    have hk1 := (((HW.out.alloc (.cells #[.string f, .string (mn t s.2)] 29)).alloc (.cells #[.string f, .string (mn t s.2)] 29)).alloc (.cells #[.string f, .string (mn t s.2)] 29)).grown hg1 fun k hk => .inl (hrow k hk)
    have hc1 := cell_of_one hb1
    have hf1 := free_of_one hb1
    have HO1 := Lib.hid ho1; clear ho1
    have HB1 := Lib.hid hb1; clear hb1
    have HB2 := Lib.hid hb2; clear hb2
    have HB3 := Lib.hid hb3; clear hb3
    have HK1 := Lib.hid hk1; clear hk1
    clear c1 c2 c3 c4 f1 hold hrow hg1
    go_wp2_with fail
    go_end0
    refine ⟨rfl, _, one_setCell HB1.out, (Below.heap_setCell _ _ _ _ (by exact hf)).trans HB2.out, (Below.heap_setCell _ _ _ _ (by exact hs)).trans HB3.out, ?_, HK1.out.set (.inl hS) 0 _, fun k hk hne hne2 => (Below.heap_setCell _ _ _ _ (by exact hne)).trans (HA.out k hk hne2)⟩
    simpa using HO1.out.setOther h1 0 _
  · rw [piece, if_neg hx, List.append_nil]
    go_enter Tryz.func63, Tryz.ntmps63
    go_wp2_with (go_at_call 23; refine (empty_exact (f, mn t s.2) _).mono ?_; rintro e w1 ⟨rfl, rfl⟩)
    go_end0
    have hold : ∀ k (o o' : Obj), k < w0.heap.size → ((w.alloc o).alloc o').heap[k]? = w.heap[k]? := fun k o o' hk => by
      rw [Below.heap_alloc _ _ _ (by simp; omega), Below.heap_alloc _ _ _ (by omega)]
    exact ⟨rfl, _, (hold ob _ _ h1).trans HX.out, (hold fb _ _ h2).trans HF.out, (hold sb _ _ h3).trans HS.out, (HO.out.alloc _).alloc _, (HW.out.alloc _).alloc _, fun k hk _ _ => by rw [Below.heap_alloc _ _ _ (by simp; omega), Below.heap_alloc _ _ _ hk]⟩

theorem mn_self (a : K) : mn a a = a := by unfold mn; split <;> rfl
theorem piece_len (a b : K) : (piece a b).length ≤ 1 := by unfold piece; split <;> simp

set_option maxHeartbeats 1000000 in
set_option maxRecDepth 100000 in
theorem without_any (s : K × K) (l : List (K × K)) (v : Value) (w : World) (hv : RdS w w.heap.size v l) (hl : l.length ≤ 2000000) : Calls Tryz.prog 48 #[.agg #[.string s.1, .string s.2], v] w fun e w' =>
    ∃ v' R, e = .returned v' ∧ OwnS w' w.heap.size v' R ∧ Below w.heap.size w w' ∧ Normal R ∧ (∀ k, mem R k ↔ has s k ∧ ¬ mem l k) ∧ R.length ≤ 2000001 := by
  obtain ⟨A, c, rfl, hc⟩ : ∃ A c, v = .slice A l.length c ∧ l.length ≤ c := by obtain ⟨A, c, h1, h2, _⟩ := hv; exact ⟨A, c, h1, h2⟩
  have hr := fun W (hW : RdS W W.heap.size (.slice A l.length c) l) => join_any l (.slice A l.length c) W hW hl
  have HR := Lib.hid hr; clear hr
  have HV := Lib.hid hv; clear hv
  have hmax := fun (w : World) (ts : Array TypeId) (t : TypeId) (x y : ByteArray) => (Lib.run_max_strs (P := Tryz.prog) w ts t x y)
  simp only [maxS_eq] at hmax
  go_enter Tryz.func48, Tryz.ntmps48
  go_wp2_with fail
  have hb3 : Below w.heap.size w (((w.alloc (.cells #[.string s.1, .string s.2] 29)).alloc (.cells #[.slice none 0 0] 50)).alloc (.cells #[.string s.1] 9)) := (((Below.refl _ w).alloc (Nat.le_refl _) _).alloc (by simp) _).alloc (by simp; omega) _
  refine (HR.out _ ((HV.out.below hb3 (Nat.le_refl _)).mono (by simp; omega))).mono ?_
  rintro e w2 ⟨v', J, rfl, ho2, hb2, hn, hm, hJ⟩
  obtain ⟨A', c', rfl, hi⟩ := ho2.read
  have hz := hb2.size
  simp only [World.size_alloc] at hz
  have x1 : w2.heap[w.heap.size]? = some (.cells #[.string s.1, .string s.2] 29 (0, 0)) := by
    rw [hb2.block _ (by simp; omega), Below.heap_alloc _ _ _ (by simp; omega), Below.heap_alloc _ _ _ (by simp)]
    exact heap_alloc_new w _
  have x2 : w2.heap[w.heap.size + 1]? = some (.cells #[.slice none 0 0] 50 (0, 0)) := by
    rw [hb2.block _ (by simp), Below.heap_alloc _ _ _ (by simp)]
    have := heap_alloc_new (w.alloc (.cells #[.string s.1, .string s.2] 29)) (.cells #[.slice none 0 0] 50)
    simpa using this
  have x3 : w2.heap[w.heap.size + 1 + 1]? = some (.cells #[.string s.1] 9 (0, 0)) := by
    rw [hb2.block _ (by simp)]
    have := heap_alloc_new ((w.alloc (.cells #[.string s.1, .string s.2] 29)).alloc (.cells #[.slice none 0 0] 50)) (.cells #[.string s.1] 9)
    simpa using this
  have hbw : Below w.heap.size w w2 := hb3.trans (hb2.mono (by simp; omega))
  clear ho2 hb2 hb3
  have HI := Lib.hid hi; clear hi
  have X1 := Lib.hid x1; clear x1
  have X2 := Lib.hid x2; clear x2
  have X3 := Lib.hid x3; clear x3
  have HN := Lib.hid hn; clear hn
  have HM := Lib.hid hm; clear hm
  have HBW := Lib.hid hbw; clear hbw
  go_wp2_with fail
  go_loopw [16] (fun i wr => ∃ (j : Nat) (ov : Value) (f : K) (out : List (K × K)), j ≤ J.length ∧ i = .int .i64 j ∧ Keep (fun k => k = w.heap.size + 1 ∨ k = w.heap.size + 1 + 1) w2 wr ∧
    wr.heap[w.heap.size]? = some (.cells #[.string s.1, .string s.2] 29 (0, 0)) ∧ wr.heap[w.heap.size + 1]? = some (.cells #[ov] 50 (0, 0)) ∧ wr.heap[w.heap.size + 1 + 1]? = some (.cells #[.string f] 9 (0, 0)) ∧
    OwnS wr w2.heap.size ov out ∧ left J s.1 s.2 = out ++ left (J.drop j) f s.2 ∧ out.length ≤ j) (fun i _ => J.length - (intOf i).toNat)
  case atStart => exact ⟨0, _, s.1, [], Nat.zero_le _, rfl, Keep.refl _ _, X1.out, X2.out, X3.out, OwnS.nil _ _, rfl, Nat.le_refl _⟩
  case round =>
    obtain ⟨j, ov, f, out, hj, rfl, hk, b1, b2, b3, ho, he, hlen⟩ := hrel
    have hkeep := fun W t h1 h2 h3 h4 h5 => keep_any (fun k => k = w.heap.size + 1 ∨ k = w.heap.size + 1 + 1) w2 W (w.heap.size + 1) (w.heap.size + 1 + 1) w.heap.size ov f t s out h1 h2 h3 h4 h5 (.inl rfl) (by omega) (by omega) (by omega) (by omega) (by omega) (by omega)
    have HC := Lib.hid hkeep; clear hkeep
    by_cases hlt : j < J.length
    · obtain ⟨g, rfl, hg1, hg2, h1, h2⟩ := HI.out j hlt
      have hgs : wr.heap[g]? = w2.heap[g]? := hk.block g hg2 (by simp only [World.size_alloc] at hg1; omega)
      have g1 := (World.cell?_of_block (a := ⟨g, j * 2, none⟩) hgs).trans h1
      have g2 := (World.cell?_of_block (a := ⟨g, j * 2 + 1, none⟩) hgs).trans h2
      have hd : J.drop j = J[j] :: J.drop (j + 1) := List.drop_eq_getElem_cons hlt
      have HD := Lib.hid hd; clear hd
      clear h1 h2 hgs
      have HE := Lib.hid he; clear he
      have B1 := Lib.hid b1; clear b1
      have B2 := Lib.hid b2; clear b2
      have B3 := Lib.hid b3; clear b3
      have HO := Lib.hid ho; clear ho
      have HK := Lib.hid hk; clear hk
      go_wp2_with fail
      have q1 : (wr.alloc (.cells #[.string J[j].1, .string J[j].2] 29)).heap[w.heap.size]? = _ := (Below.heap_alloc _ _ _ (lt_of_block B1.out)).trans B1.out
      have q2 : (wr.alloc (.cells #[.string J[j].1, .string J[j].2] 29)).heap[w.heap.size + 1]? = _ := (Below.heap_alloc _ _ _ (lt_of_block B2.out)).trans B2.out
      have q3 : (wr.alloc (.cells #[.string J[j].1, .string J[j].2] 29)).heap[w.heap.size + 1 + 1]? = _ := (Below.heap_alloc _ _ _ (lt_of_block B3.out)).trans B3.out
      refine (HC.out _ J[j].1 (HK.out.alloc _) q2 q3 q1 (HO.out.alloc _)).mono ?_
      clear q1 q2 q3
      rintro e w3 ⟨rfl, ov', r2, r3, r1, ro, rk, ra⟩
      have r4 : w3.heap[wr.heap.size]? = some (.cells #[.string J[j].1, .string J[j].2] 29 (0, 0)) := by
        rw [ra _ (by simp) (by have := lt_of_block B2.out; omega) (fun e => by have := (HO.out.lt _ e.symm).2; omega)]
        exact heap_alloc_new wr _
      have c3 := cell_of_one r3
      have f3 := free_of_one r3
      have c4 := (cells_of_two r4).2
      have R1 := Lib.hid r1; clear r1
      have R2 := Lib.hid r2; clear r2
      have R3 := Lib.hid r3; clear r3
      have RO := Lib.hid ro; clear ro
      have RK := Lib.hid rk; clear rk
      clear r4 ra
      go_wp2_with fail
      go_roundw
      case rel =>
        refine ⟨j + 1, ov', mx f J[j].2, out ++ piece f (mn J[j].1 s.2), by omega, by go_num, RK.out.set (.inl (.inr rfl)) 0 _, (Below.heap_setCell _ _ _ _ (by simp; omega)).trans R1.out, (Below.heap_setCell _ _ _ _ (by simp)).trans R2.out, one_setCell R3.out, RO.out.setOther (by omega) 0 _, ?_, ?_⟩
        · rw [HE.out, HD.out, left, List.append_assoc]
        · rw [List.length_append]
          have := piece_len f (mn J[j].1 s.2)
          omega
      case measure => simp [intOf]; omega
    · obtain rfl : j = J.length := by omega
      have c1 := (cells_of_two b1).2
      have HE := Lib.hid he; clear he
      have B1 := Lib.hid b1; clear b1
      have B2 := Lib.hid b2; clear b2
      have B3 := Lib.hid b3; clear b3
      have HO := Lib.hid ho; clear ho
      have HK := Lib.hid hk; clear hk
      go_wp2_with fail
      refine (HC.out _ s.2 HK.out B2.out B3.out B1.out HO.out).mono ?_
      rintro e w3 ⟨rfl, ov', r2, r3, r1, ro, rk, ra⟩
      have c2 := cell_of_one r2
      have RO := Lib.hid ro; clear ro
      have RK := Lib.hid rk; clear rk
      clear r1 r2 r3 ra c1
      go_wp2_with fail
      have hfin : left J s.1 s.2 = out ++ piece f (mn s.2 s.2) := by rw [HE.out, List.drop_length, left, mn_self]
      obtain ⟨n1, n2⟩ := left_ok J s.1 s.2 HN.out
      rw [hfin] at n1 n2
      refine bodyPost_ret (v := ov') ?_ rfl ⟨_, _, rfl, RO.out.lower (by omega), RK.out.toBelow HBW.out (Nat.le_refl _) (by rintro k (rfl | rfl) <;> omega), n1, fun k => ?_, ?_⟩
      · simp [results, Tryz.results48, go_sem]
      · rw [n2 k, HM.out k]; rfl
      · rw [List.length_append]
        have := piece_len f (mn s.2 s.2)
        omega
end Go.Proofs.YtcmpbhcldaogiaaGreat
namespace Go.Proofs.YtcmpbhcldaogiaaGreat
open Go.RowKit
section
variable {P : Program} {ops : Array Oper} {Q : Exit → Act → World → Prop} {S S2 : World → Prop} {f : Nat}

/-- S holds as long as f has not come up, S2 always -/
def TwoT (S S2 : World → Prop) (f : Nat) (L : Array Bool) (w : World) : Prop := (L.getD f true = false → S w) ∧ S2 w
def RestG (P : Program) (ops : Array Oper) (Q : Exit → Act → World → Prop) (S S2 : World → Prop) (f : Nat) : Nat → Array Bool → Act → World → Prop
  | 0, L, a, w => Region.ready .any ops L = [] ∧ Q .normal a w
  | n + 1, L, a, w => (Region.ready .any ops L = [] → Q .normal a w) ∧ ∀ i ∈ Region.ready .any ops L, wpOp P ops Q i (fun a' w' => TwoT S S2 f (L.setIfInBounds i true) w' ∧ RestG P ops Q S S2 f n (L.setIfInBounds i true) a' w') a w
theorem RestG.plain : ∀ (n : Nat) (L : Array Bool) (a : Act) (w : World), RestG P ops Q S S2 f n L a w → wpAny P .any ops Q n L a w
  | 0, _, _, _, h => h
  | n + 1, _, _, _, h => ⟨h.1, fun i hi => wpOp_mono (fun a' w' h' => RestG.plain n _ a' w' h'.2) (h.2 i hi)⟩
/-- f waits for number i -/
def waitsG (ops : Array Oper) (f i : Nat) : Bool := ((ops[f]?).map fun o => o.after.any fun e => Region.binds .any e && e.on == i).getD false
theorem waitsG.of {i : Nat} (h1 : waitsG ops f i = true) : ∃ o, ops[f]? = some o ∧ ∃ e ∈ o.after, Region.binds .any e = true ∧ e.on = i := by
  unfold waitsG at h1
  cases ho : ops[f]? with
  | none => rw [ho] at h1; simp at h1
  | some o =>
    rw [ho] at h1
    simp only [Option.map_some, Option.getD_some] at h1
    obtain ⟨e, he, hb⟩ := Array.any_eq_true'.1 h1
    simp only [Bool.and_eq_true, beq_iff_eq] at hb
    exact ⟨o, rfl, e, he, hb.1, hb.2⟩
theorem TwoT.other {i : Nat} (hif : i ≠ f) {L : Array Bool} {w : World} (h : TwoT S S2 f L w) : TwoT S S2 f (L.setIfInBounds i true) w :=
  ⟨fun h' => h.1 (by rwa [getD_set_ne true hif] at h'), h.2⟩
theorem TwoT.back {i j : Nat} (hif : i ≠ f) {L : Array Bool} {w : World} (h : TwoT S S2 f ((L.setIfInBounds i true).setIfInBounds j true) w) : TwoT S S2 f (L.setIfInBounds j true) w := by
  by_cases hij : j = i
  · subst hij
    refine ⟨fun h' => h.1 ?_, h.2⟩
    rw [getD_set_ne true hif] at h' ⊢
    rw [getD_set_ne true hif]
    exact h'
  · rw [Array.setIfInBounds_comm _ _ (Ne.symm hij)] at h
    exact ⟨fun h' => h.1 (by rw [getD_set_ne true hif]; exact h'), h.2⟩

/-- what f waits for -/
theorem RestG.early {i : Nat} {oi : Oper} {v : Value} (hi : ops[i]? = some oi) (hs : Region.noSelect ops = true) (hf : waitsG ops f i = true) (hif : i ≠ f)
    (hQ : ∀ c a w, Q (.panic c) (a.put oi.dst v) w → Q (.panic c) a w) : ∀ (n : Nat) (L : Array Bool) (a : Act) (w : World), Region.free .any ops L i = true → i ∈ Region.ready .any ops L → L.getD f true = false → YieldsIf P ops S oi v a → TwoT S S2 f L w →
      RestG P ops Q S S2 f n (L.setIfInBounds i true) (a.put oi.dst v) w → RestG P ops Q S S2 f (n + 1) L a w := by
  have go : ∀ (n : Nat) (L : Array Bool) (a : Act) (w : World), (∀ j oj, ops[j]? = some oj → j ≠ i → L.getD j true = false → (∀ e ∈ oj.after, Region.binds .any e = true → e.on ≠ i) → oi.apart ops oj = true) →
      i ∈ Region.ready .any ops L → L.getD f true = false → YieldsIf P ops S oi v a → TwoT S S2 f L w → RestG P ops Q S S2 f n (L.setIfInBounds i true) (a.put oi.dst v) w → RestG P ops Q S S2 f (n + 1) L a w := by
    intro n
    induction n with
    | zero =>
      intro L a w _ hr hLf hy hS H
      refine ⟨fun h0 => by (rw [h0] at hr; simp at hr), fun j hj => ?_⟩
      by_cases hji : j = i
      · rw [hji]
        exact hy.wpOp hi (hS.1 hLf) ⟨hS.other hif, H⟩
      · have := ready_mono hj hji
        rw [H.1] at this
        simp at this
    | succ n ih =>
      intro L a w hfr hr hLf hy hS H
      refine ⟨fun h0 => by (rw [h0] at hr; simp at hr), fun j hj => ?_⟩
      by_cases hji : j = i
      · rw [hji]
        exact hy.wpOp hi (hS.1 hLf) ⟨hS.other hif, H⟩
      · obtain ⟨hun, oj, hoj, hall⟩ := mem_ready.1 hj
        have hi0 := (mem_ready.1 hr).1
        have hno : ∀ e ∈ oj.after, Region.binds .any e = true → e.on ≠ i := fun e he hb heq => by
          have h1 := hall e he hb
          rw [heq] at h1
          by_cases hL : i < L.size
          · simp [hL] at hi0 h1; rw [hi0] at h1; cases h1
          · simp [Array.getElem?_eq_none (Nat.le_of_not_lt hL)] at h1
        have hjf : j ≠ f := fun e => by
          subst e
          obtain ⟨o, ho, e, he, hb, hon⟩ := waitsG.of hf
          rw [hoj] at ho
          cases ho
          exact hno e he hb hon
        have h2 := wpOp_putIf hoj (hfr j oj hoj hji hun hno) (fun cs b => Region.noSelect_spec hs i oi cs b hi) (fun cs b => Region.noSelect_spec hs j oj cs b hoj) hQ hy (H.2 j (ready_mono hj hji))
        refine wpOp_mono (fun a' w' h3 => ?_) h2
        obtain ⟨hy', hT, H'⟩ := h3
        have hT' := hT.back hif
        refine ⟨hT', ih _ a' w' (fun k ok hk hki hku hkn => hfr k ok hk hki ?_ hkn) (ready_mono hr (Ne.symm hji)) (by rw [getD_set_ne true hjf]; exact hLf) hy' hT' ?_⟩
        · by_cases hjk : j = k
          · subst hjk; exact hun
          · rwa [getD_set_ne true hjk] at hku
        · rw [Array.setIfInBounds_comm _ _ hji]
          exact H'
  intro n L a w hfree hr hLf hy hS H
  exact go n L a w (Region.free_spec hi hfree) hr hLf hy hS H
/-- what it does not wait for -/
theorem RestG.early2 {i : Nat} {oi : Oper} {v : Value} (hi : ops[i]? = some oi) (hs : Region.noSelect ops = true) (hif : i ≠ f)
    (hQ : ∀ c a w, Q (.panic c) (a.put oi.dst v) w → Q (.panic c) a w) : ∀ (n : Nat) (L : Array Bool) (a : Act) (w : World), Region.free .any ops L i = true → i ∈ Region.ready .any ops L → YieldsIf P ops S2 oi v a → TwoT S S2 f L w →
      RestG P ops Q S S2 f n (L.setIfInBounds i true) (a.put oi.dst v) w → RestG P ops Q S S2 f (n + 1) L a w := by
  have go : ∀ (n : Nat) (L : Array Bool) (a : Act) (w : World), (∀ j oj, ops[j]? = some oj → j ≠ i → L.getD j true = false → (∀ e ∈ oj.after, Region.binds .any e = true → e.on ≠ i) → oi.apart ops oj = true) →
      i ∈ Region.ready .any ops L → YieldsIf P ops S2 oi v a → TwoT S S2 f L w → RestG P ops Q S S2 f n (L.setIfInBounds i true) (a.put oi.dst v) w → RestG P ops Q S S2 f (n + 1) L a w := by
    intro n
    induction n with
    | zero =>
      intro L a w _ hr hy hS H
      refine ⟨fun h0 => by (rw [h0] at hr; simp at hr), fun j hj => ?_⟩
      by_cases hji : j = i
      · rw [hji]
        exact hy.wpOp hi hS.2 ⟨hS.other hif, H⟩
      · have := ready_mono hj hji
        rw [H.1] at this
        simp at this
    | succ n ih =>
      intro L a w hfr hr hy hS H
      refine ⟨fun h0 => by (rw [h0] at hr; simp at hr), fun j hj => ?_⟩
      by_cases hji : j = i
      · rw [hji]
        exact hy.wpOp hi hS.2 ⟨hS.other hif, H⟩
      · obtain ⟨hun, oj, hoj, hall⟩ := mem_ready.1 hj
        have hi0 := (mem_ready.1 hr).1
        have hno : ∀ e ∈ oj.after, Region.binds .any e = true → e.on ≠ i := fun e he hb heq => by
          have h1 := hall e he hb
          rw [heq] at h1
          by_cases hL : i < L.size
          · simp [hL] at hi0 h1; rw [hi0] at h1; cases h1
          · simp [Array.getElem?_eq_none (Nat.le_of_not_lt hL)] at h1
        have h2 := wpOp_putIf hoj (hfr j oj hoj hji hun hno) (fun cs b => Region.noSelect_spec hs i oi cs b hi) (fun cs b => Region.noSelect_spec hs j oj cs b hoj) hQ hy (H.2 j (ready_mono hj hji))
        refine wpOp_mono (fun a' w' h3 => ?_) h2
        obtain ⟨hy', hT, H'⟩ := h3
        have hT' := hT.back hif
        refine ⟨hT', ih _ a' w' (fun k ok hk hki hku hkn => hfr k ok hk hki ?_ hkn) (ready_mono hr (Ne.symm hji)) hy' hT' ?_⟩
        · by_cases hjk : j = k
          · subst hjk; exact hun
          · rwa [getD_set_ne true hjk] at hku
        · rw [Array.setIfInBounds_comm _ _ hji]
          exact H'
  intro n L a w hfree hr hy hS H
  exact go n L a w (Region.free_spec hi hfree) hr hy hS H

/-- 0: taken, f waits for it; 1: taken; 2: comes up alone, f or behind it -/
def planOkG (ops : Array Oper) (f : Nat) : List (Nat × Nat) → Array Bool → Bool
  | [], L => (Region.ready .any ops L).isEmpty
  | (0, i) :: r, L => waitsG ops f i && (i != f) && !(L.getD f true) && Region.free .any ops L i && (Region.ready .any ops L).contains i && planOkG ops f r (L.setIfInBounds i true)
  | (1, i) :: r, L => (i != f) && Region.free .any ops L i && (Region.ready .any ops L).contains i && planOkG ops f r (L.setIfInBounds i true)
  | (_, i) :: r, L => Region.ready .any ops L == [i] && ((L.setIfInBounds i true).getD f true) && planOkG ops f r (L.setIfInBounds i true)
def PlanG (P : Program) (ops : Array Oper) (S S2 : World → Prop) (f : Nat) (Q : Exit → Act → World → Prop) : List (Nat × Nat) → Act → World → Prop
  | [], a, w => Q .normal a w
  | (0, i) :: r, a, w => ∃ o v, ops[i]? = some o ∧ YieldsIf P ops S o v a ∧ PlanG P ops S S2 f Q r (a.put o.dst v) w
  | (1, i) :: r, a, w => ∃ o v, ops[i]? = some o ∧ YieldsIf P ops S2 o v a ∧ PlanG P ops S S2 f Q r (a.put o.dst v) w
  | (_, i) :: r, a, w => wpOp P ops Q i (fun a' w' => S2 w' ∧ PlanG P ops S S2 f Q r a' w') a w
theorem PlanG.any (hs : Region.noSelect ops = true) (hQ : ∀ c a d v w, Q (.panic c) (Act.put a d v) w → Q (.panic c) a w) : ∀ (plan : List (Nat × Nat)) (n : Nat) (L : Array Bool) (a : Act) (w : World),
    plan.length ≤ n → planOkG ops f plan L = true → TwoT S S2 f L w → PlanG P ops S S2 f Q plan a w → RestG P ops Q S S2 f n L a w
  | [], n, L, a, w, _, hp, _, h => by
    have hr : Region.ready .any ops L = [] := by simpa [planOkG] using hp
    cases n with
    | zero => exact ⟨hr, h⟩
    | succ n => exact ⟨fun _ => h, by rw [hr]; simp⟩
  | (0, i) :: r, n + 1, L, a, w, hn, hp, hS, h => by
    obtain ⟨o, v, ho, hy, hr⟩ := h
    simp only [planOkG, Bool.and_eq_true, Bool.not_eq_true', bne_iff_ne] at hp
    obtain ⟨⟨⟨⟨⟨h1, h2⟩, h3⟩, h4⟩, h5⟩, h6⟩ := hp
    exact RestG.early ho hs h1 h2 (fun c a w => hQ c a _ _ w) n L a w h4 (by simpa using h5) h3 hy hS (PlanG.any hs hQ r n _ _ _ (by simpa using hn) h6 (hS.other h2) hr)
  | (1, i) :: r, n + 1, L, a, w, hn, hp, hS, h => by
    obtain ⟨o, v, ho, hy, hr⟩ := h
    simp only [planOkG, Bool.and_eq_true, bne_iff_ne] at hp
    obtain ⟨⟨⟨h2, h4⟩, h5⟩, h6⟩ := hp
    exact RestG.early2 ho hs h2 (fun c a w => hQ c a _ _ w) n L a w h4 (by simpa using h5) hy hS (PlanG.any hs hQ r n _ _ _ (by simpa using hn) h6 (hS.other h2) hr)
  | (k + 2, i) :: r, n + 1, L, a, w, hn, hp, _, h => by
    simp only [planOkG, Bool.and_eq_true, beq_iff_eq] at hp
    obtain ⟨⟨h1, h2⟩, h3⟩ := hp
    refine ⟨fun h0 => by rw [h1] at h0; simp at h0, fun j hj => ?_⟩
    rw [h1] at hj
    obtain rfl : j = i := by simpa using hj
    refine wpOp_mono (fun a' w' h' => ?_) h
    have hT : TwoT S S2 f (L.setIfInBounds j true) w' := ⟨fun e => (by rw [h2] at e; cases e), h'.1⟩
    exact ⟨hT, PlanG.any hs hQ r n _ _ _ (by simpa using hn) h3 hT h'.2⟩
  | _ :: _, 0, _, _, _, hn, _, _, _ => by simp at hn

theorem wp_region_planG (S S2 : World → Prop) (f : Nat) (plan : List (Nat × Nat)) {id : Nat} {a : Act} {w : World} (hm : P.follows .mixedOrders = true) (hs : (Region.noSelect ops && planOkG ops f plan (Array.replicate ops.size false) && decide (plan.length ≤ ops.size)) = true)
    (hQ : ∀ c a d v w, Q (.panic c) (Act.put a d v) w → Q (.panic c) a w) (hS : S w.drew) (hS2 : S2 w.drew) (h : PlanG P ops S S2 f Q plan a w.drew) : (Code.region id ops true).wp P Q a w := by
  simp only [Bool.and_eq_true, decide_eq_true_eq] at hs
  exact wp_region_any hm (RestG.plain _ _ _ _ (PlanG.any hs.1.1 hQ plan _ _ _ _ hs.2 hs.1.2 ⟨fun _ => hS, hS2⟩ h))

theorem PlanG.take {i : Nat} {o : Oper} {v : Value} {r : List (Nat × Nat)} {a : Act} {w : World} (hi : ops.toList[i]? = some o) (hw : Region.wanted o (yielded ops a.tmps) = true)
    (hy : ∀ W, S W → (execOp a.eval o).run P W = .ok (.value v) W) (h : PlanG P ops S S2 f Q r (a.put o.dst v) w) : PlanG P ops S S2 f Q ((0, i) :: r) a w :=
  ⟨o, v, by simpa using hi, .inl ⟨hw, hy⟩, h⟩
theorem PlanG.take2 {i : Nat} {o : Oper} {v : Value} {r : List (Nat × Nat)} {a : Act} {w : World} (hi : ops.toList[i]? = some o) (hw : Region.wanted o (yielded ops a.tmps) = true)
    (hy : ∀ W, S2 W → (execOp a.eval o).run P W = .ok (.value v) W) (h : PlanG P ops S S2 f Q r (a.put o.dst v) w) : PlanG P ops S S2 f Q ((1, i) :: r) a w :=
  ⟨o, v, by simpa using hi, .inl ⟨hw, hy⟩, h⟩
theorem PlanG.step {i : Nat} {o : Oper} {r : List (Nat × Nat)} {a : Act} {w : World} (hi : ops.toList[i]? = some o) (hw : Region.wanted o (yielded ops a.tmps) = true)
    (h : ∀ K : Act → World → Prop, Shut (∀ a w, S2 w → PlanG P ops S S2 f Q r a w → K a w) → Oper.wp P o a w K Q) : PlanG P ops S S2 f Q ((2, i) :: r) a w := by
  show wpOp P ops Q i _ a w
  refine wpOp_step (o := o) (by simpa using hi) fun K' hK => ?_
  rw [if_pos hw]
  exact h K' fun a w h1 h2 => hK a w ⟨h1, h2⟩
end
end Go.Proofs.YtcmpbhcldaogiaaGreat

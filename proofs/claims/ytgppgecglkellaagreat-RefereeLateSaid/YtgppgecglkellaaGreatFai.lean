/- slices.Replace: a part of a slice of the call's own, by at most one pair. slices.Replace: the end of a slice. slices.Replace: a part in the midst of a slice, which leaves spare room. slices.Replace: a part in the midst of a slice without spare room. slices.Replace: a part of a slice of the own call, by at most one pair. Joining spans: what span.Join answers. -/
import Derived.Test.YtgppgecglkellaaGreatFah
import Derived.Test.YtgppgecglkellaaGreatFaf
import Derived.BigQuiet
import Derived.Deep.QuietTactic
namespace Go.Proofs.YtgppgecglkellaaGreat
open Go.RowKit

theorem grown_drew (w : World) (row : Option Nat) : w.grownBy w.drew row := ⟨rfl, rfl, rfl, Nat.le_refl _, fun _ _ _ => rfl⟩

set_option maxHeartbeats 8000000 in
set_option maxRecDepth 100000 in
theorem replace_same (l : List Wr) (i : Nat) (hi : i ≤ l.length) (x : Wr) (v vp : Value) (w : World) (base : Nat) (hown : OwnMk w base v l) (hbase : base ≤ w.heap.size) (hp : SrcK w v [x] vp) (hlen : l.length + 1 ≤ 1000000) :
    Calls Tryz.prog 52 #[v, .int .i64 i, .int .i64 i, vp] w fun e w' =>
      ∃ A' c', e = .returned (.slice A' (l.take i ++ [x] ++ l.drop i).length c') ∧ OwnMk w' base (.slice A' (l.take i ++ [x] ++ l.drop i).length c') (l.take i ++ [x] ++ l.drop i) ∧ w.grownBy w' v.ownBlock ∧ NewRow w v.ownBlock (Value.ownBlock (.slice A' (l.take i ++ [x] ++ l.drop i).length c')) := by
  have hcon := sinsert_any l i hi x v vp w base hown hbase hp hlen
  obtain ⟨A, c, rfl, hc, hcm⟩ := hown.slice
  obtain ⟨L, hL⟩ : ∃ L, L = l.take i ++ [x] ++ l.drop i := ⟨_, rfl⟩
  rw [← hL] at hcon ⊢
  generalize L.length = z at hcon ⊢
  generalize (Value.slice A l.length c).ownBlock = row at hcon ⊢
  obtain ⟨vb, vc, vcur, rfl, _⟩ := hp
  clear hown hL
  have HC := Lib.hid hcon; clear hcon
  have hb0 : (i : Int) ≤ (c : Int) := by omega
  simp only [List.length_cons, List.length_nil] at HC ⊢
  generalize l.length = n at *
  by_cases hci : c = i
  · subst hci
    go_enter Tryz.func52, Tryz.ntmps52
    go_wp2_with fail
    refine HC.out.mono ?_
    rintro e w1 ⟨A', c', rfl, h1, h2, h3⟩
    have HO1 := Lib.hid h1; clear h1
    have HG1 := Lib.hid h2; clear h2
    have HN1 := Lib.hid h3; clear h3
    go_wp2_with fail
    go_ret
    exact ⟨A', c', rfl, HO1.out, HG1.out, HN1.out⟩
  · go_enter Tryz.func52, Tryz.ntmps52
    go_wp2_with fail
    refine HC.out.mono ?_
    rintro e w1 ⟨A', c', rfl, h1, h2, h3⟩
    have HO1 := Lib.hid h1; clear h1
    have HG1 := Lib.hid h2; clear h2
    have HN1 := Lib.hid h3; clear h3
    go_wp2_with fail
    go_ret
    exact ⟨A', c', rfl, HO1.out, HG1.out, HN1.out⟩
end Go.Proofs.YtgppgecglkellaaGreat
namespace Go.Proofs.YtgppgecglkellaaGreat
open Go.RowKit

set_option maxHeartbeats 8000000 in
set_option maxRecDepth 100000 in
theorem replace_endLt (i n m cap mc g : Nat) (sp : Option Addr) (cur cs : List Value) (w : World) (hg : Whole w g 77 cur) (hcs : cs.length = m * 3) (hs : Srcs w sp cs) (h1 : ∀ v ∈ cs, v.oneCell' = true) (hin : i < n) (hnc : n ≤ cap) (_hcm : cap ≤ maxLen) (hcl : cur.length = cap * 3) (hlt : i + m < n) :
    Calls Tryz.prog 52 #[.slice (some ⟨g, 0, none⟩) n cap, .int .i64 i, .int .i64 n, .slice sp m mc] w fun e w' =>
      e = .returned (.slice (some ⟨g, 0, none⟩) (i + m) cap) ∧ ∃ cur', Whole w' g 77 cur' ∧ cur'.length = cap * 3 ∧ cur'.take ((i + m) * 3) = cur.take (i * 3) ++ cs ∧ w.grownBy w' (some g) := by
  unfold maxLen at _hcm
  have hb0 : (i : Int) ≤ (n : Int) := by omega
  have hb1 : (n : Int) ≤ (cap : Int) := by omega
  have hb2 : ¬ ((i : Int) = (n : Int)) := by omega
  have hb3 : (i : Int) ≤ (cap : Int) := by omega
  have hb7 : ¬ (cap = i) := by omega
  have HG := Lib.hid hg; clear hg
  have HS := Lib.hid hs; clear hs
  have HCS := Lib.hid hcs; clear hcs
  have HL := Lib.hid hcl; clear hcl
  have H1 := Lib.hid h1; clear h1
  have hc1 : (i : Int) + (m : Int) < (n : Int) := by omega
  have hc2 : ¬ (cap = i + m) := by omega
  have hc3 : (i : Int) + (m : Int) ≤ (n : Int) := by omega
  have hc4 : (0 : Int) ≤ (i : Int) + (m : Int) := by omega
  have hc5 : ((i : Int) + (m : Int)).toNat = i + m := by omega
  go_enter Tryz.func52, Tryz.ntmps52
  go_wp2_with (with_reducible show wpList _ _ _ (⟨some 34, _, _, _, _, _⟩ :: _) _ _; go_must (refine wpList_roomP rfl _ _ rfl g i cap cur cs _ _ _ rfl rfl HG.out HCS.out HS.out ?c1 ?c2 H1.out ?_))
  case c1 => omega
  case c2 => rw [HCS.out, HL.out]; omega
  intro w1 hm1
  obtain ⟨Y, hY⟩ : ∃ Y, Y = splice cur (i * 3) cs := ⟨_, rfl⟩
  rw [← hY] at hm1
  have hYl : Y.length = cap * 3 := by rw [hY, length_splice _ _ _ (by rw [HCS.out, HL.out]; omega), HL.out]
  have hYt : Y.take ((i + m) * 3) = cur.take (i * 3) ++ cs := by rw [hY, take_splice_end cur _ (i * 3) _ (by rw [HL.out]; omega) (by rw [HCS.out]; omega)]
  have HYL := Lib.hid hYl; clear hYl
  have HYT := Lib.hid hYt; clear hYt
  clear hY
  go_wp2_with (with_reducible show wpList _ _ _ (⟨none, _, _, _, _, _⟩ :: _) _ _; go_must (refine wpList_clearP rfl _ rfl g ((i + m) * 3) Y _ _ _ rfl hm1.out.whole (fun _ => rfl) ?d1 ?_))
  case d1 => rw [HYL.out]; omega
  intro w2 zs hz hm2
  have HZ := Lib.hid hz; clear hz
  go_wp2_with fail
  go_ret
  refine ⟨rfl, _, hm2.out.whole, ?_, ?_, grown_trans hm1.out.grown hm2.out.grown⟩
  · rw [length_splice _ _ _ (by rw [HZ.out, HYL.out]; omega), HYL.out]
  · rw [take_splice_lt Y _ _ _ (Nat.le_refl _) (by rw [HYL.out]; omega), HYT.out]

set_option maxHeartbeats 8000000 in
set_option maxRecDepth 100000 in
theorem replace_endEq (i n m cap mc g : Nat) (sp : Option Addr) (cur cs : List Value) (w : World) (hg : Whole w g 77 cur) (hcs : cs.length = m * 3) (hs : Srcs w sp cs) (h1 : ∀ v ∈ cs, v.oneCell' = true) (hin : i < n) (hnc : n ≤ cap) (_hcm : cap ≤ maxLen) (hcl : cur.length = cap * 3) (hge : n ≤ i + m) (hroom : i + m ≤ cap) :
    Calls Tryz.prog 52 #[.slice (some ⟨g, 0, none⟩) n cap, .int .i64 i, .int .i64 n, .slice sp m mc] w fun e w' =>
      e = .returned (.slice (some ⟨g, 0, none⟩) (i + m) cap) ∧ ∃ cur', Whole w' g 77 cur' ∧ cur'.length = cap * 3 ∧ cur'.take ((i + m) * 3) = cur.take (i * 3) ++ cs ∧ w.grownBy w' (some g) := by
  unfold maxLen at _hcm
  have hb0 : (i : Int) ≤ (n : Int) := by omega
  have hb1 : (n : Int) ≤ (cap : Int) := by omega
  have hb2 : ¬ ((i : Int) = (n : Int)) := by omega
  have hb3 : (i : Int) ≤ (cap : Int) := by omega
  have hb7 : ¬ (cap = i) := by omega
  have HG := Lib.hid hg; clear hg
  have HS := Lib.hid hs; clear hs
  have HCS := Lib.hid hcs; clear hcs
  have HL := Lib.hid hcl; clear hcl
  have H1 := Lib.hid h1; clear h1
  have hc1 : ¬ (i : Int) + (m : Int) < (n : Int) := by omega
  go_enter Tryz.func52, Tryz.ntmps52
  go_wp2_with (with_reducible show wpList _ _ _ (⟨some 34, _, _, _, _, _⟩ :: _) _ _; go_must (refine wpList_roomP rfl _ _ rfl g i cap cur cs _ _ _ rfl rfl HG.out HCS.out HS.out ?c1 ?c2 H1.out ?_))
  case c2 => rw [HCS.out, HL.out]; omega
  intro w1 hm1
  obtain ⟨Y, hY⟩ : ∃ Y, Y = splice cur (i * 3) cs := ⟨_, rfl⟩
  rw [← hY] at hm1
  have hYl : Y.length = cap * 3 := by rw [hY, length_splice _ _ _ (by rw [HCS.out, HL.out]; omega), HL.out]
  have hYt : Y.take ((i + m) * 3) = cur.take (i * 3) ++ cs := by rw [hY, take_splice_end cur _ (i * 3) _ (by rw [HL.out]; omega) (by rw [HCS.out]; omega)]
  have HYL := Lib.hid hYl; clear hYl
  have HYT := Lib.hid hYt; clear hYt
  clear hY
  go_wp2_with fail
  go_ret
  exact ⟨rfl, _, hm1.out.whole, HYL.out, HYT.out, hm1.out.grown⟩

set_option maxHeartbeats 8000000 in
set_option maxRecDepth 100000 in
theorem replace_endGrow (l : List Wr) (i cap g : Nat) (p : List Wr) (v : Value) (cur : List Value) (w : World) (base : Nat) (hbg : base ≤ g) (hg : Whole w g 77 cur) (hin : i < l.length) (hnc : l.length ≤ cap) (hcm : cap ≤ maxLen) (hcl : cur.length = cap * 3) (htk : cur.take (l.length * 3) = flatG encW l)
    (hbase : base ≤ w.heap.size) (hp : SrcK w (.slice (some ⟨g, 0, none⟩) l.length cap) p v) (hgt : cap < i + p.length) (hlen : i + p.length ≤ 1000000) :
    Calls Tryz.prog 52 #[.slice (some ⟨g, 0, none⟩) l.length cap, .int .i64 i, .int .i64 l.length, v] w fun e w' =>
      ∃ A' c', e = .returned (.slice A' (l.take i ++ p).length c') ∧ OwnMk w' base (.slice A' (l.take i ++ p).length c') (l.take i ++ p) ∧ w.grownBy w' (some g) ∧ NewRow w (some g) (Value.ownBlock (.slice A' (l.take i ++ p).length c')) := by
  unfold maxLen at hcm
  have hA : (l.take i).length = i := by rw [List.length_take]; omega
  have ho : OwnMk w base (.slice (some ⟨g, 0, none⟩) i cap) (l.take i) := by
    have := Own.ofRow (enc := encW) (k := 3) (e := 77) encW_len (l.take i) hbg hg (by rw [hA]; omega) (by unfold maxLen; omega) hcl (by rw [hA, flatG_take encW_len, ← htk, List.take_take, Nat.min_eq_left (by omega)])
    rwa [hA] at this
  have HR := Lib.hid hp.rd
  obtain ⟨vb, vc, vcur, rfl, _⟩ := hp
  have HO := Lib.hid ho; clear ho hg htk
  have HA := Lib.hid hA
  have hL : (l.take i ++ p).length = i + p.length := by rw [List.length_append, hA]
  have HL := Lib.hid hL
  generalize l.take i = la at HO HA HL hA hL ⊢
  clear hL
  rw [HL.out]
  generalize l.length = n at *
  have hb0 : (i : Int) ≤ (n : Int) := by omega
  have hb1 : (n : Int) ≤ (cap : Int) := by omega
  have hb2 : ¬ ((i : Int) = (n : Int)) := by omega
  have hb3 : (i : Int) ≤ (cap : Int) := by omega
  have hb7 : ¬ (cap = i) := by omega
  have hc1 : ¬ (i : Int) + (p.length : Int) < (n : Int) := by omega
  have hA2 := hA
  clear hA
  go_enter Tryz.func52, Tryz.ntmps52
  obtain ⟨i0, hi, hz0, hz1, hz2⟩ := info_mkE
  go_wp2_with (at_builtin; go_must (refine BigFrame.wpList_want rfl fun K2 hK => ?_; refine wp_addAnyN (enc := encW) (k := 3) 68 77 40 i0 _ Tryz.underlying68 hi hz0 hz1 hz2 rfl (by decide) encW_len encW_one _ _ rfl base _ la rfl HO.out w.heap.size _ p rfl HR.out (by unfold maxLen; omega) (by omega) hbase ?_))
  intro A' c' w1 h1 h2 h3
  have HO1 := Lib.hid h1; clear h1
  have HG1 := Lib.hid h2; clear h2
  have HN1 := Lib.hid h3; clear h3
  refine hK _ _ ?_
  clear hK hA2
  (try rw [HL.out] at HO1)
  (try rw [HL.out] at HN1)
  go_wp2_with fail
  go_ret
  exact ⟨A', c', rfl, HO1.out, HG1.out, HN1.out⟩
end Go.Proofs.YtgppgecglkellaaGreat
namespace Go.Proofs.YtgppgecglkellaaGreat
open Go.RowKit

set_option maxHeartbeats 8000000 in
set_option maxRecDepth 100000 in
theorem replace_midLt (i j n m q cap mc g : Nat) (sp : Option Addr) (cur cs ds : List Value) (w : World) (hg : Whole w g 77 cur) (hcs : cs.length = m * 3) (hs : ∀ w', w.grownBy w' (some g) → Srcs w' sp cs) (h1 : ∀ v ∈ cs, v.oneCell' = true) (hij : i < j) (hjq : j + q = n) (hq : 0 < q) (hnc : n ≤ cap) (hcm : cap ≤ maxLen) (hm : i + m ≤ j)
    (hcl : cur.length = cap * 3) (hds : ds.length = q * 3) (hd : ∀ t v, ds[t]? = some v → cur[j * 3 + t]? = some v) (h2 : ∀ v ∈ ds, v.oneCell' = true) (k T : Nat) (hk : k = i + m) (hT : T = k + q) (hc : ¬ (cap = T)) :
    Calls Tryz.prog 52 #[.slice (some ⟨g, 0, none⟩) n cap, .int .i64 i, .int .i64 j, .slice sp m mc] w fun e w' =>
      e = .returned (.slice (some ⟨g, 0, none⟩) T cap) ∧ ∃ cur', Whole w' g 77 cur' ∧ cur'.length = cap * 3 ∧ cur'.take (T * 3) = cur.take (i * 3) ++ cs ++ ds ∧ w.grownBy w' (some g) := by
  unfold maxLen at hcm
  have hb0 : (i : Int) ≤ (j : Int) := by omega
  have hb1 : (j : Int) ≤ (n : Int) := by omega
  have hb2 : ¬ ((i : Int) = (j : Int)) := by omega
  have hb3 : ¬ ((j : Int) = (n : Int)) := by omega
  have hb4 : (i : Int) ≤ (cap : Int) := by omega
  have hb5 : (j : Int) ≤ (cap : Int) := by omega
  have hb6 : ¬ ((cap : Int) < (T : Int)) := by omega
  have hb7 : ¬ (cap = i) := by omega
  have hb8 : ¬ (cap = j) := by omega
  have hb9 : ¬ (cap = k) := by omega
  have hb10 : (T : Int) ≤ (cap : Int) := by omega
  have hb11 : (i : Int) ≤ (T : Int) := by omega
  have hb12 : (k : Int) ≤ (T : Int) := by omega
  have hb13 : (T : Int) ≤ (n : Int) := by omega
  have hb14 : (k : Int) ≤ (j : Int) := by omega
  have hw1 : IntKind.i64.wrap ((i : Int) + (m : Int)) = (k : Int) := by rw [IntKind.wrap_i64]; omega
  have hw2 : IntKind.i64.wrap ((k : Int) + ((n - j : Nat) : Int)) = (T : Int) := by rw [IntKind.wrap_i64]; omega
  have HG := Lib.hid hg; clear hg
  have HS := Lib.hid hs; clear hs
  have HCS := Lib.hid hcs; clear hcs
  have HDS := Lib.hid hds; clear hds
  have HD := Lib.hid hd; clear hd
  have HL := Lib.hid hcl; clear hcl
  have H1 := Lib.hid h1; clear h1
  have H2 := Lib.hid h2; clear h2
  have HK := Lib.hid hk; clear hk
  have HT := Lib.hid hT; clear hT
  have HJ := Lib.hid hjq; clear hjq
  go_enter Tryz.func52, Tryz.ntmps52
  go_wp2_with fail
  refine wp_region_plan (S := fun _ => True) [(true, 0), (true, 1), (true, 2), (true, 3), (true, 4), (true, 5), (true, 6), (true, 7), (true, 8), (true, 9), (true, 10), (true, 11), (true, 12)] (by kernel_rfl) (by kernel_rfl) (fun _ _ d _ _ h => by cases d <;> exact h) trivial ?_
  repeat (refine Plan.take (v := ?_) rfl rfl ?_ ?_; rotate_left; (focus (intro W hW; go_simp; (try with_reducible rfl); done)); (try simp only [Act.put, List.setIfInBounds_toArray, List.set_cons_zero, List.set_cons_succ]))
  simp only [Plan]
  go_wp2_with (with_reducible show wpList _ _ _ (⟨some 97, _, _, _, _, _⟩ :: _) _ _; go_must (refine wpList_copyP rfl _ _ rfl g (i * 3) cur cs _ _ _ _ _ _ rfl rfl HG.out.drew ?c1 (fun _ => rfl) (HS.out _ (grown_drew _ _)) ?c2 H1.out ?_))
  case c1 => rw [HCS.out, show Nat.min m (T - i) = m from Nat.min_eq_left (by have := HT.out; have := HK.out; omega)]
  case c2 => rw [HCS.out, HL.out]; omega
  intro w1 hm1
  obtain ⟨Y, hY⟩ : ∃ Y, Y = splice cur (i * 3) cs := ⟨_, rfl⟩
  rw [← hY] at hm1
  have hYl : Y.length = cap * 3 := by rw [hY, length_splice _ _ _ (by rw [HCS.out, HL.out]; omega), HL.out]
  have hYt : Y.take (k * 3) = cur.take (i * 3) ++ cs := by rw [hY, take_splice_end cur _ (i * 3) _ (by rw [HL.out]; omega) (by rw [HCS.out, HK.out]; omega)]
  have hYd : ∀ t v, ds[t]? = some v → Y[j * 3 + t]? = some v := fun t v ht => by rw [hY, get_splice_ge cur cs (i * 3) _ (by rw [HCS.out]; have := HK.out; omega) (by rw [HL.out]; omega)]; exact HD.out t v ht
  have HYL := Lib.hid hYl; clear hYl
  have HYT := Lib.hid hYt; clear hYt
  have HYD := Lib.hid hYd; clear hYd
  clear hY
  go_wp2_with fail
  refine wp_region_plan (S := fun _ => True) [(true, 0), (true, 1), (true, 2), (true, 3), (true, 4), (true, 5), (true, 6), (true, 7), (true, 8), (false, 9)] (by kernel_rfl) (by kernel_rfl) (fun _ _ d _ _ h => by cases d <;> exact h) trivial ?_
  repeat (refine Plan.take (v := ?_) rfl rfl ?_ ?_; rotate_left; (focus (intro W hW; go_simp; (try with_reducible rfl); done)); (try simp only [Act.put, List.setIfInBounds_toArray, List.set_cons_zero, List.set_cons_succ]))
  refine Plan.step rfl rfl fun K2 hK => ?_
  refine wp_copyP _ _ rfl g (k * 3) Y ds _ _ _ _ _ _ rfl rfl hm1.out.whole.drew ?_ (fun _ => rfl) (Srcs.of (hm1.out.whole.drew.srcs (j * 3) _ HYD.out)) ?_ H2.out ?_
  · rw [HDS.out, show Nat.min (n - j) (T - k) = q from by have := HT.out; have := HJ.out; rw [show n - j = q by omega, show T - k = q by omega]; exact Nat.min_self q]
  · rw [HDS.out, HYL.out]; have := HJ.out; omega
  intro w2 hm2
  refine hK _ _ trivial ?_
  simp only [Plan]
  clear hK K2
  obtain ⟨Z, hZ⟩ : ∃ Z, Z = splice Y (k * 3) ds := ⟨_, rfl⟩
  rw [← hZ] at hm2
  have hZl : Z.length = cap * 3 := by rw [hZ, length_splice _ _ _ (by rw [HDS.out, HYL.out]; have := HJ.out; omega), HYL.out]
  have hZt : Z.take (T * 3) = cur.take (i * 3) ++ cs ++ ds := by rw [hZ, take_splice_end Y _ (k * 3) _ (by rw [HYL.out]; omega) (by rw [HDS.out, HT.out]; omega), HYT.out]
  have HZL := Lib.hid hZl; clear hZl
  have HZT := Lib.hid hZt; clear hZt
  clear hZ
  go_wp2_with (with_reducible show wpList _ _ _ (⟨none, _, _, _, _, _⟩ :: _) _ _; go_must (refine wpList_clearP rfl _ rfl g (T * 3) Z _ _ _ rfl hm2.out.whole (fun _ => rfl) ?d1 ?_))
  case d1 => rw [HZL.out]; omega
  intro w3 zs hz hm3
  have HZ := Lib.hid hz; clear hz
  go_wp2_with fail
  go_ret
  refine ⟨rfl, _, hm3.out.whole, ?_, ?_, grown_trans (grown_undrew hm1.out.grown) (grown_trans (grown_undrew hm2.out.grown) hm3.out.grown)⟩
  · rw [length_splice _ _ _ (by rw [HZ.out, HZL.out]; omega), HZL.out]
  · rw [take_splice_lt Z _ _ _ (Nat.le_refl _) (by rw [HZL.out]; omega), HZT.out]
end Go.Proofs.YtgppgecglkellaaGreat
namespace Go.Proofs.YtgppgecglkellaaGreat
open Go.RowKit

set_option maxHeartbeats 8000000 in
set_option maxRecDepth 100000 in
theorem replace_midEq (i j n m q cap mc g : Nat) (sp : Option Addr) (cur cs ds : List Value) (w : World) (hg : Whole w g 77 cur) (hcs : cs.length = m * 3) (hs : ∀ w', w.grownBy w' (some g) → Srcs w' sp cs) (h1 : ∀ v ∈ cs, v.oneCell' = true) (hij : i < j) (hjq : j + q = n) (hq : 0 < q) (hnc : n ≤ cap) (hcm : cap ≤ maxLen) (hm : i + m ≤ j)
    (hcl : cur.length = cap * 3) (hds : ds.length = q * 3) (hd : ∀ t v, ds[t]? = some v → cur[j * 3 + t]? = some v) (h2 : ∀ v ∈ ds, v.oneCell' = true) (k T : Nat) (hk : k = i + m) (hT : T = k + q) (hc : cap = T) :
    Calls Tryz.prog 52 #[.slice (some ⟨g, 0, none⟩) n cap, .int .i64 i, .int .i64 j, .slice sp m mc] w fun e w' =>
      e = .returned (.slice (some ⟨g, 0, none⟩) T cap) ∧ ∃ cur', Whole w' g 77 cur' ∧ cur'.length = cap * 3 ∧ cur'.take (T * 3) = cur.take (i * 3) ++ cs ++ ds ∧ w.grownBy w' (some g) := by
  unfold maxLen at hcm
  subst hc
  have hb0 : (i : Int) ≤ (j : Int) := by omega
  have hb1 : (j : Int) ≤ (n : Int) := by omega
  have hb2 : ¬ ((i : Int) = (j : Int)) := by omega
  have hb3 : ¬ ((j : Int) = (n : Int)) := by omega
  have hb4 : (i : Int) ≤ (cap : Int) := by omega
  have hb5 : (j : Int) ≤ (cap : Int) := by omega
  have hb6 : ¬ ((cap : Int) < (cap : Int)) := by omega
  have hb7 : ¬ (cap = i) := by omega
  have hb8 : ¬ (cap = j) := by omega
  have hb9 : ¬ (cap = k) := by omega
  have hb10 : (cap : Int) ≤ (cap : Int) := by omega
  have hb11 : (i : Int) ≤ (cap : Int) := by omega
  have hb12 : (k : Int) ≤ (cap : Int) := by omega
  have hb13 : (cap : Int) ≤ (n : Int) := by omega
  have hb14 : (k : Int) ≤ (j : Int) := by omega
  have hw1 : IntKind.i64.wrap ((i : Int) + (m : Int)) = (k : Int) := by rw [IntKind.wrap_i64]; omega
  have hw2 : IntKind.i64.wrap ((k : Int) + ((n - j : Nat) : Int)) = (cap : Int) := by rw [IntKind.wrap_i64]; omega
  have HG := Lib.hid hg; clear hg
  have HS := Lib.hid hs; clear hs
  have HCS := Lib.hid hcs; clear hcs
  have HDS := Lib.hid hds; clear hds
  have HD := Lib.hid hd; clear hd
  have HL := Lib.hid hcl; clear hcl
  have H1 := Lib.hid h1; clear h1
  have H2 := Lib.hid h2; clear h2
  have HK := Lib.hid hk; clear hk
  have HT := Lib.hid hT; clear hT
  have HJ := Lib.hid hjq; clear hjq
  go_enter Tryz.func52, Tryz.ntmps52
  go_wp2_with fail
  refine wp_region_plan (S := fun _ => True) [(true, 0), (true, 1), (true, 2), (true, 3), (true, 4), (true, 5), (true, 6), (true, 7), (true, 8), (true, 9), (true, 10), (true, 11), (true, 12)] (by kernel_rfl) (by kernel_rfl) (fun _ _ d _ _ h => by cases d <;> exact h) trivial ?_
  repeat (refine Plan.take (v := ?_) rfl rfl ?_ ?_; rotate_left; (focus (intro W hW; go_simp; (try with_reducible rfl); done)); (try simp only [Act.put, List.setIfInBounds_toArray, List.set_cons_zero, List.set_cons_succ]))
  simp only [Plan]
  go_wp2_with (with_reducible show wpList _ _ _ (⟨some 97, _, _, _, _, _⟩ :: _) _ _; go_must (refine wpList_copyP rfl _ _ rfl g (i * 3) cur cs _ _ _ _ _ _ rfl rfl HG.out.drew ?c1 (fun _ => rfl) (HS.out _ (grown_drew _ _)) ?c2 H1.out ?_))
  case c1 => rw [HCS.out, show Nat.min m (cap - i) = m from Nat.min_eq_left (by have := HT.out; have := HK.out; omega)]
  case c2 => rw [HCS.out, HL.out]; omega
  intro w1 hm1
  obtain ⟨Y, hY⟩ : ∃ Y, Y = splice cur (i * 3) cs := ⟨_, rfl⟩
  rw [← hY] at hm1
  have hYl : Y.length = cap * 3 := by rw [hY, length_splice _ _ _ (by rw [HCS.out, HL.out]; omega), HL.out]
  have hYt : Y.take (k * 3) = cur.take (i * 3) ++ cs := by rw [hY, take_splice_end cur _ (i * 3) _ (by rw [HL.out]; omega) (by rw [HCS.out, HK.out]; omega)]
  have hYd : ∀ t v, ds[t]? = some v → Y[j * 3 + t]? = some v := fun t v ht => by rw [hY, get_splice_ge cur cs (i * 3) _ (by rw [HCS.out]; have := HK.out; omega) (by rw [HL.out]; omega)]; exact HD.out t v ht
  have HYL := Lib.hid hYl; clear hYl
  have HYT := Lib.hid hYt; clear hYt
  have HYD := Lib.hid hYd; clear hYd
  clear hY
  go_wp2_with fail
  refine wp_region_plan (S := fun _ => True) [(true, 0), (true, 1), (true, 2), (true, 3), (true, 4), (true, 5), (true, 6), (true, 7), (true, 8), (false, 9)] (by kernel_rfl) (by kernel_rfl) (fun _ _ d _ _ h => by cases d <;> exact h) trivial ?_
  repeat (refine Plan.take (v := ?_) rfl rfl ?_ ?_; rotate_left; (focus (intro W hW; go_simp; (try with_reducible rfl); done)); (try simp only [Act.put, List.setIfInBounds_toArray, List.set_cons_zero, List.set_cons_succ]))
  refine Plan.step rfl rfl fun K2 hK => ?_
  refine wp_copyP _ _ rfl g (k * 3) Y ds _ _ _ _ _ _ rfl rfl hm1.out.whole.drew ?_ (fun _ => rfl) (Srcs.of (hm1.out.whole.drew.srcs (j * 3) _ HYD.out)) ?_ H2.out ?_
  · rw [HDS.out, show Nat.min (n - j) (cap - k) = q from by have := HT.out; have := HJ.out; rw [show n - j = q by omega, show cap - k = q by omega]; exact Nat.min_self q]
  · rw [HDS.out, HYL.out]; have := HJ.out; omega
  intro w2 hm2
  refine hK _ _ trivial ?_
  simp only [Plan]
  clear hK K2
  obtain ⟨Z, hZ⟩ : ∃ Z, Z = splice Y (k * 3) ds := ⟨_, rfl⟩
  rw [← hZ] at hm2
  have hZl : Z.length = cap * 3 := by rw [hZ, length_splice _ _ _ (by rw [HDS.out, HYL.out]; have := HJ.out; omega), HYL.out]
  have hZt : Z.take (cap * 3) = cur.take (i * 3) ++ cs ++ ds := by rw [hZ, take_splice_end Y _ (k * 3) _ (by rw [HYL.out]; omega) (by rw [HDS.out, HT.out]; omega), HYT.out]
  have HZL := Lib.hid hZl; clear hZl
  have HZT := Lib.hid hZt; clear hZt
  clear hZ
  go_wp2_with (with_reducible show wpList _ _ _ (⟨none, _, _, _, _, _⟩ :: _) _ _; go_must (refine wpList_clearP rfl _ rfl g (cap * 3) Z _ _ _ rfl hm2.out.whole (fun h => absurd h (by omega)) ?d1 ?_))
  case d1 => rw [HZL.out]; omega
  intro w3 hm3
  go_wp2_with fail
  go_ret
  refine ⟨rfl, Z, ?_, HZL.out, HZT.out, grown_trans (grown_undrew hm1.out.grown) (grown_trans (grown_undrew hm2.out.grown) hm3.out.grown)⟩
  have h := hm3.out.whole
  rwa [splice_nil] at h
end Go.Proofs.YtgppgecglkellaaGreat
namespace Go.Proofs.YtgppgecglkellaaGreat
open Go.RowKit
theorem put_cells {cur A B X Y : List Value} (hA : cur.take A.length = A) (hl : A.length + X.length + B.length ≤ cur.length) (hY : Y = splice cur (A.length + X.length) B) :
    (splice Y A.length X).take (A.length + X.length + B.length) = A ++ X ++ B := by
  have hYl : Y.length = cur.length := by rw [hY, length_splice _ _ _ (by omega)]
  have h1 : (splice Y A.length X).take (A.length + X.length) = A ++ X := by
    rw [take_splice_end Y X A.length _ (by omega) rfl, hY, take_splice_lt cur B _ _ (by omega) (by omega), hA]
  have h2 : (splice Y A.length X).drop (A.length + X.length) = B ++ cur.drop (A.length + X.length + B.length) := by
    rw [drop_splice_ge Y X A.length _ (Nat.le_refl _) (by omega), hY]
    unfold splice
    rw [List.drop_append, List.drop_eq_nil_of_le (by simp; omega), List.nil_append, show A.length + X.length - (cur.take (A.length + X.length)).length = 0 by simp; omega, List.drop_zero]
  have h3 : splice Y A.length X = (A ++ X ++ B) ++ cur.drop (A.length + X.length + B.length) := by
    rw [← List.take_append_drop (A.length + X.length) (splice Y A.length X), h1, h2, List.append_assoc (A ++ X)]
  rw [h3]
  exact List.take_left' (by simp only [List.length_append])
theorem overlaps_apart2 {w : World} {g vb : Nat} {cur cs : List Value} {o la ca lb cb : Nat} (hg : Whole w g 77 cur) (hv : Whole w vb 77 cs) (hne : vb ≠ g) (hc : cs.length ≠ 0) :
    (callFunc 72 #[.slice (some ⟨g, o, none⟩) la ca, .slice (some ⟨vb, 0, none⟩) lb cb]).run Tryz.prog w = .ok (.value (.bool false)) w := by
  rw [run_callFunc_extern Tryz.func72 (by kernel_rfl) (by kernel_rfl) (by kernel_rfl) (e := Extern.SlicesOverlaps.overlaps #[68, 68] #[4]) (by kernel_rfl),
    Lib.run_overlaps_apart w 68 4 77 Tryz.underlying68 3 Tryz.sizeOf77 ⟨g, o, none⟩ ⟨vb, 0, none⟩ la ca lb cb (Ne.symm hne) _ _ _ _ hg.shape hv.shape hc (hg.frozen _) (hg.frozen _)]
  rfl

set_option maxHeartbeats 8000000 in
set_option maxRecDepth 100000 in
/-- more is put in than is taken out, and there is room -/
theorem replace_midMore (i j n m q cap vc g vb : Nat) (cur vcur cs ds : List Value) (w : World) (hg : Whole w g 77 cur) (hv : Whole w vb 77 vcur) (hne : vb ≠ g) (hvl : vcur.length ≠ 0) (hcs : cs.length = m * 3) (hsv : ∀ (t : Nat) (v : Value), cs[t]? = some v → vcur[t]? = some v) (h1 : ∀ v ∈ cs, v.oneCell' = true) (hij : i < j) (hjq : j + q = n) (hq : 0 < q) (hnc : n ≤ cap) (hcm : cap ≤ maxLen) (hm : j < i + m)
    (hcl : cur.length = cap * 3) (hds : ds.length = q * 3) (hd : ∀ t v, ds[t]? = some v → cur[j * 3 + t]? = some v) (h2 : ∀ v ∈ ds, v.oneCell' = true) (k T : Nat) (hk : k = i + m) (hT : T = k + q) (hc : T ≤ cap) :
    Calls Tryz.prog 52 #[.slice (some ⟨g, 0, none⟩) n cap, .int .i64 i, .int .i64 j, .slice (some ⟨vb, 0, none⟩) m vc] w fun e w' =>
      e = .returned (.slice (some ⟨g, 0, none⟩) T cap) ∧ ∃ cur', Whole w' g 77 cur' ∧ cur'.length = cap * 3 ∧ cur'.take (T * 3) = cur.take (i * 3) ++ cs ++ ds ∧ w.grownBy w' (some g) := by
  have hov := fun la ca lb cb (W : World) (h : Whole W g 77 cur ∧ Whole W vb 77 vcur) => overlaps_apart2 (o := k * 3) (la := la) (ca := ca) (lb := lb) (cb := cb) h.1 h.2 hne hvl
  have hovd := fun la ca lb cb => hov la ca lb cb w.drew ⟨hg.drew, hv.drew⟩
  clear hov
  unfold maxLen at hcm
  have hb0 : (i : Int) ≤ (j : Int) := by omega
  have hb1 : (j : Int) ≤ (n : Int) := by omega
  have hb2 : ¬ ((i : Int) = (j : Int)) := by omega
  have hb3 : ¬ ((j : Int) = (n : Int)) := by omega
  have hb4 : (i : Int) ≤ (cap : Int) := by omega
  have hb5 : (j : Int) ≤ (cap : Int) := by omega
  have hb6 : ¬ ((cap : Int) < (T : Int)) := by omega
  have hb7 : ¬ (cap = i) := by omega
  have hb8 : ¬ (cap = j) := by omega
  have hb9 : ¬ (cap = k) := by omega
  have hb10 : (T : Int) ≤ (cap : Int) := by omega
  have hb11 : (i : Int) ≤ (T : Int) := by omega
  have hb12 : (k : Int) ≤ (T : Int) := by omega
  have hb14 : ¬ ((k : Int) ≤ (j : Int)) := by omega
  have hw1 : IntKind.i64.wrap ((i : Int) + (m : Int)) = (k : Int) := by rw [IntKind.wrap_i64]; omega
  have hw2 : IntKind.i64.wrap ((k : Int) + ((n - j : Nat) : Int)) = (T : Int) := by rw [IntKind.wrap_i64]; omega
  have HG := Lib.hid hg; clear hg
  have HV := Lib.hid hv; clear hv
  have HS := Lib.hid hsv; clear hsv
  have HCS := Lib.hid hcs; clear hcs
  have HDS := Lib.hid hds; clear hds
  have HD := Lib.hid hd; clear hd
  have HL := Lib.hid hcl; clear hcl
  have H1 := Lib.hid h1; clear h1
  have H2 := Lib.hid h2; clear h2
  have HK := Lib.hid hk; clear hk
  have HT := Lib.hid hT; clear hT
  have HJ := Lib.hid hjq; clear hjq
  go_enter Tryz.func52, Tryz.ntmps52
  go_wp2_with fail
  refine wp_region_plan (S := fun _ => True) [(true, 0), (true, 1), (true, 2), (true, 3), (true, 4), (true, 5), (true, 6), (true, 7), (true, 8), (true, 9), (true, 10), (true, 11), (true, 12)] (by kernel_rfl) (by kernel_rfl) (fun _ _ d _ _ h => by cases d <;> exact h) trivial ?_
  repeat (refine Plan.take (v := ?_) rfl rfl ?_ ?_; rotate_left; (focus (intro W hW; go_simp; (try with_reducible rfl); done)); (try simp only [Act.put, List.setIfInBounds_toArray, List.set_cons_zero, List.set_cons_succ]))
  simp only [Plan]
  go_wp2_with fail
  refine wp_region_plan (S := fun _ => True) [(true, 0), (true, 1), (true, 2), (true, 3), (true, 4), (true, 5), (true, 6), (true, 7), (true, 8), (false, 9)] (by kernel_rfl) (by kernel_rfl) (fun _ _ d _ _ h => by cases d <;> exact h) trivial ?_
  repeat (refine Plan.take (v := ?_) rfl rfl ?_ ?_; rotate_left; (focus (intro W hW; go_simp; (try with_reducible rfl); done)); (try simp only [Act.put, List.setIfInBounds_toArray, List.set_cons_zero, List.set_cons_succ]))
  refine Plan.step rfl rfl fun K2 hK => ?_
  refine wp_copyP _ _ rfl g (k * 3) cur ds _ _ _ _ _ _ rfl rfl HG.out.drew.drew ?_ (fun _ => rfl) (Srcs.of (HG.out.drew.drew.srcs (j * 3) _ HD.out)) ?_ H2.out ?_
  · rw [HDS.out, show Nat.min (n - j) (T - k) = q from by have := HT.out; have := HJ.out; rw [show n - j = q by omega, show T - k = q by omega]; exact Nat.min_self q]
  · rw [HDS.out, HL.out]; have := HJ.out; have := HT.out; omega
  intro w2 hm2
  refine hK _ _ trivial ?_
  simp only [Plan]
  clear hK K2
  have hv2 : Whole w2 vb 77 vcur := hm2.out.away HV.out.drew.drew hne
  have HV2 := Lib.hid hv2; clear hv2 hovd
  obtain ⟨Y, hY⟩ : ∃ Y, Y = splice cur (k * 3) ds := ⟨_, rfl⟩
  rw [← hY] at hm2
  have hYl : Y.length = cap * 3 := by rw [hY, length_splice _ _ _ (by rw [HDS.out, HL.out]; have := HT.out; omega), HL.out]
  have HY := Lib.hid hY; clear hY
  have HYL := Lib.hid hYl; clear hYl
  go_wp2_with (with_reducible show wpList _ _ _ (⟨some 135, _, _, _, _, _⟩ :: _) _ _; go_must (refine wpList_copyP rfl _ _ rfl g (i * 3) Y cs _ _ _ _ _ _ rfl rfl hm2.out.whole ?c1 (fun _ => rfl) (Srcs.of ?c2) ?c3 H1.out ?_))
  case c1 => rw [HCS.out, show Nat.min m (T - i) = m from Nat.min_eq_left (by have := HT.out; have := HK.out; omega)]
  case c2 => exact HV2.out.srcs 0 _ (fun j v hj => by rw [Nat.zero_add]; exact HS.out j v hj)
  case c3 => rw [HYL.out, HCS.out]; have := HK.out; have := HT.out; omega
  intro w3 hm3
  go_wp2_with fail
  go_ret
  refine ⟨rfl, _, hm3.out.whole, ?_, ?_, grown_trans (grown_undrew (grown_undrew hm2.out.grown)) hm3.out.grown⟩
  · rw [length_splice _ _ _ (by rw [HYL.out, HCS.out]; have := HK.out; have := HT.out; omega), HYL.out]
  · have hA : (cur.take (i * 3)).length = i * 3 := by rw [List.length_take, HL.out]; have := HK.out; have := HT.out; omega
    have h := put_cells (cur := cur) (A := cur.take (i * 3)) (B := ds) (X := cs) (Y := Y) (by rw [hA]) (by rw [hA, HCS.out, HDS.out, HL.out]; have := HK.out; have := HT.out; omega) (by rw [HY.out, hA, HCS.out, HK.out, Nat.add_mul])
    rw [hA, HCS.out, HDS.out, show i * 3 + m * 3 + q * 3 = T * 3 by have := HK.out; have := HT.out; omega] at h
    exact h

set_option maxHeartbeats 8000000 in
set_option maxRecDepth 100000 in
/-- more is put in than there is room for -/
theorem replace_midGrow (i j n m q cap vc g vb : Nat) (cur vcur cs ds : List Value) (w : World) (hg : Whole w g 77 cur) (hv : Whole w vb 77 vcur) (hcs : cs.length = m * 3) (hsv : ∀ (t : Nat) (v : Value), cs[t]? = some v → vcur[t]? = some v) (h1 : ∀ v ∈ cs, v.oneCell' = true) (hij : i < j) (hjq : j + q = n) (hq : 0 < q) (hnc : n ≤ cap) (hcm : cap ≤ maxLen)
    (hcl : cur.length = cap * 3) (hds : ds.length = q * 3) (hd : ∀ t v, ds[t]? = some v → cur[j * 3 + t]? = some v) (h2 : ∀ v ∈ ds, v.oneCell' = true) (k T d : Nat) (hk : k = i + m) (hT : T = k + q) (hdd : T = i + d) (hc : cap < T) (hlen : T ≤ 1000000) :
    Calls Tryz.prog 52 #[.slice (some ⟨g, 0, none⟩) n cap, .int .i64 i, .int .i64 j, .slice (some ⟨vb, 0, none⟩) m vc] w fun e w' =>
      ∃ c, e = .returned (.slice (some ⟨w.heap.size, 0, none⟩) T c) ∧ ∃ cur', Whole w' w.heap.size 77 cur' ∧ cur'.length = c * 3 ∧ T ≤ c ∧ c ≤ maxLen ∧ cur'.take (T * 3) = cur.take (i * 3) ++ cs ++ ds ∧ w.grownBy w' none := by
  unfold maxLen at hcm
  have hb0 : (i : Int) ≤ (j : Int) := by omega
  have hb1 : (j : Int) ≤ (n : Int) := by omega
  have hb2 : ¬ ((i : Int) = (j : Int)) := by omega
  have hb3 : ¬ ((j : Int) = (n : Int)) := by omega
  have hb4 : (i : Int) ≤ (cap : Int) := by omega
  have hb5 : (j : Int) ≤ (cap : Int) := by omega
  have hb6 : ((cap : Int) < (T : Int)) := by omega
  have hb7 : ¬ (cap = i) := by omega
  have hb8 : ¬ (cap = j) := by omega
  have hb12 : (k : Int) ≤ (i : Int) + (d : Int) := by omega
  have hb13 : (i : Int) ≤ (i : Int) + (d : Int) := by omega
  have hw1 : IntKind.i64.wrap ((i : Int) + (m : Int)) = (k : Int) := by rw [IntKind.wrap_i64]; omega
  have hw2 : IntKind.i64.wrap ((k : Int) + ((n - j : Nat) : Int)) = (T : Int) := by rw [IntKind.wrap_i64]; omega
  have hw3 : IntKind.i64.wrap ((T : Int) - (i : Int)) = (d : Int) := by rw [IntKind.wrap_i64]; omega
  have hvlt := hv.size
  have hglt := hg.size
  have hA : (cur.take (i * 3)).length = i * 3 := by rw [List.length_take, hcl]; omega
  have HA := Lib.hid hA; clear hA
  have HG := Lib.hid hg; clear hg
  have HV := Lib.hid hv; clear hv
  have HS := Lib.hid hsv; clear hsv
  have HCS := Lib.hid hcs; clear hcs
  have HDS := Lib.hid hds; clear hds
  have HD := Lib.hid hd; clear hd
  have HL := Lib.hid hcl; clear hcl
  have H1 := Lib.hid h1; clear h1
  have H2 := Lib.hid h2; clear h2
  have HK := Lib.hid hk; clear hk
  have HT := Lib.hid hT; clear hT
  have HJ := Lib.hid hjq; clear hjq
  have HDD := Lib.hid hdd; clear hdd
  go_enter Tryz.func52, Tryz.ntmps52
  go_wp2_with fail
  refine wp_region_plan (S := fun _ => True) [(true, 0), (true, 1), (true, 2), (true, 3), (true, 4), (true, 5), (true, 6), (true, 7), (true, 8), (true, 9), (true, 10), (true, 11), (true, 12)] (by kernel_rfl) (by kernel_rfl) (fun _ _ d _ _ h => by cases d <;> exact h) trivial ?_
  repeat (refine Plan.take (v := ?_) rfl rfl ?_ ?_; rotate_left; (focus (intro W hW; go_simp; (try with_reducible rfl); done)); (try simp only [Act.put, List.setIfInBounds_toArray, List.set_cons_zero, List.set_cons_succ]))
  simp only [Plan]
  go_wp2_with (with_reducible show wpList _ _ _ (⟨some 67, _, _, _, _, _⟩ :: _) _ _; go_must (refine wpList_zerosP rfl _ _ rfl (some ⟨g, 0, none⟩) i cap d (cur.take (i * 3)) rfl rfl HA.out (Srcs.of ?c1) ?c2 ?c3 ?c4 ?_))
  case c1 => exact HG.out.drew.srcs 0 _ (fun j v hj => by rw [Nat.zero_add]; rw [List.getElem?_take] at hj; split at hj; exact hj; cases hj)
  case c2 => have := HDD.out; omega
  case c3 => have := HDD.out; omega
  case c4 => have := HDD.out; omega
  intro w1 c cur1 hz hc9
  have hc1 : ¬ (c = i) := by have := HDD.out; have := HT.out; have := HK.out; omega
  have hc2 : ¬ (c = k) := by have := HDD.out; have := HT.out; omega
  have hv1 : Whole w1 vb 77 vcur := HV.out.drew.grown hz.out.2.2.2.2.2.1 (by simp)
  have hg1 : Whole w1 g 77 cur := HG.out.drew.grown hz.out.2.2.2.2.2.1 (by simp)
  have HV1 := Lib.hid hv1; clear hv1
  have HG1 := Lib.hid hg1; clear hg1
  clear hc9
  go_wp2_with (with_reducible show wpList _ _ _ (⟨some 72, _, _, _, _, _⟩ :: _) _ _; go_must (refine wpList_copyP rfl _ _ rfl w.heap.size (i * 3) cur1 cs _ _ _ _ _ _ rfl rfl hz.out.1 ?d1 (fun _ => rfl) (Srcs.of ?d2) ?d3 H1.out ?_))
  case d1 => rw [HCS.out, show Nat.min m d = m from Nat.min_eq_left (by have := HDD.out; have := HT.out; have := HK.out; omega)]
  case d2 => exact HV1.out.srcs 0 _ (fun j v hj => by rw [Nat.zero_add]; exact HS.out j v hj)
  case d3 => rw [hz.out.2.1, HCS.out]; have := hz.out.2.2.2.1; have := HDD.out; have := HT.out; have := HK.out; omega
  intro w2 hm2
  obtain ⟨Y, hY⟩ : ∃ Y, Y = splice cur1 (i * 3) cs := ⟨_, rfl⟩
  rw [← hY] at hm2
  have hYl : Y.length = c * 3 := by rw [hY, length_splice _ _ _ (by rw [HCS.out, hz.out.2.1]; have := hz.out.2.2.2.1; have := HDD.out; have := HT.out; have := HK.out; omega), hz.out.2.1]
  have hYt : Y.take (k * 3) = cur.take (i * 3) ++ cs := by
    rw [hY, take_splice_end cur1 _ (i * 3) _ (by rw [hz.out.2.1]; have := hz.out.2.2.2.1; omega) (by rw [HCS.out]; have := HK.out; omega), hz.out.2.2.1]
  have hg2 : Whole w2 g 77 cur := HG1.out.grown hm2.out.grown (by simp; omega)
  have HG2 := Lib.hid hg2; clear hg2
  have HYL := Lib.hid hYl; clear hYl
  have HYT := Lib.hid hYt; clear hYt
  clear hY
  go_wp2_with fail
  refine wp_region_plan (S := fun _ => True) [(true, 0), (true, 1), (true, 2), (true, 3), (true, 4), (true, 5), (true, 6), (true, 7), (true, 8), (false, 9)] (by kernel_rfl) (by kernel_rfl) (fun _ _ d _ _ h => by cases d <;> exact h) trivial ?_
  repeat (refine Plan.take (v := ?_) rfl rfl ?_ ?_; rotate_left; (focus (intro W hW; go_simp; (try with_reducible rfl); done)); (try simp only [Act.put, List.setIfInBounds_toArray, List.set_cons_zero, List.set_cons_succ]))
  refine Plan.step rfl rfl fun K2 hK => ?_
  refine wp_copyP _ _ rfl w.heap.size (k * 3) Y ds _ _ _ _ _ _ rfl rfl hm2.out.whole.drew ?_ (fun _ => rfl) (Srcs.of (HG2.out.drew.srcs (j * 3) _ HD.out)) ?_ H2.out ?_
  · rw [HDS.out, show Nat.min (n - j) (i + d - k) = q from by have := HDD.out; have := HT.out; have := HJ.out; rw [show n - j = q by omega, show i + d - k = q by omega]; exact Nat.min_self q]
  · rw [HDS.out, HYL.out]; have := hz.out.2.2.2.1; have := HDD.out; have := HT.out; omega
  intro w3 hm3
  refine hK _ _ trivial ?_
  simp only [Plan]
  clear hK
  go_wp2_with fail
  go_ret
  refine ⟨c, ?_, _, hm3.out.whole, ?_, ?_, hz.out.2.2.2.2.1, ?_, ?_⟩
  · rw [HDD.out]; rfl
  · rw [length_splice _ _ _ (by rw [HDS.out, HYL.out]; have := hz.out.2.2.2.1; have := HDD.out; have := HT.out; omega), HYL.out]
  · have := hz.out.2.2.2.1; have := HDD.out; omega
  · rw [take_splice_end Y _ (k * 3) _ (by rw [HYL.out]; have := hz.out.2.2.2.1; have := HDD.out; have := HT.out; omega) (by rw [HDS.out]; have := HT.out; omega), HYT.out]
  · exact grown_new (grown_new (grown_undrew hz.out.2.2.2.2.2.1) hm2.out.grown (Nat.le_refl _)) (grown_undrew hm3.out.grown) (Nat.le_refl _)
end Go.Proofs.YtgppgecglkellaaGreat
namespace Go.Proofs.YtgppgecglkellaaGreat
open Go.RowKit

set_option maxRecDepth 100000 in
/-- a part of the slice, by others; by one where nothing is taken out -/
theorem sreplace_any (l : List Wr) (i j : Nat) (hij : i ≤ j) (hj : j ≤ l.length) (p : List Wr) (h0 : p ≠ []) (h1p : i = j → p.length = 1) (v vp : Value) (w : World) (base : Nat) (hown : OwnMk w base v l) (hbase : base ≤ w.heap.size) (hp : SrcK w v p vp) (hlen : l.length + p.length ≤ 1000000) :
    Calls Tryz.prog 52 #[v, .int .i64 i, .int .i64 j, vp] w fun e w' =>
      ∃ A' c', e = .returned (.slice A' (l.take i ++ p ++ l.drop j).length c') ∧ OwnMk w' base (.slice A' (l.take i ++ p ++ l.drop j).length c') (l.take i ++ p ++ l.drop j) ∧ w.grownBy w' v.ownBlock ∧ NewRow w v.ownBlock (Value.ownBlock (.slice A' (l.take i ++ p ++ l.drop j).length c')) := by
  by_cases he : i = j
  · subst he
    obtain ⟨x, rfl⟩ := List.length_eq_one_iff.1 (h1p rfl)
    exact replace_same l i hj x v vp w base hown hbase hp (by simpa using hlen)
  rcases hown.row with ⟨rfl, rfl⟩ | ⟨g, cap, cur, rfl, hbg, hg, h1, h2, h3, h4⟩
  · simp at hj; omega
  have hpp := hp
  obtain ⟨vb, vc, vcur, rfl, hvc, hv, hvx, hvne⟩ := hp
  have hvg : vb ≠ g := fun e => hvne (by rw [e]; rfl)
  have hs : ∀ w', w.grownBy w' (some g) → Srcs w' (some ⟨vb, 0, none⟩) (flatG encW p) := fun w' hw =>
    Srcs.of ((hv.grown hw (by simpa using hvg)).srcs 0 _ (fun j v hj => by rw [Nat.zero_add]; exact src_cells hvx j v hj))
  have hs' := hs w (grown_same _ _)
  have fA : (flatG encW (l.take i)) = cur.take (i * 3) := by rw [flatG_take encW_len, ← h4, List.take_take, Nat.min_eq_left (by omega)]
  have hcs : (flatG encW p).length = p.length * 3 := flatG_length encW_len p
  have hp1 : 1 ≤ p.length := by
    cases p with
    | nil => exact absurd rfl h0
    | cons => simp
  have hvl : vcur.length ≠ 0 := fun e => by
    have := congrArg List.length hvx
    rw [hcs, List.length_take, e] at this
    omega
  by_cases hjn : j = l.length
  · subst hjn
    rw [List.drop_length, List.append_nil]
    have hL : (l.take i ++ p).length = i + p.length := by rw [List.length_append, List.length_take, Nat.min_eq_left hij]
    have fin : ∀ cur' w', i + p.length ≤ cap → Whole w' g 77 cur' → cur'.length = cap * 3 → cur'.take ((i + p.length) * 3) = cur.take (i * 3) ++ flatG encW p → w.grownBy w' (some g) →
        ∃ A' c', Ending.returned (Value.slice (some ⟨g, 0, none⟩) (i + p.length) cap) = .returned (.slice A' (l.take i ++ p).length c') ∧ OwnMk w' base (.slice A' (l.take i ++ p).length c') (l.take i ++ p) ∧ w.grownBy w' (Value.slice (some ⟨g, 0, none⟩) l.length cap).ownBlock ∧ NewRow w (Value.slice (some ⟨g, 0, none⟩) l.length cap).ownBlock (Value.ownBlock (.slice A' (l.take i ++ p).length c')) := fun cur' w' k0 k1 k2 k3 k4 =>
      ⟨some ⟨g, 0, none⟩, cap, by rw [hL], Own.ofRow encW_len _ hbg k1 (by rw [hL]; exact k0) h2 k2 (by rw [hL, k3, flatG_append, fA]), k4, fun g' hg' => .inl hg'⟩
    by_cases hroom : i + p.length ≤ cap
    · by_cases hlt : i + p.length < l.length
      · refine (replace_endLt i l.length p.length cap vc g _ cur (flatG encW p) w hg hcs hs' (encW_one' _) (by omega) h1 h2 h3 hlt).mono ?_
        rintro e w' ⟨rfl, cur', k1, k2, k3, k4⟩
        exact fin cur' w' hroom k1 k2 k3 k4
      · refine (replace_endEq i l.length p.length cap vc g _ cur (flatG encW p) w hg hcs hs' (encW_one' _) (by omega) h1 h2 h3 (by omega) hroom).mono ?_
        rintro e w' ⟨rfl, cur', k1, k2, k3, k4⟩
        exact fin cur' w' hroom k1 k2 k3 k4
    · exact replace_endGrow l i cap g p _ cur w base hbg hg (by omega) h1 h2 h3 h4 hbase hpp (by omega) (by omega)
  · have hd : (l.drop j).length = l.length - j := List.length_drop
    have hds : (flatG encW (l.drop j)).length = (l.length - j) * 3 := by rw [flatG_length encW_len, hd]
    have hdc : ∀ t v, (flatG encW (l.drop j))[t]? = some v → cur[j * 3 + t]? = some v := by
      have h5 : cur.take (l.length * 3) = flatG encW (l.take j) ++ flatG encW (l.drop j) := by rw [h4, ← flatG_append, List.take_append_drop]
      have h6 := cells_at h5
      rw [flatG_length encW_len, List.length_take, Nat.min_eq_left hj] at h6
      exact h6
    have hL : (l.take i ++ p ++ l.drop j).length = i + p.length + (l.length - j) := by rw [List.length_append, List.length_append, List.length_take, Nat.min_eq_left (by omega), hd]
    have fin : ∀ cur' w', i + p.length + (l.length - j) ≤ cap → Whole w' g 77 cur' → cur'.length = cap * 3 → cur'.take ((i + p.length + (l.length - j)) * 3) = cur.take (i * 3) ++ flatG encW p ++ flatG encW (l.drop j) → w.grownBy w' (some g) →
        ∃ A' c', Ending.returned (Value.slice (some ⟨g, 0, none⟩) (i + p.length + (l.length - j)) cap) = .returned (.slice A' (l.take i ++ p ++ l.drop j).length c') ∧ OwnMk w' base (.slice A' (l.take i ++ p ++ l.drop j).length c') (l.take i ++ p ++ l.drop j) ∧ w.grownBy w' (Value.slice (some ⟨g, 0, none⟩) l.length cap).ownBlock ∧ NewRow w (Value.slice (some ⟨g, 0, none⟩) l.length cap).ownBlock (Value.ownBlock (.slice A' (l.take i ++ p ++ l.drop j).length c')) := fun cur' w' k0 k1 k2 k3 k4 =>
      ⟨some ⟨g, 0, none⟩, cap, by rw [hL], Own.ofRow encW_len _ hbg k1 (by rw [hL]; exact k0) h2 k2 (by rw [hL, k3, flatG_append, flatG_append, fA]), k4, fun g' hg' => .inl hg'⟩
    by_cases hroom : i + p.length + (l.length - j) ≤ cap
    · by_cases hm : i + p.length ≤ j
      · by_cases hc : cap = i + p.length + (l.length - j)
        · refine (replace_midEq i j l.length p.length (l.length - j) cap vc g _ cur (flatG encW p) (flatG encW (l.drop j)) w hg hcs hs (encW_one' _) (by omega) (by omega) (by omega) h1 h2 hm h3 hds hdc (encW_one' _) _ _ rfl rfl hc).mono ?_
          rintro e w' ⟨rfl, cur', k1, k2, k3, k4⟩
          exact fin cur' w' hroom k1 k2 k3 k4
        · refine (replace_midLt i j l.length p.length (l.length - j) cap vc g _ cur (flatG encW p) (flatG encW (l.drop j)) w hg hcs hs (encW_one' _) (by omega) (by omega) (by omega) h1 h2 hm h3 hds hdc (encW_one' _) _ _ rfl rfl hc).mono ?_
          rintro e w' ⟨rfl, cur', k1, k2, k3, k4⟩
          exact fin cur' w' hroom k1 k2 k3 k4
      · refine (replace_midMore i j l.length p.length (l.length - j) cap vc g vb cur vcur (flatG encW p) (flatG encW (l.drop j)) w hg hv hvg hvl hcs (src_cells hvx) (encW_one' _) (by omega) (by omega) (by omega) h1 h2 (by omega) h3 hds hdc (encW_one' _) _ _ rfl rfl hroom).mono ?_
        rintro e w' ⟨rfl, cur', k1, k2, k3, k4⟩
        exact fin cur' w' hroom k1 k2 k3 k4
    · refine (replace_midGrow i j l.length p.length (l.length - j) cap vc g vb cur vcur (flatG encW p) (flatG encW (l.drop j)) w hg hv hcs (src_cells hvx) (encW_one' _) (by omega) (by omega) (by omega) h1 h2 h3 hds hdc (encW_one' _) _ _ (p.length + (l.length - j)) rfl rfl (by omega) (by omega) (by omega)).mono ?_
      rintro e w' ⟨c, rfl, cur', k1, k2, k3, k4, k5, k6⟩
      exact ⟨some ⟨w.heap.size, 0, none⟩, c, by rw [hL], Own.ofRow encW_len _ hbase k1 (by rw [hL]; exact k3) k4 k2 (by rw [hL, k5, flatG_append, flatG_append, fA]), ⟨k6.os, k6.tape, k6.output, k6.size, fun k hk _ => k6.block k hk (by simp)⟩, newRow_new _ _ _ _⟩
end Go.Proofs.YtgppgecglkellaaGreat
namespace Go.Proofs.YtgppgecglkellaaGreat
open Go.RowKit
attribute [local go_sem] less_eq same_eq le_eq ge_eq gt_eq

set_option maxHeartbeats 1000000 in
set_option maxRecDepth 100000 in
theorem add_nil (w0 w : World) (ob : Nat) (v : Value) (s : K × K) (hw : w0.grownBy w (some ob)) (hob : w.heap[ob]? = some (.cells #[v] 44 (0, 0))) (ho : OwnS w w0.heap.size v []) (hlt : ob < w0.heap.size) :
    Calls Tryz.prog 83 #[.agg #[.string s.1, .string s.2], .pointer (some ⟨ob, 0, none⟩)] w fun e w' => e = .returned (.tuple #[]) ∧ ∃ v', w'.heap[ob]? = some (.cells #[v'] 44 (0, 0)) ∧ OwnS w' w0.heap.size v' [s] ∧ w0.grownBy w' (some ob) := by
  have hv : ∃ A c, v = .slice A 0 c := by
    rcases ho.form with ⟨rfl, _⟩ | ⟨g, cap, rfl, _⟩
    · exact ⟨_, _, rfl⟩
    · exact ⟨_, _, rfl⟩
  obtain ⟨A, c, rfl⟩ := hv
  have hc := cell_of_one hob
  have hf := free_of_one hob
  have hlt' := lt_of_block hob
  have HO := Lib.hid ho; clear ho
  have HB := Lib.hid hob; clear hob
  have HW := Lib.hid hw; clear hw
  go_enter Tryz.func83, Tryz.ntmps83
  go_wp2_with fail
  go_quiet (fail)
  go_wp2_with (at_builtin; refine wpList_addS rfl _ _ rfl w0.heap.size (.slice A 0 c) [] rfl ?c0 _ 1 [s] rfl ?c1 ?c2 ?c3 ?_)
  case c0 => exact ((HO.out.alloc _).drewN nq).alloc _
  case c1 => simpa using new_cells ((w.alloc (.cells #[.string s.1, .string s.2] 52)).drewN nq) s 52
  case c2 => simp
  case c3 => have := HW.out.size; simp; omega
  intro A' c' w1 ho1 hg1
  have hz := HW.out.size
  have hrow : ∀ k, (Value.slice A 0 c).ownBlock = some k → w0.heap.size ≤ k := fun k hk => (HO.out.lt k hk).1
  have hne : some ob ≠ (Value.slice A 0 c).ownBlock := fun e => by have := hrow ob e.symm; omega
  have hb1 : w1.heap[ob]? = some (.cells #[.slice A 0 c] 44 (0, 0)) := by
    rw [hg1.block ob (by simp; omega) hne, Below.heap_alloc _ _ _ (by simp; omega)]
    show (w.alloc _).heap[ob]? = _
    rw [Below.heap_alloc _ _ _ hlt']
    exact HB.out
  have hc1 := cell_of_one hb1
  have hf1 := free_of_one hb1
  have HO1 := Lib.hid ho1; clear ho1
  have HG1 := Lib.hid hg1; clear hg1
  have HB1 := Lib.hid hb1; clear hb1
  clear hc hf
  go_wp2_with fail
  go_end0
  refine ⟨rfl, _, one_setCell HB1.out, HO1.out.setOther hlt 0 _, grow_set (grow_trans (grow_alloc (grow_drewN (grow_alloc HW.out _) _) _) HG1.out fun k hk => .inl (hrow k hk)) 0 _⟩

set_option maxHeartbeats 1000000 in
set_option maxRecDepth 100000 in
theorem add_snoc (w0 w : World) (ob : Nat) (v : Value) (p : List (K × K)) (l s : K × K) (hw : w0.grownBy w (some ob)) (hob : w.heap[ob]? = some (.cells #[v] 44 (0, 0))) (ho : OwnS w w0.heap.size v (p ++ [l])) (hlt : ob < w0.heap.size) (hp : p.length ≤ 2000000) :
    Calls Tryz.prog 83 #[.agg #[.string s.1, .string s.2], .pointer (some ⟨ob, 0, none⟩)] w fun e w' => e = .returned (.tuple #[]) ∧ ∃ v', w'.heap[ob]? = some (.cells #[v'] 44 (0, 0)) ∧ OwnS w' w0.heap.size v' (jadd (p ++ [l]) s) ∧ w0.grownBy w' (some ob) := by
  have hv : ∃ g cap, v = .slice (some ⟨g, 0, none⟩) (p.length + 1) cap ∧ w0.heap.size ≤ g ∧ g < w.heap.size ∧ p.length + 1 ≤ cap := by
    rcases ho.form with ⟨_, h0⟩ | ⟨g, cap, hv, h1, h2, h3⟩
    · simp at h0
    · exact ⟨g, cap, by simpa using hv, h1, h2, by simpa using h3⟩
  obtain ⟨g, cap, rfl, hg0, hg, hcap⟩ := hv
  have hc := cell_of_one hob
  have hf := free_of_one hob
  have hlt' := lt_of_block hob
  have ho' : OwnS w w0.heap.size (.slice (some ⟨g, 0, none⟩) (p ++ [l]).length cap) (p ++ [l]) := by simpa using ho
  have hl1 : w.cell? ⟨g, p.length * 2, none⟩ = some (.string l.1) := by
    unfold OwnS at ho'; rw [ho'.cellAt _ (by simp), flat_append, List.getElem?_append_right (by rw [flat_length]; omega), flat_length, Nat.sub_self]; rfl
  have hl2 : w.cell? ⟨g, p.length * 2 + 1, none⟩ = some (.string l.2) := by
    unfold OwnS at ho'; rw [ho'.cellAt _ (by simp; omega), flat_append, List.getElem?_append_right (by rw [flat_length]; omega), flat_length, Nat.add_sub_cancel_left]; rfl
  have hfg : w.frozen? ⟨g, p.length * 2 + 1, none⟩ = false := by unfold OwnS at ho'; exact ho'.frozenAt _
  have hmax := fun (w : World) (ts : Array TypeId) (t : TypeId) (x y : ByteArray) => (Lib.run_max_strs (P := Tryz.prog) w ts t x y)
  simp only [maxS_eq] at hmax
  rw [jadd_snoc]
  have HO := Lib.hid ho'; clear ho ho'
  have HB := Lib.hid hob; clear hob
  have HW := Lib.hid hw; clear hw
  by_cases hx : s.1 ≤ l.2
  · rw [if_pos hx]
    go_enter Tryz.func83, Tryz.ntmps83
    go_wp2_with fail
    go_quiet (fail)
    go_wp2_with fail
    go_region
    go_wp2_with fail
    refine bodyPost_ret (results_none rfl _ _ _) rfl ?_
    have hne : ob ≠ g := by have := HW.out.size; omega
    refine ⟨rfl, .slice (some ⟨g, 0, none⟩) (p.length + 1) cap, ?_, by simpa using (((HO.out.alloc _).drewN nq).drewN 1).setLast (mx l.2 s.2), grow_setNew (grow_drewN (grow_drewN (grow_alloc HW.out _) _) 1) hg0 _ _⟩
    rw [Below.heap_setCell _ _ _ _ (by exact hne)]
    exact (Below.heap_alloc _ _ _ hlt').trans HB.out
  · rw [if_neg hx]
    go_enter Tryz.func83, Tryz.ntmps83
    go_wp2_with fail
    go_quiet (fail)
    go_wp2_with (at_builtin; refine wpList_addS rfl _ _ rfl w0.heap.size (.slice (some ⟨g, 0, none⟩) (p.length + 1) cap) (p ++ [l]) rfl ?c0 _ 1 [s] rfl ?c1 ?c2 ?c3 ?_)
    case c0 => simpa using ((HO.out.alloc _).drewN nq).alloc (.cells #[.string s.1, .string s.2] 52)
    case c1 => simpa using new_cells ((w.alloc (.cells #[.string s.1, .string s.2] 52)).drewN nq) s 52
    case c2 => simp; omega
    case c3 => have := HW.out.size; simp; omega
    intro A' c' w1 ho1 hg1
    have hz := HW.out.size
    have hb1 : w1.heap[ob]? = some (.cells #[.slice (some ⟨g, 0, none⟩) (p.length + 1) cap] 44 (0, 0)) := by
      rw [hg1.block ob (by simp; omega) (fun e => by simp [Value.ownBlock] at e; omega), Below.heap_alloc _ _ _ (by simp; omega)]
      show (w.alloc _).heap[ob]? = _
      rw [Below.heap_alloc _ _ _ hlt']
      exact HB.out
    have hc1 := cell_of_one hb1
    have hf1 := free_of_one hb1
    have HO1 := Lib.hid ho1; clear ho1
    have HG1 := Lib.hid hg1; clear hg1
    have HB1 := Lib.hid hb1; clear hb1
    clear hc hf hl1 hl2 hfg
    go_wp2_with fail
    go_end0
    refine ⟨rfl, _, one_setCell HB1.out, ?_, grow_set (grow_trans (grow_alloc (grow_drewN (grow_alloc HW.out _) _) _) HG1.out fun k hk => .inl (by simp [Value.ownBlock] at hk; omega)) 0 _⟩
    simpa using HO1.out.setOther hlt 0 _

/-- what the closure of Join adds -/
theorem add_any (w0 w : World) (ob : Nat) (v : Value) (out : List (K × K)) (s : K × K) (hw : w0.grownBy w (some ob)) (hob : w.heap[ob]? = some (.cells #[v] 44 (0, 0))) (ho : OwnS w w0.heap.size v out) (hlt : ob < w0.heap.size) (hp : out.length ≤ 2000000) :
    Calls Tryz.prog 83 #[.agg #[.string s.1, .string s.2], .pointer (some ⟨ob, 0, none⟩)] w fun e w' => e = .returned (.tuple #[]) ∧ ∃ v', w'.heap[ob]? = some (.cells #[v'] 44 (0, 0)) ∧ OwnS w' w0.heap.size v' (jadd out s) ∧ w0.grownBy w' (some ob) := by
  rcases List.eq_nil_or_concat out with rfl | ⟨p, l, rfl⟩
  · exact add_nil w0 w ob v s hw hob ho hlt
  · rw [List.concat_eq_append] at *
    exact add_snoc w0 w ob v p l s hw hob ho hlt (by simp at hp; omega)

theorem jadd_len (out : List (K × K)) (s : K × K) : (jadd out s).length ≤ out.length + 1 := by
  rcases List.eq_nil_or_concat out with rfl | ⟨p, l, rfl⟩
  · simp [jadd_nil]
  · rw [List.concat_eq_append, jadd_snoc]
    split <;> simp
theorem jfold_len : ∀ (l out : List (K × K)), (l.foldl jadd out).length ≤ out.length + l.length
  | [], out => by simp
  | s :: r, out => by
    have h1 := jfold_len r (jadd out s)
    have h2 := jadd_len out s
    simp only [List.foldl_cons, List.length_cons]
    omega

set_option maxHeartbeats 1000000 in
set_option maxRecDepth 100000 in
theorem join_any (l : List (K × K)) (v : Value) (w : World) (hv : RdS w w.heap.size v l) (hl : l.length ≤ 2000000) : Calls Tryz.prog 66 #[v] w fun e w' =>
    ∃ v' J, e = .returned v' ∧ OwnS w' w.heap.size v' J ∧ Below w.heap.size w w' ∧ Normal J ∧ (∀ k, mem J k ↔ mem l k) ∧ J.length ≤ 2000000 := by
  obtain ⟨A, c, rfl, hc⟩ : ∃ A c, v = .slice A l.length c ∧ l.length ≤ c := by obtain ⟨A, c, h1, h2, _⟩ := hv; exact ⟨A, c, h1, h2⟩
  have hr := fun W (hW : RdS W W.heap.size (.slice A l.length c) l) => rising_any l (.slice A l.length c) W hW hl
  have HR := Lib.hid hr; clear hr
  have HV := Lib.hid hv; clear hv
  go_enter Tryz.func66, Tryz.ntmps66
  go_wp2_with fail
  refine (HR.out _ ((HV.out.below ((Below.refl _ w).alloc (Nat.le_refl _) _) (Nat.le_refl _)).mono (by simp))).mono ?_
  rintro e w2 ⟨v', l', rfl, ho2, hb2, hp, hq⟩
  obtain ⟨A', c', rfl, hi⟩ := ho2.read
  have hll : l'.length ≤ 2000000 := by rw [hp.length_eq]; exact Nat.le_trans (List.length_filter_le _ _) hl
  have hbox : w2.heap[w.heap.size]? = some (.cells #[.slice none 0 0] 44 (0, 0)) := by
    rw [hb2.block _ (by simp)]
    exact heap_alloc_new w _
  have hw2 : w.heap.size < w2.heap.size := by have := hb2.size; simp at this; omega
  have hbw : Below w.heap.size w w2 := ((Below.refl _ w).alloc (Nat.le_refl _) _).trans (hb2.mono (by simp))
  have HI := Lib.hid hi; clear hi ho2
  have HB := Lib.hid hbox; clear hbox
  have HP := Lib.hid hp; clear hp
  have HQ := Lib.hid hq; clear hq
  have HBW := Lib.hid hbw; clear hbw hb2
  go_wp2_with fail
  go_loopw [11] (fun i wr => ∃ (j : Nat) (ov : Value), j ≤ l'.length ∧ i = .int .i64 j ∧ w2.grownBy wr (some w.heap.size) ∧ wr.heap[w.heap.size]? = some (.cells #[ov] 44 (0, 0)) ∧ OwnS wr w2.heap.size ov ((l'.take j).foldl jadd [])) (fun i _ => l'.length - (intOf i).toNat)
  case atStart => exact ⟨0, _, Nat.zero_le _, rfl, ⟨rfl, rfl, rfl, Nat.le_refl _, fun _ _ _ => rfl⟩, HB.out, OwnS.nil _ _⟩
  case round =>
    obtain ⟨j, ov, hj, rfl, hg, hb, ho⟩ := hrel
    by_cases hlt : j < l'.length
    · obtain ⟨g, rfl, hg1, hg2, h1, h2⟩ := HI.out j hlt
      have hne : some g ≠ some w.heap.size := fun e => by simp at e hg1; omega
      have g1 := hg.cell h1 hne
      have g2 := hg.cell h2 hne
      have hlen : ((l'.take j).foldl jadd []).length ≤ 2000000 := Nat.le_trans (jfold_len _ _) (by simp; omega)
      have hst : (l'.take (j + 1)).foldl jadd [] = jadd ((l'.take j).foldl jadd []) l'[j] := by rw [List.take_succ_eq_append_getElem hlt, List.foldl_append]; rfl
      have HS := Lib.hid hst; clear hst
      clear h1 h2 hne
      have hadd := fun W h1 h2 h3 => add_any w2 W w.heap.size ov _ l'[j] h1 h2 h3 hw2 hlen
      have HA := Lib.hid hadd; clear hadd hlen
      have HG := Lib.hid hg; clear hg
      have HX := Lib.hid hb; clear hb
      have HO := Lib.hid ho; clear ho
      go_wp2_with fail
      refine (HA.out _ (grow_alloc HG.out _) ((Below.heap_alloc _ _ _ (lt_of_block HX.out)).trans HX.out) (HO.out.alloc _)).mono ?_
      rintro e w3 ⟨rfl, ov', hb3, ho3, hg3⟩
      have HG3 := Lib.hid hg3; clear hg3
      have HX3 := Lib.hid hb3; clear hb3
      have HO3 := Lib.hid ho3; clear ho3
      go_wp2_with fail
      go_roundw
      case rel => exact ⟨j + 1, ov', by omega, by go_num, HG3.out, HX3.out, by rw [HS.out]; exact HO3.out⟩
      case measure => simp [intOf]; omega
    · obtain rfl : j = l'.length := by omega
      have hcell := cell_of_one hb
      rw [List.take_length] at ho
      have HG := Lib.hid hg; clear hg
      have HX := Lib.hid hb; clear hb
      have HO := Lib.hid ho; clear ho
      go_wp2_with fail
      have hfull : ∀ s ∈ l', s.1 < s.2 := fun s hs => by
        have := (HP.out.mem_iff.1 hs)
        simpa [full] using (List.mem_filter.1 this).2
      obtain ⟨n1, n2⟩ := join_ok l' hfull HQ.out
      have hmem : ∀ k, mem l' k ↔ mem l k := fun k => by
        rw [mem_perm HP.out]
        constructor
        · rintro ⟨s, hs, hk⟩; exact ⟨s, (List.mem_filter.1 hs).1, hk⟩
        · rintro ⟨s, hs, hk⟩; exact ⟨s, List.mem_filter.2 ⟨hs, by unfold has at hk; simp [full]; grind⟩, hk⟩
      refine bodyPost_ret (v := ov) ?_ rfl ⟨_, _, rfl, HO.out.lower (Nat.le_of_lt hw2), ?_, n1, fun k => (n2 k).trans (hmem k), Nat.le_trans (jfold_len _ _) (by simpa using hll)⟩
      · simp [results, Tryz.results66, go_sem]
      · have h1 := HBW.out
        have h2 := HG.out
        exact ⟨h2.os.trans h1.os, h2.tape.trans h1.tape, h2.output.trans h1.output, Nat.le_trans h1.size h2.size, fun k hk => (h2.block k (by omega) (by simp; omega)).trans (h1.block k hk)⟩
end Go.Proofs.YtgppgecglkellaaGreat

/- slices.Replace: a part of a slice of the call's own, by at most one pair. slices.Replace: the end of a slice. slices.Replace: a part in the midst of a slice, which leaves spare room. slices.Replace: a part in the midst of a slice without spare room. slices.Replace: a part of a slice of the own call, by at most one pair. -/
import Derived.Test.YtpfhkijnaiopoaaInsert
namespace Go.Proofs.Ytpfhkijnaiopoaa
open Go.RowKit

theorem grown_drew (w : World) (row : Option Nat) : w.grownBy w.drew row := ⟨rfl, rfl, rfl, Nat.le_refl _, fun _ _ _ => rfl⟩
theorem grown_same (w : World) (row : Option Nat) : w.grownBy w row := ⟨rfl, rfl, rfl, Nat.le_refl _, fun _ _ _ => rfl⟩
/-- what is put in, for a walk -/
theorem OneAt.form {w : World} {v vp : Value} {p : List (K × K)} (h : OneAt w v p vp) : ∃ sp mc, vp = .slice sp p.length mc ∧ p.length ≤ 1 ∧ ∀ w' g, v.ownBlock = some g → w.grownBy w' (some g) → Srcs w' sp (flatG cellsS p) := by
  rcases h with ⟨rfl, rfl⟩ | ⟨x, vb, rfl, rfl, hv, hne⟩
  · exact ⟨none, 0, rfl, by simp, fun w' g _ _ => Srcs.nil _ _⟩
  · refine ⟨some ⟨vb, 0, none⟩, 1, rfl, by simp, fun w' g hg hw => ?_⟩
    have hv' : Whole w' vb 56 (cellsS x) := hv.grown hw (by rw [← hg]; exact hne)
    rw [show flatG cellsS [x] = cellsS x by simp [flatG]]
    exact Srcs.of (hv'.srcs 0 _ (fun j v hj => by rwa [Nat.zero_add]))

set_option maxHeartbeats 8000000 in
set_option maxRecDepth 100000 in
theorem replace_same (l : List (K × K)) (i : Nat) (hi : i ≤ l.length) (p : List (K × K)) (v vp : Value) (w : World) (base : Nat) (hown : OwnP w base v l) (hbase : base ≤ w.heap.size) (hp : OneAt w v p vp) (hlen : l.length + 1 ≤ 7036874417000) :
    Calls Try.prog 58 #[v, .int .i64 i, .int .i64 i, vp] w fun e w' =>
      ∃ A' c', e = .returned (.slice A' (l.take i ++ p ++ l.drop i).length c') ∧ OwnP w' base (.slice A' (l.take i ++ p ++ l.drop i).length c') (l.take i ++ p ++ l.drop i) ∧ w.grownBy w' v.ownBlock := by
  have hcon := sinsert_any l i hi p v vp w base hown hbase hp hlen
  obtain ⟨A, c, rfl, hc, hcm⟩ := hown.slice
  obtain ⟨L, hL⟩ : ∃ L, L = l.take i ++ p ++ l.drop i := ⟨_, rfl⟩
  rw [← hL] at hcon ⊢
  generalize L.length = z at hcon ⊢
  generalize (Value.slice A l.length c).ownBlock = row at hcon ⊢
  obtain ⟨sp, mc, rfl, hm, hs⟩ := hp.form
  clear hs hp hown hL
  have HC := Lib.hid hcon; clear hcon
  have hb0 : (i : Int) ≤ (c : Int) := by omega
  generalize l.length = n at *
  generalize p.length = m at *
  by_cases hci : c = i
  · subst hci
    go_enter Try.func58, Try.ntmps58
    go_wp2_with fail
    refine HC.out.mono ?_
    rintro e w1 ⟨A', c', rfl, h1, h2⟩
    have HO1 := Lib.hid h1; clear h1
    have HG1 := Lib.hid h2; clear h2
    go_wp2_with fail
    go_ret
    exact ⟨A', c', rfl, HO1.out, HG1.out⟩
  · go_enter Try.func58, Try.ntmps58
    go_wp2_with fail
    refine HC.out.mono ?_
    rintro e w1 ⟨A', c', rfl, h1, h2⟩
    have HO1 := Lib.hid h1; clear h1
    have HG1 := Lib.hid h2; clear h2
    go_wp2_with fail
    go_ret
    exact ⟨A', c', rfl, HO1.out, HG1.out⟩
end Go.Proofs.Ytpfhkijnaiopoaa
namespace Go.Proofs.Ytpfhkijnaiopoaa
open Go.RowKit

set_option maxHeartbeats 8000000 in
set_option maxRecDepth 100000 in
theorem replace_endLt (i n m cap mc g : Nat) (sp : Option Addr) (cur cs : List Value) (w : World) (hg : Whole w g 56 cur) (hcs : cs.length = m * 2) (hs : Srcs w sp cs) (h1 : ∀ v ∈ cs, v.oneCell' = true) (hin : i < n) (hnc : n ≤ cap) (hcm : cap ≤ maxLen) (hm : m ≤ 1) (hcl : cur.length = cap * 2) (hlt : i + m < n) :
    Calls Try.prog 58 #[.slice (some ⟨g, 0, none⟩) n cap, .int .i64 i, .int .i64 n, .slice sp m mc] w fun e w' =>
      e = .returned (.slice (some ⟨g, 0, none⟩) (i + m) cap) ∧ ∃ cur', Whole w' g 56 cur' ∧ cur'.length = cap * 2 ∧ cur'.take ((i + m) * 2) = cur.take (i * 2) ++ cs ∧ w.grownBy w' (some g) := by
  unfold maxLen at hcm
  have hb0 : (i : Int) ≤ (n : Int) := by omega
  have hb1 : (n : Int) ≤ (cap : Int) := by omega
  have hb2 : ¬ ((i : Int) = (n : Int)) := by omega
  have hb3 : (i : Int) ≤ (cap : Int) := by omega
  have hb7 : ¬ (cap = i) := by omega
  have HG := Lib.hid hg; clear hg
  have HS := Lib.hid hs; clear hs
  have HCS := Lib.hid hcs; clear hcs
  have HL := Lib.hid hcl; clear hcl
  have H1 := Lib.hid h1; clear h1
  have hc1 : (i : Int) + (m : Int) < (n : Int) := by omega
  have hc2 : ¬ (cap = i + m) := by omega
  have hc3 : (i : Int) + (m : Int) ≤ (n : Int) := by omega
  have hc4 : (0 : Int) ≤ (i : Int) + (m : Int) := by omega
  have hc5 : ((i : Int) + (m : Int)).toNat = i + m := by omega
  go_enter Try.func58, Try.ntmps58
  go_wp2_with (with_reducible show wpList _ _ _ (⟨some 34, _, _, _, _, _⟩ :: _) _ _; go_must (refine wpList_roomP rfl _ _ rfl g i cap cur cs _ _ _ rfl rfl HG.out HCS.out HS.out ?c1 ?c2 H1.out ?_))
  case c1 => omega
  case c2 => rw [HCS.out, HL.out]; omega
  intro w1 hm1
  obtain ⟨Y, hY⟩ : ∃ Y, Y = splice cur (i * 2) cs := ⟨_, rfl⟩
  rw [← hY] at hm1
  have hYl : Y.length = cap * 2 := by rw [hY, length_splice _ _ _ (by rw [HCS.out, HL.out]; omega), HL.out]
  have hYt : Y.take ((i + m) * 2) = cur.take (i * 2) ++ cs := by rw [hY, take_splice_end cur _ (i * 2) _ (by rw [HL.out]; omega) (by rw [HCS.out]; omega)]
  have HYL := Lib.hid hYl; clear hYl
  have HYT := Lib.hid hYt; clear hYt
  clear hY
  go_wp2_with (with_reducible show wpList _ _ _ (⟨none, _, _, _, _, _⟩ :: _) _ _; go_must (refine wpList_clearP rfl _ rfl g ((i + m) * 2) Y _ _ _ rfl hm1.out.whole (fun _ => rfl) ?d1 ?_))
  case d1 => rw [HYL.out]; omega
  intro w2 zs hz hm2
  have HZ := Lib.hid hz; clear hz
  go_wp2_with fail
  go_ret
  refine ⟨rfl, _, hm2.out.whole, ?_, ?_, grown_trans hm1.out.grown hm2.out.grown⟩
  · rw [length_splice _ _ _ (by rw [HZ.out, HYL.out]; omega), HYL.out]
  · rw [take_splice_lt Y _ _ _ (Nat.le_refl _) (by rw [HYL.out]; omega), HYT.out]

set_option maxHeartbeats 8000000 in
set_option maxRecDepth 100000 in
theorem replace_endEq (i n m cap mc g : Nat) (sp : Option Addr) (cur cs : List Value) (w : World) (hg : Whole w g 56 cur) (hcs : cs.length = m * 2) (hs : Srcs w sp cs) (h1 : ∀ v ∈ cs, v.oneCell' = true) (hin : i < n) (hnc : n ≤ cap) (hcm : cap ≤ maxLen) (hm : m ≤ 1) (hcl : cur.length = cap * 2) (heq : i + m = n) :
    Calls Try.prog 58 #[.slice (some ⟨g, 0, none⟩) n cap, .int .i64 i, .int .i64 n, .slice sp m mc] w fun e w' =>
      e = .returned (.slice (some ⟨g, 0, none⟩) (i + m) cap) ∧ ∃ cur', Whole w' g 56 cur' ∧ cur'.length = cap * 2 ∧ cur'.take ((i + m) * 2) = cur.take (i * 2) ++ cs ∧ w.grownBy w' (some g) := by
  unfold maxLen at hcm
  have hb0 : (i : Int) ≤ (n : Int) := by omega
  have hb1 : (n : Int) ≤ (cap : Int) := by omega
  have hb2 : ¬ ((i : Int) = (n : Int)) := by omega
  have hb3 : (i : Int) ≤ (cap : Int) := by omega
  have hb7 : ¬ (cap = i) := by omega
  have HG := Lib.hid hg; clear hg
  have HS := Lib.hid hs; clear hs
  have HCS := Lib.hid hcs; clear hcs
  have HL := Lib.hid hcl; clear hcl
  have H1 := Lib.hid h1; clear h1
  have hc1 : ¬ (i : Int) + (m : Int) < (n : Int) := by omega
  clear heq
  go_enter Try.func58, Try.ntmps58
  go_wp2_with (with_reducible show wpList _ _ _ (⟨some 34, _, _, _, _, _⟩ :: _) _ _; go_must (refine wpList_roomP rfl _ _ rfl g i cap cur cs _ _ _ rfl rfl HG.out HCS.out HS.out ?c1 ?c2 H1.out ?_))
  case c1 => omega
  case c2 => rw [HCS.out, HL.out]; omega
  intro w1 hm1
  obtain ⟨Y, hY⟩ : ∃ Y, Y = splice cur (i * 2) cs := ⟨_, rfl⟩
  rw [← hY] at hm1
  have hYl : Y.length = cap * 2 := by rw [hY, length_splice _ _ _ (by rw [HCS.out, HL.out]; omega), HL.out]
  have hYt : Y.take ((i + m) * 2) = cur.take (i * 2) ++ cs := by rw [hY, take_splice_end cur _ (i * 2) _ (by rw [HL.out]; omega) (by rw [HCS.out]; omega)]
  have HYL := Lib.hid hYl; clear hYl
  have HYT := Lib.hid hYt; clear hYt
  clear hY
  go_wp2_with fail
  go_ret
  exact ⟨rfl, _, hm1.out.whole, HYL.out, HYT.out, hm1.out.grown⟩
end Go.Proofs.Ytpfhkijnaiopoaa
namespace Go.Proofs.Ytpfhkijnaiopoaa
open Go.RowKit

set_option maxHeartbeats 8000000 in
set_option maxRecDepth 100000 in
theorem replace_midLt (i j n m q cap mc g : Nat) (sp : Option Addr) (cur cs ds : List Value) (w : World) (hg : Whole w g 56 cur) (hcs : cs.length = m * 2) (hs : ∀ w', w.grownBy w' (some g) → Srcs w' sp cs) (h1 : ∀ v ∈ cs, v.oneCell' = true) (hij : i < j) (hjq : j + q = n) (hq : 0 < q) (hnc : n ≤ cap) (hcm : cap ≤ maxLen) (hm : m ≤ 1)
    (hcl : cur.length = cap * 2) (hds : ds.length = q * 2) (hd : ∀ t v, ds[t]? = some v → cur[j * 2 + t]? = some v) (h2 : ∀ v ∈ ds, v.oneCell' = true) (k T : Nat) (hk : k = i + m) (hT : T = k + q) (hc : ¬ (cap = T)) :
    Calls Try.prog 58 #[.slice (some ⟨g, 0, none⟩) n cap, .int .i64 i, .int .i64 j, .slice sp m mc] w fun e w' =>
      e = .returned (.slice (some ⟨g, 0, none⟩) T cap) ∧ ∃ cur', Whole w' g 56 cur' ∧ cur'.length = cap * 2 ∧ cur'.take (T * 2) = cur.take (i * 2) ++ cs ++ ds ∧ w.grownBy w' (some g) := by
  unfold maxLen at hcm
  have hb0 : (i : Int) ≤ (j : Int) := by omega
  have hb1 : (j : Int) ≤ (n : Int) := by omega
  have hb2 : ¬ ((i : Int) = (j : Int)) := by omega
  have hb3 : ¬ ((j : Int) = (n : Int)) := by omega
  have hb4 : (i : Int) ≤ (cap : Int) := by omega
  have hb5 : (j : Int) ≤ (cap : Int) := by omega
  have hb6 : ¬ ((cap : Int) < (T : Int)) := by omega
  have hb7 : ¬ (cap = i) := by omega
  have hb8 : ¬ (cap = j) := by omega
  have hb9 : ¬ (cap = k) := by omega
  have hb10 : (T : Int) ≤ (cap : Int) := by omega
  have hb11 : (i : Int) ≤ (T : Int) := by omega
  have hb12 : (k : Int) ≤ (T : Int) := by omega
  have hb13 : (T : Int) ≤ (n : Int) := by omega
  have hb14 : (k : Int) ≤ (j : Int) := by omega
  have hw1 : IntKind.i64.wrap ((i : Int) + (m : Int)) = (k : Int) := by rw [IntKind.wrap_i64]; omega
  have hw2 : IntKind.i64.wrap ((k : Int) + ((n - j : Nat) : Int)) = (T : Int) := by rw [IntKind.wrap_i64]; omega
  have HG := Lib.hid hg; clear hg
  have HS := Lib.hid hs; clear hs
  have HCS := Lib.hid hcs; clear hcs
  have HDS := Lib.hid hds; clear hds
  have HD := Lib.hid hd; clear hd
  have HL := Lib.hid hcl; clear hcl
  have H1 := Lib.hid h1; clear h1
  have H2 := Lib.hid h2; clear h2
  have HK := Lib.hid hk; clear hk
  have HT := Lib.hid hT; clear hT
  have HJ := Lib.hid hjq; clear hjq
  go_enter Try.func58, Try.ntmps58
  go_wp2_with fail
  refine wp_region_plan (S := fun _ => True) [(true, 0), (true, 1), (true, 2), (true, 3), (true, 4), (true, 5), (true, 6), (true, 7), (true, 8), (true, 9), (true, 10), (true, 11), (true, 12)] (by kernel_rfl) (by kernel_rfl) (fun _ _ d _ _ h => by cases d <;> exact h) trivial ?_
  repeat (refine Plan.take (v := ?_) rfl rfl ?_ ?_; rotate_left; (focus (intro W hW; go_simp; (try with_reducible rfl); done)); (try simp only [Act.put, List.setIfInBounds_toArray, List.set_cons_zero, List.set_cons_succ]))
  simp only [Plan]
  go_wp2_with (with_reducible show wpList _ _ _ (⟨some 97, _, _, _, _, _⟩ :: _) _ _; go_must (refine wpList_copyP rfl _ _ rfl g (i * 2) cur cs _ _ _ _ _ _ rfl rfl HG.out.drew ?c1 (fun _ => rfl) (HS.out _ (grown_drew _ _)) ?c2 H1.out ?_))
  case c1 => rw [HCS.out, show Nat.min m (T - i) = m from Nat.min_eq_left (by have := HT.out; have := HK.out; omega)]
  case c2 => rw [HCS.out, HL.out]; omega
  intro w1 hm1
  obtain ⟨Y, hY⟩ : ∃ Y, Y = splice cur (i * 2) cs := ⟨_, rfl⟩
  rw [← hY] at hm1
  have hYl : Y.length = cap * 2 := by rw [hY, length_splice _ _ _ (by rw [HCS.out, HL.out]; omega), HL.out]
  have hYt : Y.take (k * 2) = cur.take (i * 2) ++ cs := by rw [hY, take_splice_end cur _ (i * 2) _ (by rw [HL.out]; omega) (by rw [HCS.out, HK.out]; omega)]
  have hYd : ∀ t v, ds[t]? = some v → Y[j * 2 + t]? = some v := fun t v ht => by rw [hY, get_splice_ge cur cs (i * 2) _ (by rw [HCS.out]; have := HK.out; omega) (by rw [HL.out]; omega)]; exact HD.out t v ht
  have HYL := Lib.hid hYl; clear hYl
  have HYT := Lib.hid hYt; clear hYt
  have HYD := Lib.hid hYd; clear hYd
  clear hY
  go_wp2_with fail
  refine wp_region_plan (S := fun _ => True) [(true, 0), (true, 1), (true, 2), (true, 3), (true, 4), (true, 5), (true, 6), (true, 7), (true, 8), (false, 9)] (by kernel_rfl) (by kernel_rfl) (fun _ _ d _ _ h => by cases d <;> exact h) trivial ?_
  repeat (refine Plan.take (v := ?_) rfl rfl ?_ ?_; rotate_left; (focus (intro W hW; go_simp; (try with_reducible rfl); done)); (try simp only [Act.put, List.setIfInBounds_toArray, List.set_cons_zero, List.set_cons_succ]))
  refine Plan.step rfl rfl fun K2 hK => ?_
  refine wp_copyP _ _ rfl g (k * 2) Y ds _ _ _ _ _ _ rfl rfl hm1.out.whole.drew ?_ (fun _ => rfl) (Srcs.of (hm1.out.whole.drew.srcs (j * 2) _ HYD.out)) ?_ H2.out ?_
  · rw [HDS.out, show Nat.min (n - j) (T - k) = q from by have := HT.out; have := HJ.out; rw [show n - j = q by omega, show T - k = q by omega]; exact Nat.min_self q]
  · rw [HDS.out, HYL.out]; have := HJ.out; omega
  intro w2 hm2
  refine hK _ _ trivial ?_
  simp only [Plan]
  clear hK K2
  obtain ⟨Z, hZ⟩ : ∃ Z, Z = splice Y (k * 2) ds := ⟨_, rfl⟩
  rw [← hZ] at hm2
  have hZl : Z.length = cap * 2 := by rw [hZ, length_splice _ _ _ (by rw [HDS.out, HYL.out]; have := HJ.out; omega), HYL.out]
  have hZt : Z.take (T * 2) = cur.take (i * 2) ++ cs ++ ds := by rw [hZ, take_splice_end Y _ (k * 2) _ (by rw [HYL.out]; omega) (by rw [HDS.out, HT.out]; omega), HYT.out]
  have HZL := Lib.hid hZl; clear hZl
  have HZT := Lib.hid hZt; clear hZt
  clear hZ
  go_wp2_with (with_reducible show wpList _ _ _ (⟨none, _, _, _, _, _⟩ :: _) _ _; go_must (refine wpList_clearP rfl _ rfl g (T * 2) Z _ _ _ rfl hm2.out.whole (fun _ => rfl) ?d1 ?_))
  case d1 => rw [HZL.out]; omega
  intro w3 zs hz hm3
  have HZ := Lib.hid hz; clear hz
  go_wp2_with fail
  go_ret
  refine ⟨rfl, _, hm3.out.whole, ?_, ?_, grown_trans (grown_undrew hm1.out.grown) (grown_trans (grown_undrew hm2.out.grown) hm3.out.grown)⟩
  · rw [length_splice _ _ _ (by rw [HZ.out, HZL.out]; omega), HZL.out]
  · rw [take_splice_lt Z _ _ _ (Nat.le_refl _) (by rw [HZL.out]; omega), HZT.out]
end Go.Proofs.Ytpfhkijnaiopoaa
namespace Go.Proofs.Ytpfhkijnaiopoaa
open Go.RowKit

set_option maxHeartbeats 8000000 in
set_option maxRecDepth 100000 in
theorem replace_midEq (i j n m q cap mc g : Nat) (sp : Option Addr) (cur cs ds : List Value) (w : World) (hg : Whole w g 56 cur) (hcs : cs.length = m * 2) (hs : ∀ w', w.grownBy w' (some g) → Srcs w' sp cs) (h1 : ∀ v ∈ cs, v.oneCell' = true) (hij : i < j) (hjq : j + q = n) (hq : 0 < q) (hnc : n ≤ cap) (hcm : cap ≤ maxLen) (hm : m ≤ 1)
    (hcl : cur.length = cap * 2) (hds : ds.length = q * 2) (hd : ∀ t v, ds[t]? = some v → cur[j * 2 + t]? = some v) (h2 : ∀ v ∈ ds, v.oneCell' = true) (k T : Nat) (hk : k = i + m) (hT : T = k + q) (hc : cap = T) :
    Calls Try.prog 58 #[.slice (some ⟨g, 0, none⟩) n cap, .int .i64 i, .int .i64 j, .slice sp m mc] w fun e w' =>
      e = .returned (.slice (some ⟨g, 0, none⟩) T cap) ∧ ∃ cur', Whole w' g 56 cur' ∧ cur'.length = cap * 2 ∧ cur'.take (T * 2) = cur.take (i * 2) ++ cs ++ ds ∧ w.grownBy w' (some g) := by
  unfold maxLen at hcm
  subst hc
  have hb0 : (i : Int) ≤ (j : Int) := by omega
  have hb1 : (j : Int) ≤ (n : Int) := by omega
  have hb2 : ¬ ((i : Int) = (j : Int)) := by omega
  have hb3 : ¬ ((j : Int) = (n : Int)) := by omega
  have hb4 : (i : Int) ≤ (cap : Int) := by omega
  have hb5 : (j : Int) ≤ (cap : Int) := by omega
  have hb6 : ¬ ((cap : Int) < (cap : Int)) := by omega
  have hb7 : ¬ (cap = i) := by omega
  have hb8 : ¬ (cap = j) := by omega
  have hb9 : ¬ (cap = k) := by omega
  have hb10 : (cap : Int) ≤ (cap : Int) := by omega
  have hb11 : (i : Int) ≤ (cap : Int) := by omega
  have hb12 : (k : Int) ≤ (cap : Int) := by omega
  have hb13 : (cap : Int) ≤ (n : Int) := by omega
  have hb14 : (k : Int) ≤ (j : Int) := by omega
  have hw1 : IntKind.i64.wrap ((i : Int) + (m : Int)) = (k : Int) := by rw [IntKind.wrap_i64]; omega
  have hw2 : IntKind.i64.wrap ((k : Int) + ((n - j : Nat) : Int)) = (cap : Int) := by rw [IntKind.wrap_i64]; omega
  have HG := Lib.hid hg; clear hg
  have HS := Lib.hid hs; clear hs
  have HCS := Lib.hid hcs; clear hcs
  have HDS := Lib.hid hds; clear hds
  have HD := Lib.hid hd; clear hd
  have HL := Lib.hid hcl; clear hcl
  have H1 := Lib.hid h1; clear h1
  have H2 := Lib.hid h2; clear h2
  have HK := Lib.hid hk; clear hk
  have HT := Lib.hid hT; clear hT
  have HJ := Lib.hid hjq; clear hjq
  go_enter Try.func58, Try.ntmps58
  go_wp2_with fail
  refine wp_region_plan (S := fun _ => True) [(true, 0), (true, 1), (true, 2), (true, 3), (true, 4), (true, 5), (true, 6), (true, 7), (true, 8), (true, 9), (true, 10), (true, 11), (true, 12)] (by kernel_rfl) (by kernel_rfl) (fun _ _ d _ _ h => by cases d <;> exact h) trivial ?_
  repeat (refine Plan.take (v := ?_) rfl rfl ?_ ?_; rotate_left; (focus (intro W hW; go_simp; (try with_reducible rfl); done)); (try simp only [Act.put, List.setIfInBounds_toArray, List.set_cons_zero, List.set_cons_succ]))
  simp only [Plan]
  go_wp2_with (with_reducible show wpList _ _ _ (⟨some 97, _, _, _, _, _⟩ :: _) _ _; go_must (refine wpList_copyP rfl _ _ rfl g (i * 2) cur cs _ _ _ _ _ _ rfl rfl HG.out.drew ?c1 (fun _ => rfl) (HS.out _ (grown_drew _ _)) ?c2 H1.out ?_))
  case c1 => rw [HCS.out, show Nat.min m (cap - i) = m from Nat.min_eq_left (by have := HT.out; have := HK.out; omega)]
  case c2 => rw [HCS.out, HL.out]; omega
  intro w1 hm1
  obtain ⟨Y, hY⟩ : ∃ Y, Y = splice cur (i * 2) cs := ⟨_, rfl⟩
  rw [← hY] at hm1
  have hYl : Y.length = cap * 2 := by rw [hY, length_splice _ _ _ (by rw [HCS.out, HL.out]; omega), HL.out]
  have hYt : Y.take (k * 2) = cur.take (i * 2) ++ cs := by rw [hY, take_splice_end cur _ (i * 2) _ (by rw [HL.out]; omega) (by rw [HCS.out, HK.out]; omega)]
  have hYd : ∀ t v, ds[t]? = some v → Y[j * 2 + t]? = some v := fun t v ht => by rw [hY, get_splice_ge cur cs (i * 2) _ (by rw [HCS.out]; have := HK.out; omega) (by rw [HL.out]; omega)]; exact HD.out t v ht
  have HYL := Lib.hid hYl; clear hYl
  have HYT := Lib.hid hYt; clear hYt
  have HYD := Lib.hid hYd; clear hYd
  clear hY
  go_wp2_with fail
  refine wp_region_plan (S := fun _ => True) [(true, 0), (true, 1), (true, 2), (true, 3), (true, 4), (true, 5), (true, 6), (true, 7), (true, 8), (false, 9)] (by kernel_rfl) (by kernel_rfl) (fun _ _ d _ _ h => by cases d <;> exact h) trivial ?_
  repeat (refine Plan.take (v := ?_) rfl rfl ?_ ?_; rotate_left; (focus (intro W hW; go_simp; (try with_reducible rfl); done)); (try simp only [Act.put, List.setIfInBounds_toArray, List.set_cons_zero, List.set_cons_succ]))
  refine Plan.step rfl rfl fun K2 hK => ?_
  refine wp_copyP _ _ rfl g (k * 2) Y ds _ _ _ _ _ _ rfl rfl hm1.out.whole.drew ?_ (fun _ => rfl) (Srcs.of (hm1.out.whole.drew.srcs (j * 2) _ HYD.out)) ?_ H2.out ?_
  · rw [HDS.out, show Nat.min (n - j) (cap - k) = q from by have := HT.out; have := HJ.out; rw [show n - j = q by omega, show cap - k = q by omega]; exact Nat.min_self q]
  · rw [HDS.out, HYL.out]; have := HJ.out; omega
  intro w2 hm2
  refine hK _ _ trivial ?_
  simp only [Plan]
  clear hK K2
  obtain ⟨Z, hZ⟩ : ∃ Z, Z = splice Y (k * 2) ds := ⟨_, rfl⟩
  rw [← hZ] at hm2
  have hZl : Z.length = cap * 2 := by rw [hZ, length_splice _ _ _ (by rw [HDS.out, HYL.out]; have := HJ.out; omega), HYL.out]
  have hZt : Z.take (cap * 2) = cur.take (i * 2) ++ cs ++ ds := by rw [hZ, take_splice_end Y _ (k * 2) _ (by rw [HYL.out]; omega) (by rw [HDS.out, HT.out]; omega), HYT.out]
  have HZL := Lib.hid hZl; clear hZl
  have HZT := Lib.hid hZt; clear hZt
  clear hZ
  go_wp2_with (with_reducible show wpList _ _ _ (⟨none, _, _, _, _, _⟩ :: _) _ _; go_must (refine wpList_clearP rfl _ rfl g (cap * 2) Z _ _ _ rfl hm2.out.whole (fun h => absurd h (by omega)) ?d1 ?_))
  case d1 => rw [HZL.out]; omega
  intro w3 hm3
  go_wp2_with fail
  go_ret
  refine ⟨rfl, Z, ?_, HZL.out, HZT.out, grown_trans (grown_undrew hm1.out.grown) (grown_trans (grown_undrew hm2.out.grown) hm3.out.grown)⟩
  have h := hm3.out.whole
  rwa [splice_nil] at h
end Go.Proofs.Ytpfhkijnaiopoaa
namespace Go.Proofs.Ytpfhkijnaiopoaa
open Go.RowKit

set_option maxRecDepth 100000 in
/-- a part of the slice, by at most one pair -/
theorem sreplace_any (l : List (K × K)) (i j : Nat) (hij : i ≤ j) (hj : j ≤ l.length) (p : List (K × K)) (v vp : Value) (w : World) (base : Nat) (hown : OwnP w base v l) (hbase : base ≤ w.heap.size) (hp : OneAt w v p vp) (hlen : l.length + 1 ≤ 7036874417000) :
    Calls Try.prog 58 #[v, .int .i64 i, .int .i64 j, vp] w fun e w' =>
      ∃ A' c', e = .returned (.slice A' (l.take i ++ p ++ l.drop j).length c') ∧ OwnP w' base (.slice A' (l.take i ++ p ++ l.drop j).length c') (l.take i ++ p ++ l.drop j) ∧ w.grownBy w' v.ownBlock := by
  by_cases he : i = j
  · subst he
    exact replace_same l i hj p v vp w base hown hbase hp hlen
  rcases hown.row with ⟨rfl, rfl⟩ | ⟨g, cap, cur, rfl, hbg, hg, h1, h2, h3, h4⟩
  · simp at hj; omega
  obtain ⟨sp, mc, rfl, hm, hs⟩ := hp.form
  have hs' := hs w g rfl (grown_same _ _)
  have fA : (flatG cellsS (l.take i)) = cur.take (i * 2) := by rw [flatG_take cellsS_len, ← h4, List.take_take, Nat.min_eq_left (by omega)]
  have hcs : (flatG cellsS p).length = p.length * 2 := flatG_length cellsS_len p
  by_cases hjn : j = l.length
  · subst hjn
    rw [List.drop_length, List.append_nil]
    have hL : (l.take i ++ p).length = i + p.length := by rw [List.length_append, List.length_take, Nat.min_eq_left hij]
    have fin : ∀ cur' w', Whole w' g 56 cur' → cur'.length = cap * 2 → cur'.take ((i + p.length) * 2) = cur.take (i * 2) ++ flatG cellsS p → w.grownBy w' (some g) →
        ∃ A' c', Ending.returned (Value.slice (some ⟨g, 0, none⟩) (i + p.length) cap) = .returned (.slice A' (l.take i ++ p).length c') ∧ OwnP w' base (.slice A' (l.take i ++ p).length c') (l.take i ++ p) ∧ w.grownBy w' (Value.slice (some ⟨g, 0, none⟩) l.length cap).ownBlock := fun cur' w' k1 k2 k3 k4 =>
      ⟨some ⟨g, 0, none⟩, cap, by rw [hL], Own.ofRow cellsS_len _ hbg k1 (by rw [hL]; omega) h2 k2 (by rw [hL, k3, flatG_append, fA]), k4⟩
    by_cases hlt : i + p.length < l.length
    · refine (replace_endLt i l.length p.length cap mc g sp cur (flatG cellsS p) w hg hcs hs' (cellsS_one' _) (by omega) h1 h2 hm h3 hlt).mono ?_
      rintro e w' ⟨rfl, cur', k1, k2, k3, k4⟩
      exact fin cur' w' k1 k2 k3 k4
    · refine (replace_endEq i l.length p.length cap mc g sp cur (flatG cellsS p) w hg hcs hs' (cellsS_one' _) (by omega) h1 h2 hm h3 (by omega)).mono ?_
      rintro e w' ⟨rfl, cur', k1, k2, k3, k4⟩
      exact fin cur' w' k1 k2 k3 k4
  · have hd : (l.drop j).length = l.length - j := List.length_drop
    have hds : (flatG cellsS (l.drop j)).length = (l.length - j) * 2 := by rw [flatG_length cellsS_len, hd]
    have hdc : ∀ t v, (flatG cellsS (l.drop j))[t]? = some v → cur[j * 2 + t]? = some v := by
      have h5 : cur.take (l.length * 2) = flatG cellsS (l.take j) ++ flatG cellsS (l.drop j) := by rw [h4, ← flatG_append, List.take_append_drop]
      have h6 := cells_at h5
      rw [flatG_length cellsS_len, List.length_take, Nat.min_eq_left hj] at h6
      exact h6
    have hL : (l.take i ++ p ++ l.drop j).length = i + p.length + (l.length - j) := by rw [List.length_append, List.length_append, List.length_take, Nat.min_eq_left (by omega), hd]
    have fin : ∀ cur' w', Whole w' g 56 cur' → cur'.length = cap * 2 → cur'.take ((i + p.length + (l.length - j)) * 2) = cur.take (i * 2) ++ flatG cellsS p ++ flatG cellsS (l.drop j) → w.grownBy w' (some g) →
        ∃ A' c', Ending.returned (Value.slice (some ⟨g, 0, none⟩) (i + p.length + (l.length - j)) cap) = .returned (.slice A' (l.take i ++ p ++ l.drop j).length c') ∧ OwnP w' base (.slice A' (l.take i ++ p ++ l.drop j).length c') (l.take i ++ p ++ l.drop j) ∧ w.grownBy w' (Value.slice (some ⟨g, 0, none⟩) l.length cap).ownBlock := fun cur' w' k1 k2 k3 k4 =>
      ⟨some ⟨g, 0, none⟩, cap, by rw [hL], Own.ofRow cellsS_len _ hbg k1 (by rw [hL]; omega) h2 k2 (by rw [hL, k3, flatG_append, flatG_append, fA]), k4⟩
    by_cases hc : cap = i + p.length + (l.length - j)
    · refine (replace_midEq i j l.length p.length (l.length - j) cap mc g sp cur (flatG cellsS p) (flatG cellsS (l.drop j)) w hg hcs (fun w' h => hs w' g rfl h) (cellsS_one' _) (by omega) (by omega) (by omega) h1 h2 hm h3 hds hdc (cellsS_one' _) _ _ rfl rfl hc).mono ?_
      rintro e w' ⟨rfl, cur', k1, k2, k3, k4⟩
      exact fin cur' w' k1 k2 k3 k4
    · refine (replace_midLt i j l.length p.length (l.length - j) cap mc g sp cur (flatG cellsS p) (flatG cellsS (l.drop j)) w hg hcs (fun w' h => hs w' g rfl h) (cellsS_one' _) (by omega) (by omega) (by omega) h1 h2 hm h3 hds hdc (cellsS_one' _) _ _ rfl rfl hc).mono ?_
      rintro e w' ⟨rfl, cur', k1, k2, k3, k4⟩
      exact fin cur' w' k1 k2 k3 k4
end Go.Proofs.Ytpfhkijnaiopoaa

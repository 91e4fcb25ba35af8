/- slices.Replace: a part in the midst of a slice without spare room. -/
import Derived.Test.YtdkdolcocblhkaaRep1
namespace Go.Proofs.Ytdkdolcocblhkaa
open Go.RowKit

set_option maxHeartbeats 8000000 in
set_option maxRecDepth 100000 in
theorem replace_midEq (i j n m q cap mc g : Nat) (sp : Option Addr) (cur cs ds : List Value) (w : World) (hg : Whole w g 57 cur) (hcs : cs.length = m * 2) (hs : ∀ w', w.grownBy w' (some g) → Srcs w' sp cs) (h1 : ∀ v ∈ cs, v.oneCell' = true) (hij : i < j) (hjq : j + q = n) (hq : 0 < q) (hnc : n ≤ cap) (hcm : cap ≤ maxLen) (hm : m ≤ 1)
    (hcl : cur.length = cap * 2) (hds : ds.length = q * 2) (hd : ∀ t v, ds[t]? = some v → cur[j * 2 + t]? = some v) (h2 : ∀ v ∈ ds, v.oneCell' = true) (k T : Nat) (hk : k = i + m) (hT : T = k + q) (hc : cap = T) :
    Calls Try.prog 49 #[.slice (some ⟨g, 0, none⟩) n cap, .int .i64 i, .int .i64 j, .slice sp m mc] w fun e w' =>
      e = .returned (.slice (some ⟨g, 0, none⟩) T cap) ∧ ∃ cur', Whole w' g 57 cur' ∧ cur'.length = cap * 2 ∧ cur'.take (T * 2) = cur.take (i * 2) ++ cs ++ ds ∧ w.grownBy w' (some g) := by
  unfold maxLen at hcm
  subst hc
  have hb0 : (i : Int) ≤ (j : Int) := by omega
  have hb1 : (j : Int) ≤ (n : Int) := by omega
  have hb2 : ¬ ((i : Int) = (j : Int)) := by omega
  have hb3 : ¬ ((j : Int) = (n : Int)) := by omega
  have hb4 : (i : Int) ≤ (cap : Int) := by omega
  have hb5 : (j : Int) ≤ (cap : Int) := by omega
  have hb6 : ¬ ((cap : Int) < (cap : Int)) := by omega
  have hb7 : ¬ (cap = i) := by omega
  have hb8 : ¬ (cap = j) := by omega
  have hb9 : ¬ (cap = k) := by omega
  have hb10 : (cap : Int) ≤ (cap : Int) := by omega
  have hb11 : (i : Int) ≤ (cap : Int) := by omega
  have hb12 : (k : Int) ≤ (cap : Int) := by omega
  have hb13 : (cap : Int) ≤ (n : Int) := by omega
  have hb14 : (k : Int) ≤ (j : Int) := by omega
  have hw1 : IntKind.i64.wrap ((i : Int) + (m : Int)) = (k : Int) := by rw [IntKind.wrap_i64]; omega
  have hw2 : IntKind.i64.wrap ((k : Int) + ((n - j : Nat) : Int)) = (cap : Int) := by rw [IntKind.wrap_i64]; omega
  have HG := Lib.hid hg; clear hg
  have HS := Lib.hid hs; clear hs
  have HCS := Lib.hid hcs; clear hcs
  have HDS := Lib.hid hds; clear hds
  have HD := Lib.hid hd; clear hd
  have HL := Lib.hid hcl; clear hcl
  have H1 := Lib.hid h1; clear h1
  have H2 := Lib.hid h2; clear h2
  have HK := Lib.hid hk; clear hk
  have HT := Lib.hid hT; clear hT
  have HJ := Lib.hid hjq; clear hjq
  go_enter Try.func49, Try.ntmps49
  go_wp2_with fail
  refine wp_region_plan (S := fun _ => True) [(true, 0), (true, 1), (true, 2), (true, 3), (true, 4), (true, 5), (true, 6), (true, 7), (true, 8), (true, 9), (true, 10), (true, 11), (true, 12)] (by kernel_rfl) (by kernel_rfl) (fun _ _ d _ _ h => by cases d <;> exact h) trivial ?_
  repeat (refine Plan.take (v := ?_) rfl rfl ?_ ?_; rotate_left; (focus (intro W hW; go_simp; (try with_reducible rfl); done)); (try simp only [Act.put, List.setIfInBounds_toArray, List.set_cons_zero, List.set_cons_succ]))
  simp only [Plan]
  go_wp2_with (with_reducible show wpList _ _ _ (⟨some 97, _, _, _, _, _⟩ :: _) _ _; go_must (refine wpList_copyP rfl _ _ rfl g (i * 2) cur cs _ _ _ _ _ _ rfl rfl HG.out.drew ?c1 (fun _ => rfl) (HS.out _ (grown_drew _ _)) ?c2 H1.out ?_))
  case c1 => rw [HCS.out, show Nat.min m (cap - i) = m from Nat.min_eq_left (by have := HT.out; have := HK.out; omega)]
  case c2 => rw [HCS.out, HL.out]; omega
  intro w1 hm1
  obtain ⟨Y, hY⟩ : ∃ Y, Y = splice cur (i * 2) cs := ⟨_, rfl⟩
  rw [← hY] at hm1
  have hYl : Y.length = cap * 2 := by rw [hY, length_splice _ _ _ (by rw [HCS.out, HL.out]; omega), HL.out]
  have hYt : Y.take (k * 2) = cur.take (i * 2) ++ cs := by rw [hY, take_splice_end cur _ (i * 2) _ (by rw [HL.out]; omega) (by rw [HCS.out, HK.out]; omega)]
  have hYd : ∀ t v, ds[t]? = some v → Y[j * 2 + t]? = some v := fun t v ht => by rw [hY, get_splice_ge cur cs (i * 2) _ (by rw [HCS.out]; have := HK.out; omega) (by rw [HL.out]; omega)]; exact HD.out t v ht
  have HYL := Lib.hid hYl; clear hYl
  have HYT := Lib.hid hYt; clear hYt
  have HYD := Lib.hid hYd; clear hYd
  clear hY
  go_wp2_with fail
  refine wp_region_plan (S := fun _ => True) [(true, 0), (true, 1), (true, 2), (true, 3), (true, 4), (true, 5), (true, 6), (true, 7), (true, 8), (false, 9)] (by kernel_rfl) (by kernel_rfl) (fun _ _ d _ _ h => by cases d <;> exact h) trivial ?_
  repeat (refine Plan.take (v := ?_) rfl rfl ?_ ?_; rotate_left; (focus (intro W hW; go_simp; (try with_reducible rfl); done)); (try simp only [Act.put, List.setIfInBounds_toArray, List.set_cons_zero, List.set_cons_succ]))
  refine Plan.step rfl rfl fun K2 hK => ?_
  refine wp_copyP _ _ rfl g (k * 2) Y ds _ _ _ _ _ _ rfl rfl hm1.out.whole.drew ?_ (fun _ => rfl) (Srcs.of (hm1.out.whole.drew.srcs (j * 2) _ HYD.out)) ?_ H2.out ?_
  · rw [HDS.out, show Nat.min (n - j) (cap - k) = q from by have := HT.out; have := HJ.out; rw [show n - j = q by omega, show cap - k = q by omega]; exact Nat.min_self q]
  · rw [HDS.out, HYL.out]; have := HJ.out; omega
  intro w2 hm2
  refine hK _ _ trivial ?_
  simp only [Plan]
  clear hK K2
  obtain ⟨Z, hZ⟩ : ∃ Z, Z = splice Y (k * 2) ds := ⟨_, rfl⟩
  rw [← hZ] at hm2
  have hZl : Z.length = cap * 2 := by rw [hZ, length_splice _ _ _ (by rw [HDS.out, HYL.out]; have := HJ.out; omega), HYL.out]
  have hZt : Z.take (cap * 2) = cur.take (i * 2) ++ cs ++ ds := by rw [hZ, take_splice_end Y _ (k * 2) _ (by rw [HYL.out]; omega) (by rw [HDS.out, HT.out]; omega), HYT.out]
  have HZL := Lib.hid hZl; clear hZl
  have HZT := Lib.hid hZt; clear hZt
  clear hZ
  go_wp2_with (with_reducible show wpList _ _ _ (⟨none, _, _, _, _, _⟩ :: _) _ _; go_must (refine wpList_clearP rfl _ rfl g (cap * 2) Z _ _ _ rfl hm2.out.whole (fun h => absurd h (by omega)) ?d1 ?_))
  case d1 => rw [HZL.out]; omega
  intro w3 hm3
  go_wp2_with fail
  go_ret
  refine ⟨rfl, Z, ?_, HZL.out, HZT.out, grown_trans (grown_undrew hm1.out.grown) (grown_trans (grown_undrew hm2.out.grown) hm3.out.grown)⟩
  have h := hm3.out.whole
  rwa [splice_nil] at h
end Go.Proofs.Ytdkdolcocblhkaa

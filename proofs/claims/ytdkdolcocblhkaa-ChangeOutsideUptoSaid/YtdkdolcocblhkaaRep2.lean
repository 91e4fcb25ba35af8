/- slices.Replace: the end of a slice. -/
import Derived.Test.YtdkdolcocblhkaaRep1
namespace Go.Proofs.Ytdkdolcocblhkaa
open Go.RowKit

set_option maxHeartbeats 8000000 in
set_option maxRecDepth 100000 in
theorem replace_endLt (i n m cap mc g : Nat) (sp : Option Addr) (cur cs : List Value) (w : World) (hg : Whole w g 57 cur) (hcs : cs.length = m * 2) (hs : Srcs w sp cs) (h1 : ∀ v ∈ cs, v.oneCell' = true) (hin : i < n) (hnc : n ≤ cap) (hcm : cap ≤ maxLen) (hm : m ≤ 1) (hcl : cur.length = cap * 2) (hlt : i + m < n) :
    Calls Try.prog 49 #[.slice (some ⟨g, 0, none⟩) n cap, .int .i64 i, .int .i64 n, .slice sp m mc] w fun e w' =>
      e = .returned (.slice (some ⟨g, 0, none⟩) (i + m) cap) ∧ ∃ cur', Whole w' g 57 cur' ∧ cur'.length = cap * 2 ∧ cur'.take ((i + m) * 2) = cur.take (i * 2) ++ cs ∧ w.grownBy w' (some g) := by
  unfold maxLen at hcm
  have hb0 : (i : Int) ≤ (n : Int) := by omega
  have hb1 : (n : Int) ≤ (cap : Int) := by omega
  have hb2 : ¬ ((i : Int) = (n : Int)) := by omega
  have hb3 : (i : Int) ≤ (cap : Int) := by omega
  have hb7 : ¬ (cap = i) := by omega
  have HG := Lib.hid hg; clear hg
  have HS := Lib.hid hs; clear hs
  have HCS := Lib.hid hcs; clear hcs
  have HL := Lib.hid hcl; clear hcl
  have H1 := Lib.hid h1; clear h1
  have hc1 : (i : Int) + (m : Int) < (n : Int) := by omega
  have hc2 : ¬ (cap = i + m) := by omega
  have hc3 : (i : Int) + (m : Int) ≤ (n : Int) := by omega
  have hc4 : (0 : Int) ≤ (i : Int) + (m : Int) := by omega
  have hc5 : ((i : Int) + (m : Int)).toNat = i + m := by omega
  go_enter Try.func49, Try.ntmps49
  go_wp2_with (with_reducible show wpList _ _ _ (⟨some 34, _, _, _, _, _⟩ :: _) _ _; go_must (refine wpList_roomP rfl _ _ rfl g i cap cur cs _ _ _ rfl rfl HG.out HCS.out HS.out ?c1 ?c2 H1.out ?_))
  case c1 => omega
  case c2 => rw [HCS.out, HL.out]; omega
  intro w1 hm1
  obtain ⟨Y, hY⟩ : ∃ Y, Y = splice cur (i * 2) cs := ⟨_, rfl⟩
  rw [← hY] at hm1
  have hYl : Y.length = cap * 2 := by rw [hY, length_splice _ _ _ (by rw [HCS.out, HL.out]; omega), HL.out]
  have hYt : Y.take ((i + m) * 2) = cur.take (i * 2) ++ cs := by rw [hY, take_splice_end cur _ (i * 2) _ (by rw [HL.out]; omega) (by rw [HCS.out]; omega)]
  have HYL := Lib.hid hYl; clear hYl
  have HYT := Lib.hid hYt; clear hYt
  clear hY
  go_wp2_with (with_reducible show wpList _ _ _ (⟨none, _, _, _, _, _⟩ :: _) _ _; go_must (refine wpList_clearP rfl _ rfl g ((i + m) * 2) Y _ _ _ rfl hm1.out.whole (fun _ => rfl) ?d1 ?_))
  case d1 => rw [HYL.out]; omega
  intro w2 zs hz hm2
  have HZ := Lib.hid hz; clear hz
  go_wp2_with fail
  go_ret
  refine ⟨rfl, _, hm2.out.whole, ?_, ?_, grown_trans hm1.out.grown hm2.out.grown⟩
  · rw [length_splice _ _ _ (by rw [HZ.out, HYL.out]; omega), HYL.out]
  · rw [take_splice_lt Y _ _ _ (Nat.le_refl _) (by rw [HYL.out]; omega), HYT.out]

set_option maxHeartbeats 8000000 in
set_option maxRecDepth 100000 in
theorem replace_endEq (i n m cap mc g : Nat) (sp : Option Addr) (cur cs : List Value) (w : World) (hg : Whole w g 57 cur) (hcs : cs.length = m * 2) (hs : Srcs w sp cs) (h1 : ∀ v ∈ cs, v.oneCell' = true) (hin : i < n) (hnc : n ≤ cap) (hcm : cap ≤ maxLen) (hm : m ≤ 1) (hcl : cur.length = cap * 2) (heq : i + m = n) :
    Calls Try.prog 49 #[.slice (some ⟨g, 0, none⟩) n cap, .int .i64 i, .int .i64 n, .slice sp m mc] w fun e w' =>
      e = .returned (.slice (some ⟨g, 0, none⟩) (i + m) cap) ∧ ∃ cur', Whole w' g 57 cur' ∧ cur'.length = cap * 2 ∧ cur'.take ((i + m) * 2) = cur.take (i * 2) ++ cs ∧ w.grownBy w' (some g) := by
  unfold maxLen at hcm
  have hb0 : (i : Int) ≤ (n : Int) := by omega
  have hb1 : (n : Int) ≤ (cap : Int) := by omega
  have hb2 : ¬ ((i : Int) = (n : Int)) := by omega
  have hb3 : (i : Int) ≤ (cap : Int) := by omega
  have hb7 : ¬ (cap = i) := by omega
  have HG := Lib.hid hg; clear hg
  have HS := Lib.hid hs; clear hs
  have HCS := Lib.hid hcs; clear hcs
  have HL := Lib.hid hcl; clear hcl
  have H1 := Lib.hid h1; clear h1
  have hc1 : ¬ (i : Int) + (m : Int) < (n : Int) := by omega
  clear heq
  go_enter Try.func49, Try.ntmps49
  go_wp2_with (with_reducible show wpList _ _ _ (⟨some 34, _, _, _, _, _⟩ :: _) _ _; go_must (refine wpList_roomP rfl _ _ rfl g i cap cur cs _ _ _ rfl rfl HG.out HCS.out HS.out ?c1 ?c2 H1.out ?_))
  case c1 => omega
  case c2 => rw [HCS.out, HL.out]; omega
  intro w1 hm1
  obtain ⟨Y, hY⟩ : ∃ Y, Y = splice cur (i * 2) cs := ⟨_, rfl⟩
  rw [← hY] at hm1
  have hYl : Y.length = cap * 2 := by rw [hY, length_splice _ _ _ (by rw [HCS.out, HL.out]; omega), HL.out]
  have hYt : Y.take ((i + m) * 2) = cur.take (i * 2) ++ cs := by rw [hY, take_splice_end cur _ (i * 2) _ (by rw [HL.out]; omega) (by rw [HCS.out]; omega)]
  have HYL := Lib.hid hYl; clear hYl
  have HYT := Lib.hid hYt; clear hYt
  clear hY
  go_wp2_with fail
  go_ret
  exact ⟨rfl, _, hm1.out.whole, HYL.out, HYT.out, hm1.out.grown⟩
end Go.Proofs.Ytdkdolcocblhkaa

/- ShelfAgain's walk. -/
import Derived.Test.YtbifnogocmgddaaGreatFar
import Derived.Test.YtbifnogocmgddaaGreatFam
import Derived.Deep.CutBlock
namespace Go.Proofs.YtbifnogocmgddaaGreat
open Go.RowKit
attribute [local go_sem] less_eq same_eq le_eq ge_eq gt_eq

abbrev shTop : K × K := (⟨#[]⟩, ⟨#[255, 255]⟩)
theorem Sh.list_len (s : Sh) (x : K × K) (m : Int) (hm : m ≤ 10000) : (s.list x m).length ≤ 10000 := by
  unfold Sh.list
  rw [List.length_take]
  omega
set_option maxHeartbeats 8000000 in
set_option maxRecDepth 100000 in
theorem shelfAgain_walk (la lb : List Chg) (va vb : Value) (n : Nat) (_hn : n < 256) (w : World) (ha : RdC w w.heap.size va la) (hb : RdC w w.heap.size vb lb) (hsa : ∀ c ∈ la, smallC c) (hsb : ∀ c ∈ lb, smallC c) (hla : la.length < 4611686018427387904) (hlb : lb.length < 4611686018427387904) :
    Calls Tryz.prog 3 #[va, vb, .int .u8 (n : Int)] w fun e w' => e = .returned (.bool true) ∧ Below w.heap.size w w' := by
  obtain ⟨A, ca, rfl, -, -⟩ := ha.at
  obtain ⟨B, cb, rfl, -, -⟩ := hb.at
  have HA := Lib.hid ha
  have HB := Lib.hid hb
  have HN := Lib.hid (tnew_dry 1000 (by omega) (by omega) w)
  clear ha hb
  go_enter Tryz.func3, Tryz.ntmps3
  go_wp2_with fail
  refine HN.out.mono ?_
  rintro e w1 ⟨p, rfl, ht, hb1⟩
  have HO := Lib.hid (shopen_any 1000 (by omega) (by omega) shTop (by decide) (by decide) w w1 p ht hb1)
  clear ht hb1 HN
  go_wp2_with fail
  refine HO.out.mono ?_
  rintro e w2 ⟨q, G2, rfl, hs2, hb2⟩
  have HAW := Lib.hid (shawake_any w2)
  have HS2 := Lib.hid hs2
  have HB2 := Lib.hid hb2
  clear hs2 hb2 HO
  go_wp2_with fail
  refine HAW.out.mono ?_
  rintro e w3 ⟨rfl, hb3⟩
  have HS3 := Lib.hid (HS2.out.new hb3)
  have HB3 := Lib.hid (HB2.out.trans (hb3.mono HB2.out.size))
  have HCA := Lib.hid (rall_any la hsa _ w3 ((HA.out.below HB3.out (Nat.le_refl _)).mono HB3.out.size) hla)
  clear hb3 HAW HS2 HB2
  have hbye : ∀ W, Below w.heap.size w W → Calls Tryz.prog 8 #[] W fun e w' => e = .returned (.bool true) ∧ Below w.heap.size w w' := fun W hW => (shawake_any W).mono fun e w' h => ⟨h.1, hW.trans (h.2.mono hW.size)⟩
  have HBYE := Lib.hid hbye
  clear hbye
  obtain ⟨ea, hea⟩ : ∃ x, x = allAns la := ⟨_, rfl⟩
  obtain ⟨eb, heb⟩ : ∃ x, x = allAns lb := ⟨_, rfl⟩
  rw [← hea] at HCA
  have HEA := Lib.hid hea
  have HEB := Lib.hid heb
  clear hea heb
  go_wp2_with fail
  refine HCA.out.mono ?_
  rintro e w4 ⟨rfl, hb4⟩
  have HS4 := Lib.hid (HS3.out.new hb4)
  have HB4 := Lib.hid (HB3.out.trans (hb4.mono HB3.out.size))
  clear hb4 HCA HS3 HB3
  by_cases hza : ea = 0
  case neg =>
    have hzb : (ea == 0) = false := by simpa using hza
    have HY := Lib.hid (HBYE.out w4 HB4.out)
    go_wp2_with fail
    refine HY.out.mono ?_
    rintro e w5 ⟨rfl, hb5⟩
    have HB5 := Lib.hid hb5
    clear hb5
    go_wp2_with fail
    go_ret
    exact ⟨rfl, HB5.out⟩
  case pos =>
  subst hza
  have HCB := Lib.hid (rall_any lb hsb _ w4 ((HB.out.below HB4.out (Nat.le_refl _)).mono HB4.out.size) hlb)
  rw [← HEB.out] at HCB
  go_wp2_with fail
  refine HCB.out.mono ?_
  rintro e w5 ⟨rfl, hb5⟩
  have HS5 := Lib.hid (HS4.out.new hb5)
  have HB5 := Lib.hid (HB4.out.trans (hb5.mono HB4.out.size))
  clear hb5 HCB HS4 HB4
  by_cases hzb : eb = 0
  case neg =>
    have hzb : (eb == 0) = false := by simpa using hzb
    have HY := Lib.hid (HBYE.out w5 HB5.out)
    go_wp2_with fail
    refine HY.out.mono ?_
    rintro e w6 ⟨rfl, hb6⟩
    have HB6 := Lib.hid hb6
    clear hb6
    go_wp2_with fail
    go_ret
    exact ⟨rfl, HB6.out⟩
  case pos =>
  subst hzb
  by_cases hna : 1000 < la.length
  case pos =>
    have hx : decide ((1000 : Int) < (la.length : Int)) = true := decide_eq_true (by omega)
    have HY := Lib.hid (HBYE.out w5 HB5.out)
    go_wp2_with fail
    refine HY.out.mono ?_
    rintro e w6 ⟨rfl, hb6⟩
    have HB6 := Lib.hid hb6
    clear hb6
    go_wp2_with fail
    go_ret
    exact ⟨rfl, HB6.out⟩
  case neg =>
  have hx : decide ((1000 : Int) < (la.length : Int)) = false := decide_eq_false (by omega)
  by_cases hnb : 1000 < lb.length
  case pos =>
    have hy : decide ((1000 : Int) < (lb.length : Int)) = true := decide_eq_true (by omega)
    have HY := Lib.hid (HBYE.out w5 HB5.out)
    go_wp2_with fail
    refine HY.out.mono ?_
    rintro e w6 ⟨rfl, hb6⟩
    have HB6 := Lib.hid hb6
    clear hb6
    go_wp2_with fail
    go_ret
    exact ⟨rfl, HB6.out⟩
  case neg =>
  have hy : decide ((1000 : Int) < (lb.length : Int)) = false := decide_eq_false (by omega)
  obtain ⟨w6, hw6⟩ : ∃ W, W = (w5.alloc (.cells #[.int .i64 0, .int .i64 10, .int .i64 0, .slice A la.length ca] 35)).alloc (.cells #[.int .i64 10, .int .i64 20, .int .i64 0, .slice B lb.length cb] 35) := ⟨_, rfl⟩
  obtain ⟨g1, hg1⟩ : ∃ g, g = w5.heap.size := ⟨_, rfl⟩
  have hb6 : Below w5.heap.size w5 w6 := by rw [hw6]; exact ((Below.refl _ w5).alloc (Nat.le_refl _) _).alloc (by simp) _
  have hW1 : Whole w6 g1 35 [.int .i64 0, .int .i64 10, .int .i64 0, .slice A la.length ca] := by rw [hw6, hg1]; exact (Whole.fresh w5 _ [_, _, _, _]).alloc _
  have hW2 : Whole w6 (g1 + 1) 35 [.int .i64 10, .int .i64 20, .int .i64 0, .slice B lb.length cb] := by
    rw [hw6, hg1]
    have := Whole.fresh (w5.alloc (.cells #[.int .i64 0, .int .i64 10, .int .i64 0, .slice A la.length ca] 35)) 35 [.int .i64 10, .int .i64 20, .int .i64 0, .slice B lb.length cb]
    rw [World.size_alloc] at this
    exact this
  have hng : ¬ G2 g1 ∧ ¬ G2 (g1 + 1) := ⟨fun h => by have := (HS5.out.low.2 _ h).2; omega, fun h => by have := (HS5.out.low.2 _ h).2; omega⟩
  have HS6 := Lib.hid (HS5.out.new hb6)
  have HB6 := Lib.hid (HB5.out.trans (hb6.mono HB5.out.size))
  have hza' : allAns la = 0 := HEA.out.symm
  have hzb' : allAns lb = 0 := HEB.out.symm
  have HZA := Lib.hid hza'
  have HZB := Lib.hid hzb'
  have HLA := Lib.hid (show la.length ≤ 1000 by omega)
  have HLB := Lib.hid (show lb.length ≤ 1000 by omega)
  have HW1 := Lib.hid hW1
  have HW2 := Lib.hid hW2
  have HNG := Lib.hid hng
  obtain ⟨s1, hs1⟩ : ∃ s, s = (⟨shTop, 10, applyP [] (cutP shTop la)⟩ : Sh) := ⟨_, rfl⟩
  obtain ⟨s2, hs2⟩ : ∃ s, s = (⟨shTop, 20, applyP s1.at_ (cutP shTop lb)⟩ : Sh) := ⟨_, rfl⟩
  have t0 : (⟨shTop, 0, []⟩ : Sh).take 10 20 lb = (9, ⟨shTop, 0, []⟩) := by unfold Sh.take; rw [if_neg (by simp), if_pos (by simp)]
  have t1 : (⟨shTop, 0, []⟩ : Sh).take 0 10 la = (0, s1) := by unfold Sh.take; rw [if_neg (by simp), if_neg (by simp), hs1]
  have t2 : s1.take 10 20 lb = (0, s2) := by unfold Sh.take; rw [hs2, hs1]; rw [if_neg (by simp), if_neg (by simp)]
  have t3 : s2.take 0 10 la = (0, s2) := by unfold Sh.take; rw [if_pos (by rw [hs2]; simp)]
  have t4 : s2.take 10 20 lb = (0, s2) := by unfold Sh.take; rw [if_pos (by rw [hs2]; simp)]
  have hl2 : s2.last = 20 := by rw [hs2]
  have hc0 := shtake_any w.heap.size q 0 G2 _ 10 20 (by omega) (by omega) lb HZB.out HLB.out (.slice B lb.length cb) w6 HS6.out (HS6.out.off HB6.out HB.out (Nat.le_refl _)) (by omega)
  rw [t0] at hc0
  have HC0 := Lib.hid hc0
  have HT1 := Lib.hid t1
  have HT2 := Lib.hid t2
  have HT3 := Lib.hid t3
  have HT4 := Lib.hid t4
  have HL2 := Lib.hid hl2
  have b0 := hW2.cell 0 _ rfl
  have b1 := hW2.cell 1 _ rfl
  have b2 := hW2.cell 2 _ rfl
  have b3 := hW2.cell 3 _ rfl
  clear hc0 t0 t1 t2 t3 t4 hl2 hs1 hs2 hb6 hW1 hW2 hng hza' hzb' HS5 HB5 hla hlb hsa hsb
  go_wp2_with fail
  rw [← hw6, ← hg1]
  clear hw6 hg1 hx hy
  refine HC0.out.mono ?_
  rintro e w7 ⟨rfl, G7, hs7, hG7, hm7⟩
  have hng7 : ¬ G7 g1 ∧ ¬ G7 (g1 + 1) := ⟨fun h => by rcases hG7 _ h with k | k; exact HNG.out.1 k; have := HW1.out.size; omega, fun h => by rcases hG7 _ h with k | k; exact HNG.out.2 k; have := HW2.out.size; omega⟩
  have HW71 := Lib.hid (hm7.whole HW1.out HNG.out.1)
  have HW72 := Lib.hid (hm7.whole HW2.out HNG.out.2)
  have HB7 := Lib.hid (HB6.out.trans (HS6.out.below hm7))
  have HS7 := Lib.hid hs7
  have HNG7 := Lib.hid hng7
  have hc1 := shtake_any w.heap.size q _ G7 _ 0 10 (by omega) (by omega) la HZA.out HLA.out (.slice A la.length ca) w7 hs7 (hs7.off HB7.out HA.out (Nat.le_refl _)) (by omega)
  rw [HT1.out] at hc1
  have HC1 := Lib.hid hc1
  clear hc1 hs7 hG7 hm7 hng7 HC0 HS6 HB6 HW1 HW2 HNG b0 b1 b2 b3
  have b0 := HW71.out.cell 0 _ rfl
  have b1 := HW71.out.cell 1 _ rfl
  have b2 := HW71.out.cell 2 _ rfl
  have b3 := HW71.out.cell 3 _ rfl
  go_wp2_with fail
  refine HC1.out.mono ?_
  rintro e w8 ⟨rfl, G8, hs8, hG8, hm8⟩
  have hng8 : ¬ G8 g1 ∧ ¬ G8 (g1 + 1) := ⟨fun h => by rcases hG8 _ h with k | k; exact HNG7.out.1 k; have := HW71.out.size; omega, fun h => by rcases hG8 _ h with k | k; exact HNG7.out.2 k; have := HW72.out.size; omega⟩
  have HW81 := Lib.hid (hm8.whole HW71.out HNG7.out.1)
  have HW82 := Lib.hid (hm8.whole HW72.out HNG7.out.2)
  have HB8 := Lib.hid (HB7.out.trans (HS7.out.below hm8))
  have HS8 := Lib.hid hs8
  have HNG8 := Lib.hid hng8
  have hc2 := shtake_any w.heap.size q _ G8 s1 10 20 (by omega) (by omega) lb HZB.out HLB.out (.slice B lb.length cb) w8 hs8 (hs8.off HB8.out HB.out (Nat.le_refl _)) (by omega)
  rw [HT2.out] at hc2
  have HC2 := Lib.hid hc2
  clear hc2 hs8 hG8 hm8 hng8 HC1 HS7 HB7 HW71 HW72 HNG7 b0 b1 b2 b3
  have b0 := HW82.out.cell 0 _ rfl
  have b1 := HW82.out.cell 1 _ rfl
  have b2 := HW82.out.cell 2 _ rfl
  have b3 := HW82.out.cell 3 _ rfl
  go_wp2_with fail
  refine HC2.out.mono ?_
  rintro e w9 ⟨rfl, G9, hs9, hG9, hm9⟩
  have hng9 : ¬ G9 g1 ∧ ¬ G9 (g1 + 1) := ⟨fun h => by rcases hG9 _ h with k | k; exact HNG8.out.1 k; have := HW81.out.size; omega, fun h => by rcases hG9 _ h with k | k; exact HNG8.out.2 k; have := HW82.out.size; omega⟩
  have HW91 := Lib.hid (hm9.whole HW81.out HNG8.out.1)
  have HW92 := Lib.hid (hm9.whole HW82.out HNG8.out.2)
  have HB9 := Lib.hid (HB8.out.trans (HS8.out.below hm9))
  have HS9 := Lib.hid hs9
  have HNG9 := Lib.hid hng9
  have HLS := Lib.hid (shlist_any w.heap.size q _ G9 s2 shTop (by decide) 20 10000 HL2.out.symm (by omega) w9 hs9)
  obtain ⟨L, hL⟩ : ∃ L, L = s2.list shTop 10000 := ⟨_, rfl⟩
  have hLl := Sh.list_len s2 shTop 10000 (by omega)
  rw [← hL] at HLS hLl
  have HLEN := Lib.hid hLl
  have HLL := Lib.hid hL
  clear hs9 hG9 hm9 hng9 HC2 HS8 HB8 HW81 HW82 HNG8 b0 b1 b2 b3 hL hLl
  go_wp2_with fail
  refine HLS.out.mono ?_
  rintro e w10 ⟨A10, c10, rfl, ho10, hb10⟩
  have HS10 := Lib.hid (HS9.out.new hb10)
  have HB10 := Lib.hid (HB9.out.trans (hb10.mono HB9.out.size))
  have HW11 := Lib.hid (HW91.out.below hb10 HW91.out.size)
  have HW12 := Lib.hid (HW92.out.below hb10 HW92.out.size)
  have HR10 := Lib.hid (ho10.mono (Nat.le_refl _) (fun b _ hd => (HS9.out.low.2 b hd).2) : RdG cellsS 2 w10 w10.heap.size G9 (.slice A10 L.length c10) L)
  obtain ⟨k4, hk4⟩ : ∃ k4, k4 = n % 4 := ⟨_, rfl⟩
  have hk4' : k4 < 4 := by omega
  have hq1 : Int.tmod (n : Int) 4 = (k4 : Int) := by rw [hk4]; simp [Int.tmod]
  have hq2 : (n : Int) % 4 = (k4 : Int) := by omega
  clear ho10 hb10 HLS HS9 HB9 HW91 HW92 hk4
  go_wp2_with fail
  go_loopw [15] (fun iv wr => ∃ (i k : Nat) (G : Nat → Prop), i ≤ k4 ∧ iv = .int .i64 (i : Int) ∧ k ≤ 3000 + 2000 * i ∧ ShAt wr w.heap.size q G k s2 ∧ RdG cellsS 2 wr wr.heap.size G (.slice A10 L.length c10) L ∧ Whole wr g1 35 [.int .i64 0, .int .i64 10, .int .i64 0, .slice A la.length ca] ∧ Whole wr (g1 + 1) 35 [.int .i64 10, .int .i64 20, .int .i64 0, .slice B lb.length cb] ∧ (¬ G g1 ∧ ¬ G (g1 + 1)) ∧ Below w.heap.size w wr) (fun iv _ => 4 - (intOf iv).toNat)
  case atStart => exact ⟨0, _, G9, by omega, rfl, by omega, HS10.out, HR10.out, HW11.out, HW12.out, HNG9.out, HB10.out⟩
  case round =>
    obtain ⟨i, k, G, hi, rfl, hk, hs, hr, hw1, hw2, hng, hb⟩ := hrel
    clear HS10 HR10 HW11 HW12 HB10 HNG9
    by_cases hgo : i < k4
    · have h1 : (i : Int) < (k4 : Int) := by omega
      have hc := shtake_any w.heap.size q k G s2 0 10 (by omega) (by omega) la HZA.out HLA.out (.slice A la.length ca) wr hs (hs.off hb HA.out (Nat.le_refl _)) (by omega)
      rw [HT3.out] at hc
      have HC := Lib.hid hc
      have HS := Lib.hid hs
      have HR := Lib.hid hr
      have HW1 := Lib.hid hw1
      have HW2 := Lib.hid hw2
      have HNG := Lib.hid hng
      have HB0 := Lib.hid hb
      have HK := Lib.hid (And.intro hk hgo)
      have hi4 : i < 4 := by omega
      have b0 := hw1.cell 0 _ rfl
      have b1 := hw1.cell 1 _ rfl
      have b2 := hw1.cell 2 _ rfl
      have b3 := hw1.cell 3 _ rfl
      clear hc hs hr hw1 hw2 hng hb hk hgo hi
      go_wp2_with fail
      refine HC.out.mono ?_
      rintro e w11 ⟨rfl, G11, hs11, hG11, hm11⟩
      have hng11 : ¬ G11 g1 ∧ ¬ G11 (g1 + 1) := ⟨fun h => by rcases hG11 _ h with k | k; exact HNG.out.1 k; have := HW1.out.size; omega, fun h => by rcases hG11 _ h with k | k; exact HNG.out.2 k; have := HW2.out.size; omega⟩
      have HX1 := Lib.hid (hm11.whole HW1.out HNG.out.1)
      have HX2 := Lib.hid (hm11.whole HW2.out HNG.out.2)
      have HR11 := Lib.hid ((HR.out.mv hm11 (Nat.le_refl _) (fun _ _ h => h)).mono (G' := G11) hm11.size (fun b hb hg => by rcases hG11 b hg with h | h; exact h; omega))
      have HB11 := Lib.hid (HB0.out.trans (HS.out.below hm11))
      have HS11 := Lib.hid hs11
      have HNG11 := Lib.hid hng11
      have hc2 := shtake_any w.heap.size q _ G11 s2 10 20 (by omega) (by omega) lb HZB.out HLB.out (.slice B lb.length cb) w11 hs11 (hs11.off HB11.out HB.out (Nat.le_refl _)) (by have := HK.out.1; omega)
      rw [HT4.out] at hc2
      have HC2 := Lib.hid hc2
      clear hc2 hs11 hG11 hm11 hng11 HC HS HB0 HW1 HW2 HNG HR b0 b1 b2 b3
      have b0 := HX2.out.cell 0 _ rfl
      have b1 := HX2.out.cell 1 _ rfl
      have b2 := HX2.out.cell 2 _ rfl
      have b3 := HX2.out.cell 3 _ rfl
      go_wp2_with fail
      refine HC2.out.mono ?_
      rintro e w12 ⟨rfl, G12, hs12, hG12, hm12⟩
      have hng12 : ¬ G12 g1 ∧ ¬ G12 (g1 + 1) := ⟨fun h => by rcases hG12 _ h with k | k; exact HNG11.out.1 k; have := HX1.out.size; omega, fun h => by rcases hG12 _ h with k | k; exact HNG11.out.2 k; have := HX2.out.size; omega⟩
      have HY1 := Lib.hid (hm12.whole HX1.out HNG11.out.1)
      have HY2 := Lib.hid (hm12.whole HX2.out HNG11.out.2)
      have HR12 := Lib.hid ((HR11.out.mv hm12 (Nat.le_refl _) (fun _ _ h => h)).mono (G' := G12) hm12.size (fun b hb hg => by rcases hG12 b hg with h | h; exact h; omega))
      have HB12 := Lib.hid (HB11.out.trans (HS11.out.below hm12))
      have HS12 := Lib.hid hs12
      have HNG12 := Lib.hid hng12
      clear hs12 hG12 hm12 hng12 HC2 HS11 HB11 HX1 HX2 HNG11 HR11 b0 b1 b2 b3
      go_wp2_with fail
      go_roundw
      case rel => exact ⟨i + 1, k + 1000 + 1000, G12, by have := HK.out.2; omega, by go_num, by have := HK.out.1; omega, HS12.out, HR12.out, HY1.out, HY2.out, HNG12.out, HB12.out⟩
      case measure => have := HK.out.2; simp [intOf]; omega
    · have h1 : ¬ (i : Int) < (k4 : Int) := by omega
      have HLS := Lib.hid (shlist_any w.heap.size q k G s2 shTop (by decide) 20 10000 HL2.out.symm (by omega) wr hs)
      rw [← HLL.out] at HLS
      have HS := Lib.hid hs
      have HR := Lib.hid hr
      have HB0 := Lib.hid hb
      clear hs hr hw1 hw2 hng hb hk hgo hi
      go_wp2_with fail
      refine HLS.out.mono ?_
      rintro e w11 ⟨A11, c11, rfl, ho11, hb11⟩
      have HS11 := Lib.hid (HS.out.new hb11)
      have HB11 := Lib.hid (HB0.out.trans (hb11.mono HB0.out.size))
      have HP := Lib.hid ((HR.out.rd.below hb11 (Nat.le_refl _)).mono hb11.size)
      have HQ := Lib.hid ho11.rd
      have HE := Lib.hid (shends_any w.heap.size q k G s2 w11 HS11.out)
      rw [HL2.out] at HE
      clear ho11 hb11 HLS HS HR HB0
      go_wp2_with fail
      refine HE.out.mono ?_
      rintro e w12 ⟨rfl, hb12⟩
      have HB12 := Lib.hid (HB11.out.trans (hb12.mono HB11.out.size))
      have HPP := Lib.hid (pairs_any L L (.slice A10 L.length c10) (.slice A11 L.length c11) w12 ((HP.out.below hb12 (Nat.le_refl _)).mono hb12.size) ((HQ.out.below hb12 (Nat.le_refl _)).mono hb12.size) (by have := HLEN.out; omega) (by have := HLEN.out; omega))
      rw [decide_eq_true rfl] at HPP
      clear hb12 HE HP HQ HS11 HB11
      go_wp2_with fail
      refine HPP.out.mono ?_
      rintro e w13 ⟨rfl, hb13⟩
      have HB13 := Lib.hid (HB12.out.trans (hb13.mono HB12.out.size))
      clear hb13 HPP HB12
      go_wp2_with fail
      go_ret
      exact ⟨rfl, HB13.out⟩
end Go.Proofs.YtbifnogocmgddaaGreat

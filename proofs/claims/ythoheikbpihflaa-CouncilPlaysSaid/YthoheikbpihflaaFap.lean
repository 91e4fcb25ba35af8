/- The law's own reckoning: the vow behind an act. Acts of a council as they come in; what holds ahead of each. Arguments of the council laws as data: ballots, states, acts. -/
import Derived.Test.YthoheikbpihflaaFah
import Derived.Test.YthoheikbpihflaaFaj
import Derived.Test.YthoheikbpihflaaFao
import Derived.Test.YthoheikbpihflaaFae
import Derived.Test.YthoheikbpihflaaFak
import Derived.Deep.CutBlock
import Derived.Deep.DeepCutAuto
import Derived.Deep.Cut
import Derived.Deep.CutRange
namespace Go.Proofs.Ythoheikbpihflaa
open Go.RowKit
attribute [local go_sem] less_eq same_eq le_eq ge_eq gt_eq

/-- an act's cells: what, how many, the ballot, the state, what is turned -/
def acells (what n : Int) (b : Bal) (s : Sta) (u : Value) (tn : Int) : List Value := [.int .i64 what, .int .i64 n, .int .i64 b.1, .int .i64 b.2, .int .i64 s.gen, .int .i64 s.epoch, .int .i64 s.recd, u, .int .u8 tn]

set_option maxHeartbeats 8000000 in
set_option maxRecDepth 100000 in
theorem rnext_any (x : Vw) (what n : Int) (b : Bal) (s : Sta) (tn : Int) (A : Option Addr) (an c : Nat) (B : Option Addr) (bn d : Nat) (w : World) (hu : RdI w w.heap.size (.slice B bn d) s.chests) (hl : s.chests.length < 4611686018427387904) :
    Calls Try.prog 13 #[vwv x (.slice A an c), .agg (acells what n b s (.slice B bn d) tn).toArray] w fun e w' => ∃ u', e = .returned (.tuple #[vwv (nextV x what b s).1 u', .bool (nextV x what b s).2.1, .int .i64 (nextV x what b s).2.2]) ∧
      ((u' = .slice A an c ∧ (nextV x what b s).1.took.chests = x.took.chests) ∨ (u' = .slice B bn d ∧ (nextV x what b s).1.took.chests = s.chests)) ∧ Below w.heap.size w w' := by
  obtain ⟨R, hR⟩ : ∃ R, R = nextV x what b s := ⟨_, rfl⟩
  rw [← hR]
  unfold nextV at hR
  have HPR := Lib.hid (fun W => rpromise_any x b A an c W)
  have HTK := Lib.hid (fun W => rtake_any x b s A an c B bn d W)
  have HSD := Lib.hid (fun W (h : Below w.heap.size w W) => rsoundS_any s hl (.slice B bn d) W (hu.next h))
  obtain ⟨w1, hw1⟩ : ∃ w1, w1 = w.alloc (.cells (vcells x (.slice A an c)).toArray 37) := ⟨_, rfl⟩
  obtain ⟨w2, hw2⟩ : ∃ w2, w2 = w1.alloc (.cells (acells what n b s (.slice B bn d) tn).toArray 39) := ⟨_, rfl⟩
  obtain ⟨w3, hw3⟩ : ∃ w3, w3 = w2.alloc (.cells (vcells zeroV (.slice none 0 0)).toArray 37) := ⟨_, rfl⟩
  have hs1 : w1.heap.size = w.heap.size + 1 := by rw [hw1]; simp
  have hs2 : w2.heap.size = w.heap.size + 1 + 1 := by rw [hw2, World.size_alloc, hs1]
  have hs3 : w3.heap.size = w.heap.size + 1 + 1 + 1 := by rw [hw3, World.size_alloc, hs2]
  have hX : Whole w3 w.heap.size 37 (vcells x (.slice A an c)) := by rw [hw3, hw2, hw1]; exact ((Whole.fresh w _ _).alloc _).alloc _
  have hY : Whole w3 (w.heap.size + 1) 39 (acells what n b s (.slice B bn d) tn) := by rw [hw3, hw2, ← hs1]; exact (Whole.fresh w1 _ _).alloc _
  have hZ : Whole w3 (w.heap.size + 1 + 1) 37 (vcells zeroV (.slice none 0 0)) := by rw [hw3, ← hs2]; exact Whole.fresh w2 _ _
  have hb3 : Below w.heap.size w w3 := by rw [hw3, hw2, hw1]; exact (((Below.refl _ w).alloc (Nat.le_refl _) _).alloc (by simp) _).alloc (by simp; omega) _
  obtain ⟨⟨p1, p2⟩, ⟨a1, a2⟩, ⟨g, ep, rc, ch⟩⟩ := x
  obtain ⟨b1, b2⟩ := b
  obtain ⟨s1, s2, s3, sh⟩ := s
  simp only [vcells, zeroV, zeroS, acells] at hw1 hw2 hw3 hX hY hZ
  unfold vwv blv at HPR
  unfold vwv blv sval at HTK
  unfold sval at HSD
  unfold vwv acells
  simp only at hR HPR HTK HSD ⊢
  have HX := Lib.hid hX
  have HY := Lib.hid hY
  have HZ := Lib.hid hZ
  have HB3 := Lib.hid hb3
  have HS3 := Lib.hid hs3
  clear hX hY hZ hb3 hs1 hs2 hs3 hu
  have HPP := Lib.hid (HPR.out w3)
  have HSS := Lib.hid (HSD.out w3 HB3.out)
  have hz3 : w3.heap.size = w.heap.size + 1 + 1 + 1 := HS3.out
  have HBT := Lib.hid (fun W (h : Below w3.heap.size w3 W) => (show Below w.heap.size w W from HB3.out.trans (h.mono HB3.out.size)))
  clear HPR HSD HS3 hz3
  subst hw1 hw2 hw3
  have x0 := HX.out.cell 0 _ rfl
  have x1 := HX.out.cell 1 _ rfl
  have x2 := HX.out.cell 2 _ rfl
  have x3 := HX.out.cell 3 _ rfl
  have x4 := HX.out.cell 4 _ rfl
  have x5 := HX.out.cell 5 _ rfl
  have x6 := HX.out.cell 6 _ rfl
  have x7 := HX.out.cell 7 _ rfl
  by_cases h1 : b1 < 0
  · have HR := Lib.hid (hR.trans (if_pos (.inl h1)))
    clear hR
    have y2 := HY.out.cell 2 _ rfl
    have z0 := HZ.out.cell 0 _ rfl
    have z1 := HZ.out.cell 1 _ rfl
    have z2 := HZ.out.cell 2 _ rfl
    have z3 := HZ.out.cell 3 _ rfl
    have z4 := HZ.out.cell 4 _ rfl
    have z5 := HZ.out.cell 5 _ rfl
    have z6 := HZ.out.cell 6 _ rfl
    have z7 := HZ.out.cell 7 _ rfl
    have f0 := HZ.out.frozen 0
    have f1 := HZ.out.frozen 1
    have f2 := HZ.out.frozen 2
    have f3 := HZ.out.frozen 3
    have f4 := HZ.out.frozen 4
    have f5 := HZ.out.frozen 5
    have f6 := HZ.out.frozen 6
    have f7 := HZ.out.frozen 7
    go_enter Try.func13, Try.ntmps13
    go_wp2_with fail
    exact bodyPost_ret (v := .tuple #[.agg #[.int .i64 p1, .int .i64 p2, .int .i64 a1, .int .i64 a2, .int .i64 g, .int .i64 ep, .int .i64 rc, .slice A an c], .bool false, .int .i64 1]) (by simp [results, Try.results13, go_sem]) rfl ⟨.slice A an c, by rw [HR.out], .inl ⟨rfl, by rw [HR.out]⟩, (((Below.refl _ w).alloc (Nat.le_refl _) _).alloc (by simp) _).alloc (by simp; omega) _⟩
  by_cases h2 : b2 < 0
  · have HR := Lib.hid (hR.trans (if_pos (.inr h2)))
    clear hR
    have y2 := HY.out.cell 2 _ rfl
    have y3 := HY.out.cell 3 _ rfl
    have z0 := HZ.out.cell 0 _ rfl
    have z1 := HZ.out.cell 1 _ rfl
    have z2 := HZ.out.cell 2 _ rfl
    have z3 := HZ.out.cell 3 _ rfl
    have z4 := HZ.out.cell 4 _ rfl
    have z5 := HZ.out.cell 5 _ rfl
    have z6 := HZ.out.cell 6 _ rfl
    have z7 := HZ.out.cell 7 _ rfl
    have f0 := HZ.out.frozen 0
    have f1 := HZ.out.frozen 1
    have f2 := HZ.out.frozen 2
    have f3 := HZ.out.frozen 3
    have f4 := HZ.out.frozen 4
    have f5 := HZ.out.frozen 5
    have f6 := HZ.out.frozen 6
    have f7 := HZ.out.frozen 7
    go_enter Try.func13, Try.ntmps13
    go_wp2_with fail
    exact bodyPost_ret (v := .tuple #[.agg #[.int .i64 p1, .int .i64 p2, .int .i64 a1, .int .i64 a2, .int .i64 g, .int .i64 ep, .int .i64 rc, .slice A an c], .bool false, .int .i64 1]) (by simp [results, Try.results13, go_sem]) rfl ⟨.slice A an c, by rw [HR.out], .inl ⟨rfl, by rw [HR.out]⟩, (((Below.refl _ w).alloc (Nat.le_refl _) _).alloc (by simp) _).alloc (by simp; omega) _⟩
  rw [if_neg (by omega)] at hR
  by_cases h3 : what < 2
  · rw [if_pos h3] at hR
    have HR := Lib.hid hR
    clear hR
    have y0 := HY.out.cell 0 _ rfl
    have y2 := HY.out.cell 2 _ rfl
    have y3 := HY.out.cell 3 _ rfl
    unfold promV at HPP HR
    simp only at HPP HR
    generalize lessB (p1, p2) (b1, b2) = r at HPP HR
    go_enter Try.func13, Try.ntmps13
    go_wp2_with fail
    refine HPP.out.mono ?_
    rintro e w4 ⟨rfl, hb4⟩
    have HZ4 := Lib.hid (HZ.out.below hb4 HZ.out.size)
    have HB4 := Lib.hid (HB3.out.trans (hb4.mono HB3.out.size))
    have hlt4 : w.heap.size + 1 + 1 < w4.heap.size := HZ4.out.size
    clear hb4 x0 x1 x2 x3 x4 x5 x6 x7 y0 y2 y3 HX HY HZ
    cases r with
    | true =>
      simp only [if_true] at HR ⊢
      have z0 := HZ4.out.cell 0 _ rfl
      have z1 := HZ4.out.cell 1 _ rfl
      have z2 := HZ4.out.cell 2 _ rfl
      have z3 := HZ4.out.cell 3 _ rfl
      have z4 := HZ4.out.cell 4 _ rfl
      have z5 := HZ4.out.cell 5 _ rfl
      have z6 := HZ4.out.cell 6 _ rfl
      have z7 := HZ4.out.cell 7 _ rfl
      have f0 := HZ4.out.frozen 0
      have f1 := HZ4.out.frozen 1
      have f2 := HZ4.out.frozen 2
      have f3 := HZ4.out.frozen 3
      have f4 := HZ4.out.frozen 4
      have f5 := HZ4.out.frozen 5
      have f6 := HZ4.out.frozen 6
      have f7 := HZ4.out.frozen 7
      go_wp2_with fail
      have hZ8 := ((((((((HZ4.out.put 0 (.int .i64 b1)).put 1 (.int .i64 b2)).put 2 (.int .i64 a1)).put 3 (.int .i64 a2)).put 4 (.int .i64 g)).put 5 (.int .i64 ep)).put 6 (.int .i64 rc)).put 7 (.slice A an c))
      simp only [List.set] at hZ8
      have hZ8 := hZ8.alloc (.cells #[.int .i64 b1, .int .i64 b2, .int .i64 a1, .int .i64 a2, .int .i64 g, .int .i64 ep, .int .i64 rc, .slice A an c] 37)
      have R0 := hZ8.cell 0 _ rfl
      have R1 := hZ8.cell 1 _ rfl
      have R2 := hZ8.cell 2 _ rfl
      have R3 := hZ8.cell 3 _ rfl
      have R4 := hZ8.cell 4 _ rfl
      have R5 := hZ8.cell 5 _ rfl
      have R6 := hZ8.cell 6 _ rfl
      have R7 := hZ8.cell 7 _ rfl
      exact bodyPost_ret (v := .tuple #[.agg #[.int .i64 b1, .int .i64 b2, .int .i64 a1, .int .i64 a2, .int .i64 g, .int .i64 ep, .int .i64 rc, .slice A an c], .bool true, .int .i64 0]) (by simp [results, Try.results13, go_sem, R0, R1, R2, R3, R4, R5, R6, R7]) rfl ⟨.slice A an c, by rw [HR.out], .inl ⟨rfl, by rw [HR.out]⟩, by (refine Below.alloc ?_ (by simp; omega) _); (repeat (refine Below.setCell ?_ (by simp; try omega) _)); exact HB4.out⟩
    | false =>
      simp only [if_false, Bool.false_eq_true] at HR ⊢
      have z0 := HZ4.out.cell 0 _ rfl
      have z1 := HZ4.out.cell 1 _ rfl
      have z2 := HZ4.out.cell 2 _ rfl
      have z3 := HZ4.out.cell 3 _ rfl
      have z4 := HZ4.out.cell 4 _ rfl
      have z5 := HZ4.out.cell 5 _ rfl
      have z6 := HZ4.out.cell 6 _ rfl
      have z7 := HZ4.out.cell 7 _ rfl
      have f0 := HZ4.out.frozen 0
      have f1 := HZ4.out.frozen 1
      have f2 := HZ4.out.frozen 2
      have f3 := HZ4.out.frozen 3
      have f4 := HZ4.out.frozen 4
      have f5 := HZ4.out.frozen 5
      have f6 := HZ4.out.frozen 6
      have f7 := HZ4.out.frozen 7
      go_wp2_with fail
      have hZ8 := ((((((((HZ4.out.put 0 (.int .i64 p1)).put 1 (.int .i64 p2)).put 2 (.int .i64 a1)).put 3 (.int .i64 a2)).put 4 (.int .i64 g)).put 5 (.int .i64 ep)).put 6 (.int .i64 rc)).put 7 (.slice A an c))
      simp only [List.set] at hZ8
      have hZ8 := hZ8.alloc (.cells #[.int .i64 p1, .int .i64 p2, .int .i64 a1, .int .i64 a2, .int .i64 g, .int .i64 ep, .int .i64 rc, .slice A an c] 37)
      have R0 := hZ8.cell 0 _ rfl
      have R1 := hZ8.cell 1 _ rfl
      have R2 := hZ8.cell 2 _ rfl
      have R3 := hZ8.cell 3 _ rfl
      have R4 := hZ8.cell 4 _ rfl
      have R5 := hZ8.cell 5 _ rfl
      have R6 := hZ8.cell 6 _ rfl
      have R7 := hZ8.cell 7 _ rfl
      exact bodyPost_ret (v := .tuple #[.agg #[.int .i64 p1, .int .i64 p2, .int .i64 a1, .int .i64 a2, .int .i64 g, .int .i64 ep, .int .i64 rc, .slice A an c], .bool false, .int .i64 0]) (by simp [results, Try.results13, go_sem, R0, R1, R2, R3, R4, R5, R6, R7]) rfl ⟨.slice A an c, by rw [HR.out], .inl ⟨rfl, by rw [HR.out]⟩, by (refine Below.alloc ?_ (by simp; omega) _); (repeat (refine Below.setCell ?_ (by simp; try omega) _)); exact HB4.out⟩
  rw [if_neg h3] at hR
  have y0 := HY.out.cell 0 _ rfl
  have y2 := HY.out.cell 2 _ rfl
  have y3 := HY.out.cell 3 _ rfl
  have y4 := HY.out.cell 4 _ rfl
  have y5 := HY.out.cell 5 _ rfl
  have y6 := HY.out.cell 6 _ rfl
  have y7 := HY.out.cell 7 _ rfl
  by_cases h4 : soundS ⟨s1, s2, s3, sh⟩
  case neg =>
    rw [if_neg h4] at hR
    rw [decide_eq_false h4] at HSS
    have HR := Lib.hid hR
    clear hR h4
    go_enter Try.func13, Try.ntmps13
    go_wp2_with fail
    refine HSS.out.mono ?_
    rintro e w4 ⟨rfl, hb4⟩
    have HZ4 := Lib.hid (HZ.out.below hb4 HZ.out.size)
    have HB4 := Lib.hid (HB3.out.trans (hb4.mono HB3.out.size))
    have HX4 := Lib.hid (HX.out.below hb4 HX.out.size)
    have hlt4 : w.heap.size + 1 + 1 < w4.heap.size := HZ4.out.size
    clear hb4 x0 x1 x2 x3 x4 x5 x6 x7 y0 y2 y3 y4 y5 y6 y7
    have x0 := HX4.out.cell 0 _ rfl
    have x1 := HX4.out.cell 1 _ rfl
    have x2 := HX4.out.cell 2 _ rfl
    have x3 := HX4.out.cell 3 _ rfl
    have x4 := HX4.out.cell 4 _ rfl
    have x5 := HX4.out.cell 5 _ rfl
    have x6 := HX4.out.cell 6 _ rfl
    have x7 := HX4.out.cell 7 _ rfl
    have z0 := HZ4.out.cell 0 _ rfl
    have z1 := HZ4.out.cell 1 _ rfl
    have z2 := HZ4.out.cell 2 _ rfl
    have z3 := HZ4.out.cell 3 _ rfl
    have z4 := HZ4.out.cell 4 _ rfl
    have z5 := HZ4.out.cell 5 _ rfl
    have z6 := HZ4.out.cell 6 _ rfl
    have z7 := HZ4.out.cell 7 _ rfl
    have f0 := HZ4.out.frozen 0
    have f1 := HZ4.out.frozen 1
    have f2 := HZ4.out.frozen 2
    have f3 := HZ4.out.frozen 3
    have f4 := HZ4.out.frozen 4
    have f5 := HZ4.out.frozen 5
    have f6 := HZ4.out.frozen 6
    have f7 := HZ4.out.frozen 7
    go_wp2_with fail
    have hZ8 := ((((((((HZ4.out.put 0 (.int .i64 p1)).put 1 (.int .i64 p2)).put 2 (.int .i64 a1)).put 3 (.int .i64 a2)).put 4 (.int .i64 g)).put 5 (.int .i64 ep)).put 6 (.int .i64 rc)).put 7 (.slice A an c))
    simp only [List.set] at hZ8
    have R0 := hZ8.cell 0 _ rfl
    have R1 := hZ8.cell 1 _ rfl
    have R2 := hZ8.cell 2 _ rfl
    have R3 := hZ8.cell 3 _ rfl
    have R4 := hZ8.cell 4 _ rfl
    have R5 := hZ8.cell 5 _ rfl
    have R6 := hZ8.cell 6 _ rfl
    have R7 := hZ8.cell 7 _ rfl
    exact bodyPost_ret (v := .tuple #[.agg #[.int .i64 p1, .int .i64 p2, .int .i64 a1, .int .i64 a2, .int .i64 g, .int .i64 ep, .int .i64 rc, .slice A an c], .bool false, .int .i64 2]) (by simp [results, Try.results13, go_sem, R0, R1, R2, R3, R4, R5, R6, R7]) rfl ⟨.slice A an c, by rw [HR.out], .inl ⟨rfl, by rw [HR.out]⟩, by (repeat (refine Below.setCell ?_ (by simp; try omega) _)); exact HB4.out⟩
  rw [if_pos h4] at hR
  rw [decide_eq_true h4] at HSS
  have HR := Lib.hid hR
  clear hR h4
  unfold takeV at HR
  simp only at HR
  generalize lessB (b1, b2) (p1, p2) = r at HTK HR
  go_enter Try.func13, Try.ntmps13
  go_wp2_with fail
  refine HSS.out.mono ?_
  rintro e w4 ⟨rfl, hb4⟩
  have HZ4 := Lib.hid (HZ.out.below hb4 HZ.out.size)
  have HB4 := Lib.hid (HB3.out.trans (hb4.mono HB3.out.size))
  have HX4 := Lib.hid (HX.out.below hb4 HX.out.size)
  have HY4 := Lib.hid (HY.out.below hb4 HY.out.size)
  have HT := Lib.hid (HTK.out w4)
  clear hb4 x0 x1 x2 x3 x4 x5 x6 x7 y0 y2 y3 y4 y5 y6 y7
  have x0 := HX4.out.cell 0 _ rfl
  have x1 := HX4.out.cell 1 _ rfl
  have x2 := HX4.out.cell 2 _ rfl
  have x3 := HX4.out.cell 3 _ rfl
  have x4 := HX4.out.cell 4 _ rfl
  have x5 := HX4.out.cell 5 _ rfl
  have x6 := HX4.out.cell 6 _ rfl
  have x7 := HX4.out.cell 7 _ rfl
  have y2 := HY4.out.cell 2 _ rfl
  have y3 := HY4.out.cell 3 _ rfl
  have y4 := HY4.out.cell 4 _ rfl
  have y5 := HY4.out.cell 5 _ rfl
  have y6 := HY4.out.cell 6 _ rfl
  have y7 := HY4.out.cell 7 _ rfl
  go_wp2_with fail
  refine HT.out.mono ?_
  rintro e w5 ⟨rfl, hb5⟩
  have HZ5 := Lib.hid (HZ4.out.below hb5 HZ4.out.size)
  have HB5 := Lib.hid (HB4.out.trans (hb5.mono HB4.out.size))
  have hlt5 : w.heap.size + 1 + 1 < w5.heap.size := HZ5.out.size
  clear hb5 x0 x1 x2 x3 x4 x5 x6 x7 y2 y3 y4 y5 y6 y7 HX HY HZ HX4 HY4 HZ4
  cases r with
  | true =>
    simp only [if_true, Bool.not_true] at HR ⊢
    have z0 := HZ5.out.cell 0 _ rfl
    have z1 := HZ5.out.cell 1 _ rfl
    have z2 := HZ5.out.cell 2 _ rfl
    have z3 := HZ5.out.cell 3 _ rfl
    have z4 := HZ5.out.cell 4 _ rfl
    have z5 := HZ5.out.cell 5 _ rfl
    have z6 := HZ5.out.cell 6 _ rfl
    have z7 := HZ5.out.cell 7 _ rfl
    have f0 := HZ5.out.frozen 0
    have f1 := HZ5.out.frozen 1
    have f2 := HZ5.out.frozen 2
    have f3 := HZ5.out.frozen 3
    have f4 := HZ5.out.frozen 4
    have f5 := HZ5.out.frozen 5
    have f6 := HZ5.out.frozen 6
    have f7 := HZ5.out.frozen 7
    go_wp2_with fail
    have hZ8 := ((((((((HZ5.out.put 0 (.int .i64 p1)).put 1 (.int .i64 p2)).put 2 (.int .i64 a1)).put 3 (.int .i64 a2)).put 4 (.int .i64 g)).put 5 (.int .i64 ep)).put 6 (.int .i64 rc)).put 7 (.slice A an c))
    simp only [List.set] at hZ8
    have hZ8 := hZ8.alloc (.cells #[.int .i64 p1, .int .i64 p2, .int .i64 a1, .int .i64 a2, .int .i64 g, .int .i64 ep, .int .i64 rc, .slice A an c] 37)
    have R0 := hZ8.cell 0 _ rfl
    have R1 := hZ8.cell 1 _ rfl
    have R2 := hZ8.cell 2 _ rfl
    have R3 := hZ8.cell 3 _ rfl
    have R4 := hZ8.cell 4 _ rfl
    have R5 := hZ8.cell 5 _ rfl
    have R6 := hZ8.cell 6 _ rfl
    have R7 := hZ8.cell 7 _ rfl
    exact bodyPost_ret (v := .tuple #[.agg #[.int .i64 p1, .int .i64 p2, .int .i64 a1, .int .i64 a2, .int .i64 g, .int .i64 ep, .int .i64 rc, .slice A an c], .bool false, .int .i64 0]) (by simp [results, Try.results13, go_sem, R0, R1, R2, R3, R4, R5, R6, R7]) rfl ⟨.slice A an c, by rw [HR.out], .inl ⟨rfl, by rw [HR.out]⟩, by (refine Below.alloc ?_ (by simp; omega) _); (repeat (refine Below.setCell ?_ (by simp; try omega) _)); exact HB5.out⟩
  | false =>
    simp only [if_false, Bool.false_eq_true, Bool.not_false] at HR ⊢
    have z0 := HZ5.out.cell 0 _ rfl
    have z1 := HZ5.out.cell 1 _ rfl
    have z2 := HZ5.out.cell 2 _ rfl
    have z3 := HZ5.out.cell 3 _ rfl
    have z4 := HZ5.out.cell 4 _ rfl
    have z5 := HZ5.out.cell 5 _ rfl
    have z6 := HZ5.out.cell 6 _ rfl
    have z7 := HZ5.out.cell 7 _ rfl
    have f0 := HZ5.out.frozen 0
    have f1 := HZ5.out.frozen 1
    have f2 := HZ5.out.frozen 2
    have f3 := HZ5.out.frozen 3
    have f4 := HZ5.out.frozen 4
    have f5 := HZ5.out.frozen 5
    have f6 := HZ5.out.frozen 6
    have f7 := HZ5.out.frozen 7
    go_wp2_with fail
    have hZ8 := ((((((((HZ5.out.put 0 (.int .i64 b1)).put 1 (.int .i64 b2)).put 2 (.int .i64 b1)).put 3 (.int .i64 b2)).put 4 (.int .i64 s1)).put 5 (.int .i64 s2)).put 6 (.int .i64 s3)).put 7 (.slice B bn d))
    simp only [List.set] at hZ8
    have hZ8 := hZ8.alloc (.cells #[.int .i64 b1, .int .i64 b2, .int .i64 b1, .int .i64 b2, .int .i64 s1, .int .i64 s2, .int .i64 s3, .slice B bn d] 37)
    have R0 := hZ8.cell 0 _ rfl
    have R1 := hZ8.cell 1 _ rfl
    have R2 := hZ8.cell 2 _ rfl
    have R3 := hZ8.cell 3 _ rfl
    have R4 := hZ8.cell 4 _ rfl
    have R5 := hZ8.cell 5 _ rfl
    have R6 := hZ8.cell 6 _ rfl
    have R7 := hZ8.cell 7 _ rfl
    exact bodyPost_ret (v := .tuple #[.agg #[.int .i64 b1, .int .i64 b2, .int .i64 b1, .int .i64 b2, .int .i64 s1, .int .i64 s2, .int .i64 s3, .slice B bn d], .bool true, .int .i64 0]) (by simp [results, Try.results13, go_sem, R0, R1, R2, R3, R4, R5, R6, R7]) rfl ⟨.slice B bn d, by rw [HR.out], .inr ⟨rfl, by rw [HR.out]⟩, by (refine Below.alloc ?_ (by simp; omega) _); (repeat (refine Below.setCell ?_ (by simp; try omega) _)); exact HB5.out⟩
end Go.Proofs.Ythoheikbpihflaa
namespace Go.Proofs.Ythoheikbpihflaa
open Go.RowKit

/-- one act, as it came in -/
structure CAct where
  what : Int
  n : Int
  b : Bal
  s : Sta
  A : Option Addr
  d : Nat
  turn : UInt8
def CAct.u (a : CAct) : Value := .slice a.A a.s.chests.length a.d
def encCA (a : CAct) : List Value := acells a.what a.n a.b a.s a.u (a.turn.toNat : Int)
theorem encCA_len (a : CAct) : (encCA a).length = 9 := rfl
theorem RdCA.at {w : World} {B : Nat} {v : Value} {l : List CAct} (h : Rd encCA 9 w B v l) : ∃ A c, v = .slice A l.length c ∧ l.length ≤ c ∧ ∀ i (_ : i < l.length), ∃ b o, A = some ⟨b, o, none⟩ ∧ b < B ∧ ∀ W, Below B w W → ∀ j u, (encCA l[i])[j]? = some u → W.cell? ⟨b, o + i * 9 + j, none⟩ = some u := by
  obtain ⟨A, c, hv, hc, hi⟩ := h
  refine ⟨A, c, hv, hc, fun i hs => ?_⟩
  obtain ⟨b, o, hA, hB, h1⟩ := hi i hs
  exact ⟨b, o, hA, hB, fun W hW j u hu => (hW.cell (p := ⟨b, _, none⟩) hB).trans (h1 j u hu)⟩
/-- what is known of an act -/
structure CAct.Ok (w : World) (a : CAct) : Prop where
  rd : RdI w w.heap.size a.u a.s.chests
  n : a.n < 9223372036854775808
  b1 : a.b.1 < 9223372036854775808
  b2 : a.b.2 < 9223372036854775808
  s : a.s.small
  len : a.s.chests.length ≤ 17592186043904

/-- what holds ahead of each act -/
structure CInv (w wr : World) (q p gN gC : Nat) (G : Nat → Prop) (c : Co) (un : Value) : Prop where
  co : CoAt wr w.heap.size q p G c
  wn : Whole wr gN 37 (vcells c.v un)
  wc : ∃ xc uc, Whole wr gC 37 (vcells xc uc)
  rn : RdG encI 1 wr wr.heap.size (fun i => G i ∨ i = gN ∨ i = gC) un c.v.took.chests
  nn : ¬ G gN
  nc : ¬ G gC
  ne : gN ≠ gC
  ln : w.heap.size ≤ gN
  lc : w.heap.size ≤ gC
  bl : Below w.heap.size w wr
section
variable {w wr w' : World} {q p gN gC : Nat} {G : Nat → Prop} {c : Co} {un : Value}
theorem CInv.new (h : CInv w wr q p gN gC G c un) (hb : Below wr.heap.size wr w') : CInv w w' q p gN gC G c un := by
  obtain ⟨xc, uc, hc⟩ := h.wc
  exact ⟨h.co.mv (Mv.of_new hb (fun _ => False)) (fun _ _ h => h), h.wn.below hb h.wn.size, ⟨xc, uc, hc.below hb hc.size⟩, (h.rn.mv (Mv.of_new hb (fun _ => False)) (Nat.le_refl _) (fun _ _ h => h.elim)).mono hb.size (fun b hb2 hg => hg), h.nn, h.nc, h.ne, h.ln, h.lc, h.bl.trans (hb.mono h.bl.size)⟩
/-- behind a call that moves the council's blocks, of which the vow stays -/
theorem CInv.moved {G' : Nat → Prop} {c' : Co} {q' : Nat} (h : CInv w wr q p gN gC G c un) (hc : CoAt w' w.heap.size q' p G' c') (hG : ∀ i, G' i → G i ∨ wr.heap.size ≤ i) (hm : Mv G wr w') (hv : c'.v = c.v) : CInv w w' q' p gN gC G' c' un := by
  obtain ⟨xc, uc, hcc⟩ := h.wc
  have hout : ∀ g, ¬ G g → g < wr.heap.size → ¬ G' g := fun g hg hs hg' => by
    rcases hG g hg' with k | k
    · exact hg k
    · omega
  exact ⟨hc, by rw [hv]; exact hm.whole h.wn h.nn, ⟨xc, uc, hm.whole hcc h.nc⟩, by
    rw [hv]
    refine (h.rn.mv (hm.mono (fun i _ hi => Or.inl hi)) (Nat.le_refl _) (fun _ _ h => h)).mono hm.size (fun b hb hg => ?_)
    rcases hg with hg | hg
    · rcases hG b hg with k | k
      · exact .inl k
      · omega
    · exact .inr hg, hout _ h.nn h.wn.size, hout _ h.nc hcc.size, h.ne, h.ln, h.lc, h.bl.trans (hm.below h.bl.size (fun i hi => (h.co.low.2 i hi).1))⟩
/-- a vow is stored into the variable of the one that is there -/
theorem CInv.slice (h : CInv w wr q p gN gC G c un) : ∃ A n, un = .slice A c.v.took.chests.length n := by
  obtain ⟨A, n, e, _⟩ := h.rn
  exact ⟨A, n, e⟩
end

/-- what is read off the council's blocks and the law's variables is still so behind a call -/
theorem rd_moved {w w' : World} {G G' : Nat → Prop} {gN gC : Nat} {u : Value} {l : List Int} (h : RdG encI 1 w w.heap.size (fun i => G i ∨ i = gN ∨ i = gC) u l) (hG : ∀ i, G' i → G i ∨ w.heap.size ≤ i) (hm : Mv G w w') : RdG encI 1 w' w'.heap.size (fun i => G' i ∨ i = gN ∨ i = gC) u l := by
  refine (h.mv (hm.mono (fun i _ hi => Or.inl hi)) (Nat.le_refl _) (fun _ _ h => h)).mono hm.size (fun b hb hg => ?_)
  rcases hg with hg | hg
  · rcases hG b hg with k | k
    · exact .inl k
    · omega
  · exact .inr hg
/-- a vow stored into a variable -/
def vput (w : World) (g : Nat) (x : Vw) (u : Value) : World :=
  (((((((w.setCell ⟨g, 0, none⟩ (.int .i64 x.prom.1)).setCell ⟨g, 1, none⟩ (.int .i64 x.prom.2)).setCell ⟨g, 2, none⟩ (.int .i64 x.at'.1)).setCell ⟨g, 3, none⟩ (.int .i64 x.at'.2)).setCell ⟨g, 4, none⟩ (.int .i64 x.took.gen)).setCell ⟨g, 5, none⟩ (.int .i64 x.took.epoch)).setCell ⟨g, 6, none⟩ (.int .i64 x.took.recd)).setCell ⟨g, 7, none⟩ u
section
variable {w : World} {g : Nat} {x y : Vw} {u uy : Value}
theorem Whole.put8 {T : TypeId} (h : Whole w g T (vcells y uy)) : Whole (vput w g x u) g T (vcells x u) := by
  have h8 := ((((((((h.put 0 (.int .i64 x.prom.1)).put 1 (.int .i64 x.prom.2)).put 2 (.int .i64 x.at'.1)).put 3 (.int .i64 x.at'.2)).put 4 (.int .i64 x.took.gen)).put 5 (.int .i64 x.took.epoch)).put 6 (.int .i64 x.took.recd)).put 7 u)
  unfold vcells at h8 ⊢
  simp only [List.set] at h8
  unfold vput
  exact h8
theorem Mv.put8 (w : World) (g : Nat) (x : Vw) (u : Value) : Mv (fun i => i = g) w (vput w g x u) := by
  unfold vput
  exact ((((((((Mv.refl (fun i => i = g) w).one 0 _).one 1 _).one 2 _).one 3 _).one 4 _).one 5 _).one 6 _).one 7 _
theorem vput_size (w : World) (g : Nat) (x : Vw) (u : Value) : (vput w g x u).heap.size = w.heap.size := by
  unfold vput
  simp
end
/-- what holds while the law's variables wait for what a call said -/
structure CMid (w wr : World) (q p gN gC : Nat) (G : Nat → Prop) (c : Co) : Prop where
  co : CoAt wr w.heap.size q p G c
  wn : ∃ xn un, Whole wr gN 37 (vcells xn un)
  wc : ∃ xc uc, Whole wr gC 37 (vcells xc uc)
  nn : ¬ G gN
  nc : ¬ G gC
  ne : gN ≠ gC
  ln : w.heap.size ≤ gN
  lc : w.heap.size ≤ gC
  bl : Below w.heap.size w wr
section
variable {w wr w' : World} {q p gN gC : Nat} {G : Nat → Prop} {c : Co} {un : Value}
theorem CInv.mid (h : CInv w wr q p gN gC G c un) : CMid w wr q p gN gC G c := ⟨h.co, ⟨_, _, h.wn⟩, h.wc, h.nn, h.nc, h.ne, h.ln, h.lc, h.bl⟩
theorem CMid.moved {G' : Nat → Prop} {c' : Co} {q' : Nat} (h : CMid w wr q p gN gC G c) (hc : CoAt w' w.heap.size q' p G' c') (hG : ∀ i, G' i → G i ∨ wr.heap.size ≤ i) (hm : Mv G wr w') : CMid w w' q' p gN gC G' c' := by
  obtain ⟨xc, uc, hcc⟩ := h.wc
  obtain ⟨xn, un, hnn⟩ := h.wn
  have hout : ∀ g, ¬ G g → g < wr.heap.size → ¬ G' g := fun g hg hs hg' => by
    rcases hG g hg' with k | k
    · exact hg k
    · omega
  exact ⟨hc, ⟨xn, un, hm.whole hnn h.nn⟩, ⟨xc, uc, hm.whole hcc h.nc⟩, hout _ h.nn hnn.size, hout _ h.nc hcc.size, h.ne, h.ln, h.lc, h.bl.trans (hm.below h.bl.size (fun i hi => (h.co.low.2 i hi).1))⟩
/-- the vow that the council has now is stored into both -/
theorem CMid.store {u : Value} (h : CMid w wr q p gN gC G c) (hr : RdG encI 1 wr wr.heap.size (fun i => G i ∨ i = gN ∨ i = gC) u c.v.took.chests) : CInv w (vput (vput wr gN c.v u) gC c.v u) q p gN gC G c u := by
  obtain ⟨xc, uc, hcc⟩ := h.wc
  obtain ⟨xn, un, hnn⟩ := h.wn
  have m1 := Mv.put8 wr gN c.v u
  have m2 := Mv.put8 (vput wr gN c.v u) gC c.v u
  have hm : Mv (fun i => i = gN ∨ i = gC) wr (vput (vput wr gN c.v u) gC c.v u) := (m1.mono (fun i _ e => .inl e)).trans m2 (fun i _ e => .inr e)
  have hD : ∀ i, G i → ¬ (i = gN ∨ i = gC) := fun i hi e => by
    rcases e with e | e
    · exact h.nn (e ▸ hi)
    · exact h.nc (e ▸ hi)
  refine ⟨h.co.mv hm hD, m2.whole hnn.put8 (fun e => h.ne e), ⟨_, _, Whole.put8 (m1.whole hcc (fun e => h.ne e.symm))⟩, ?_, h.nn, h.nc, h.ne, h.ln, h.lc, h.bl.trans (hm.below h.bl.size (fun i e => by
    rcases e with e | e
    · rw [e]; exact h.ln
    · rw [e]; exact h.lc))⟩
  have hz : (vput (vput wr gN c.v u) gC c.v u).heap.size = wr.heap.size := by rw [vput_size, vput_size]
  rw [hz]
  exact hr.mv hm (Nat.le_refl _) (fun b _ e => .inr e)
/-- what was asked for is stored into the second alone -/
theorem CInv.cut {x : Vw} {u : Value} (h : CInv w wr q p gN gC G c un) : CInv w (vput wr gC x u) q p gN gC G c un := by
  obtain ⟨xc, uc, hcc⟩ := h.wc
  have m1 := Mv.put8 wr gC x u
  refine ⟨h.co.mv m1 (fun i hi e => h.nc (e ▸ hi)), m1.whole h.wn (fun e => h.ne e), ⟨_, _, hcc.put8⟩, ?_, h.nn, h.nc, h.ne, h.ln, h.lc, h.bl.trans (m1.below h.bl.size (fun i e => by rw [e]; exact h.lc))⟩
  rw [vput_size]
  exact h.rn.mv m1 (Nat.le_refl _) (fun b _ e => .inr (.inr e))
end
end Go.Proofs.Ythoheikbpihflaa
namespace Go.Proofs.Ythoheikbpihflaa
open Go.ChangeShapes Go.WideShapes Go.ChangeAt Go.RowKit Go.Joins Go.Deep

def InI (n : Int) : Prop := -9223372036854775808 ≤ n ∧ n < 9223372036854775808
section
variable {H : Type} {enc : TypeId × Value → H} {P : Program} {w : World} {base : Nat} {spare : Nat → Bool} {held : Bool}
theorem trod_struct5 {t : TypeId} {f0 f1 f2 f3 f4 : Field} {fuel : Nat} {cs : List Value} {x : DataW H × List MemPlace} (ht : P.underlying t = some (.struct #[f0, f1, f2, f3, f4])) (h : DataW.trod enc P w base spare held fuel t cs = some x) :
    ∃ y0 y1 y2 y3 y4 n, x.1 = .agg [y0.1, y1.1, y2.1, y3.1, y4.1] ∧ cs.length = P.cellsOf t ∧ DataW.trod enc P w base spare held n f0.type ((cs.drop f0.offset).take (P.cellsOf f0.type)) = some y0 ∧
      DataW.trod enc P w base spare held n f1.type ((cs.drop f1.offset).take (P.cellsOf f1.type)) = some y1 ∧ DataW.trod enc P w base spare held n f2.type ((cs.drop f2.offset).take (P.cellsOf f2.type)) = some y2 ∧
      DataW.trod enc P w base spare held n f3.type ((cs.drop f3.offset).take (P.cellsOf f3.type)) = some y3 ∧ DataW.trod enc P w base spare held n f4.type ((cs.drop f4.offset).take (P.cellsOf f4.type)) = some y4 := by
  obtain ⟨xs, n, _, rfl, hl, hlen, hf⟩ := DataW.trod_struct ht h
  match xs, hlen with
  | [y0, y1, y2, y3, y4], _ => exact ⟨y0, y1, y2, y3, y4, n, by simp, hl, by simpa using hf 0 f0 rfl, by simpa using hf 1 f1 rfl, by simpa using hf 2 f2 rfl, by simpa using hf 3 f3 rfl, by simpa using hf 4 f4 rfl⟩
end
section
variable {H : Type} {enc : TypeId × Value → H} {w : World} {base : Nat} {spare : Nat → Bool} {held : Bool}
set_option maxRecDepth 100000 in
theorem bal_of_cells {fuel : Nat} {cs : List Value} {x : DataW H × List MemPlace} (h : DataW.trod enc Try.prog w base spare held fuel 32 cs = some x) : ∃ b : Bal, cs = [.int .i64 b.1, .int .i64 b.2] ∧ InI b.1 ∧ InI b.2 := by
  obtain ⟨y0, y1, n, hx, hlen, h0, h1⟩ := trod_struct2 Try.underlying32 h
  rw [show Try.prog.cellsOf 32 = 2 by kernel_rfl] at hlen
  match cs, hlen with
  | [u, v], _ =>
    have c3 : Try.prog.cellsOf 3 = 1 := by kernel_rfl
    simp [c3] at h0 h1
    obtain ⟨m, em, _, g0⟩ := DataW.trod_int Try.underlying3 h0
    obtain ⟨k, ek, _, g1⟩ := DataW.trod_int Try.underlying3 h1
    simp at em ek
    exact ⟨(m, k), by rw [em, ek], int_of_wf g0, int_of_wf g1⟩
set_option maxRecDepth 100000 in
theorem sta_of_cells {fuel : Nat} {cs : List Value} {x : DataW H × List MemPlace} (h : DataW.trod enc Try.prog w base spare held fuel 35 cs = some x) :
    ∃ (g e r : Int) (v : Value) (z0 z1 z2 : DataW H) (y : DataW H × List MemPlace) (n : Nat), cs = [.int .i64 g, .int .i64 e, .int .i64 r, v] ∧ (InI g ∧ InI e ∧ InI r) ∧ x.1 = .agg [z0, z1, z2, y.1] ∧ DataW.trod enc Try.prog w base spare held n 33 [v] = some y := by
  obtain ⟨y0, y1, y2, y3, n, hx, hlen, h0, h1, h2, h3⟩ := trod_struct4 Try.underlying35 h
  rw [show Try.prog.cellsOf 35 = 4 by kernel_rfl] at hlen
  match cs, hlen with
  | [a, b, c, v], _ =>
    have c3 : Try.prog.cellsOf 3 = 1 := by kernel_rfl
    have c4 : Try.prog.cellsOf 33 = 1 := by kernel_rfl
    simp [c3, c4] at h0 h1 h2 h3
    obtain ⟨i0, e0, _, g0⟩ := DataW.trod_int Try.underlying3 h0
    obtain ⟨i1, e1, _, g1⟩ := DataW.trod_int Try.underlying3 h1
    obtain ⟨i2, e2, _, g2⟩ := DataW.trod_int Try.underlying3 h2
    simp at e0 e1 e2
    exact ⟨i0, i1, i2, v, y0.1, y1.1, y2.1, y3, n, by rw [e0, e1, e2], ⟨int_of_wf g0, int_of_wf g1, int_of_wf g2⟩, by rw [hx], h3⟩
set_option maxRecDepth 100000 in
theorem act_of_cells {fuel : Nat} {cs : List Value} {x : DataW H × List MemPlace} (h : DataW.trod enc Try.prog w base spare held fuel 39 cs = some x) :
    ∃ (what n : Int) (b : Bal) (g e r : Int) (v : Value) (tn : Nat) (d0 d1 d2 d4 z0 z1 z2 : DataW H) (y : DataW H × List MemPlace) (k : Nat), cs = [.int .i64 what, .int .i64 n, .int .i64 b.1, .int .i64 b.2, .int .i64 g, .int .i64 e, .int .i64 r, v, .int .u8 (tn : Int)] ∧
      (InI n ∧ InI b.1 ∧ InI b.2 ∧ InI g ∧ InI e ∧ InI r ∧ tn < 256) ∧ x.1 = .agg [d0, d1, d2, .agg [z0, z1, z2, y.1], d4] ∧ DataW.trod enc Try.prog w base spare held k 33 [v] = some y := by
  obtain ⟨y0, y1, y2, y3, y4, n, hx, hlen, h0, h1, h2, h3, h4⟩ := trod_struct5 Try.underlying39 h
  rw [show Try.prog.cellsOf 39 = 9 by kernel_rfl] at hlen
  match cs, hlen with
  | [a0, a1, a2, a3, a4, a5, a6, a7, a8], _ =>
    have c1 : Try.prog.cellsOf 3 = 1 := by kernel_rfl
    have c2 : Try.prog.cellsOf 32 = 2 := by kernel_rfl
    have c4 : Try.prog.cellsOf 35 = 4 := by kernel_rfl
    have c8 : Try.prog.cellsOf 5 = 1 := by kernel_rfl
    simp only [c1, c2, c4, c8] at h0 h1 h2 h3 h4
    obtain ⟨i0, e0, _, g0⟩ := DataW.trod_int Try.underlying3 h0
    obtain ⟨i1, e1, _, g1⟩ := DataW.trod_int Try.underlying3 h1
    obtain ⟨b, eb, gb1, gb2⟩ := bal_of_cells h2
    obtain ⟨g, e, r, v, z0, z1, z2, y, m, es, gs, hz, hy⟩ := sta_of_cells h3
    obtain ⟨i4, e4, _, g4⟩ := DataW.trod_int Try.underlying5 h4
    obtain ⟨tn, rfl, ht⟩ := nat_of_wfu8 g4
    simp at e0 e1 eb es e4
    refine ⟨i0, i1, b, g, e, r, v, tn, y0.1, y1.1, y2.1, y4.1, z0, z1, z2, y, m, ?_, ⟨int_of_wf g1, gb1, gb2, gs.1, gs.2.1, gs.2.2, ht⟩, by rw [hx, hz], hy⟩
    rw [e0, e1, eb.1, eb.2, es.1, es.2.1, es.2.2.1, es.2.2.2, e4]
end
section
variable {H : Type} {enc : TypeId × Value → H} {W : World} {base : Nat} {v : Value} {d : DataW H} {p : List MemPlace}
set_option maxRecDepth 100000 in
theorem open_bal (hv : Value.okWide Try.prog W .any base 32 v) (h : DataW.Trod enc Try.prog W 0 (fun _ => true) true 32 v d p) : ∃ b : Bal, v = blv b := by
  obtain ⟨cs, rfl, hsz⟩ := okWide_struct Try.underlying32 hv
  obtain ⟨fuel, hf⟩ := h
  obtain ⟨b, hb, _⟩ := bal_of_cells hf
  exact ⟨b, by unfold blv; congr 1; exact Array.ext' hb⟩
set_option maxRecDepth 100000 in
theorem open_bals (hv : Value.okWide Try.prog W .any base 50 v) (h : DataW.Trod enc Try.prog W 0 (fun _ => true) true 50 v d p) (hw : ∀ n ∈ d.weights Try.prog 50, n ≤ reachBytes) :
    ∃ l : List Bal, RdBl W W.heap.size v l ∧ (∀ b ∈ l, b.1 < 9223372036854775808 ∧ b.2 < 9223372036854775808) ∧ l.length < 4611686018427387904 := by
  haveI : Inhabited Bal := ⟨(0, 0)⟩
  obtain ⟨l, hr, hz⟩ := open_rowsF (by decide) encBal_len Try.underlying50 (by kernel_rfl) (fun (b : Bal) _ => InI b.1 ∧ InI b.2) (fun _ _ _ h => by obtain ⟨b, e, h1, h2⟩ := bal_of_cells h; exact ⟨b, e, h1, h2⟩) (okWide_slice Try.underlying50 hv) h
  refine ⟨l, hr, ?_⟩
  rcases hz with ⟨_, rfl⟩ | ⟨el, sp, rfl, he, hall⟩
  · simp
  · have h1 := slice_len Try.underlying50 hw
    rw [show Try.prog.bytesOf 32 = 16 by kernel_rfl] at h1
    refine ⟨fun b hb => ?_, by omega⟩
    obtain ⟨i, hi, rfl⟩ := List.getElem_of_mem hb
    obtain ⟨d', h2, h3⟩ := hall i hi
    exact ⟨h3.1.2, h3.2.2⟩
/-- what is known of an act that came in, as an element -/
def CActD (W : World) (a : CAct) (d : DataW H) : Prop := RdI W W.heap.size a.u a.s.chests ∧ (a.n < 9223372036854775808 ∧ a.b.1 < 9223372036854775808 ∧ a.b.2 < 9223372036854775808 ∧ a.s.small) ∧ ∃ d0 d1 d2 d4 z0 z1 z2 y, d = .agg [d0, d1, d2, .agg [z0, z1, z2, y], d4] ∧ SizedI y a.s.chests
set_option maxRecDepth 100000 in
theorem cact_of_cells {fuel : Nat} {cs : List Value} {x : DataW H × List MemPlace} (h : DataW.trod enc Try.prog W 0 (fun _ => true) true fuel 39 cs = some x) : ∃ a : CAct, cs = encCA a ∧ CActD W a x.1 := by
  obtain ⟨what, n, b, g, e, r, v, tn, d0, d1, d2, d4, z0, z1, z2, y, k, hc, ⟨gn, gb1, gb2, gg, ge, gr, gt⟩, hx, hy⟩ := act_of_cells h
  obtain ⟨hs, ht⟩ := slice_of Try.underlying33 hy
  obtain ⟨l, hr, hz, _⟩ := open_intsF hs ht
  obtain ⟨A, c, rfl, hle, hi⟩ := hr
  refine ⟨⟨what, n, b, ⟨g, e, r, l⟩, A, c, UInt8.ofNat tn⟩, ?_, ⟨A, c, rfl, hle, hi⟩, ⟨gn.2, gb1.2, gb2.2, gg.2, ge.2, gr.2⟩, d0, d1, d2, d4, z0, z1, z2, y.1, hx, hz⟩
  have ht : (UInt8.ofNat tn).toNat = tn := by rw [UInt8.toNat_ofNat']; omega
  unfold encCA acells CAct.u
  simp only [ht]
  exact hc
set_option maxRecDepth 100000 in
theorem CActD.len {a : CAct} (h : CActD W a d) (hw : ∀ n ∈ d.weights Try.prog 39, n ≤ reachBytes) : a.s.chests.length ≤ 17592186043904 := by
  obtain ⟨_, _, d0, d1, d2, d4, z0, z1, z2, y, rfl, hz⟩ := h
  refine hz.len (fun n hn => hw n ?_)
  simp only [DataW.weights, Try.underlying39, Try.underlying35, List.map_cons, List.map_nil, DataW.weightsEach, List.mem_append]
  simp only [hn, true_or, or_true]
set_option maxRecDepth 100000 in
theorem open_acts (hv : Value.okWide Try.prog W .any base 22 v) (h : DataW.Trod enc Try.prog W 0 (fun _ => true) true 22 v d p) (hw : ∀ n ∈ d.weights Try.prog 22, n ≤ reachBytes) :
    ∃ l : List CAct, Rd encCA 9 W W.heap.size v l ∧ (∀ a ∈ l, a.Ok W) ∧ l.length < 4611686018427387904 := by
  haveI : Inhabited CAct := ⟨⟨0, 0, (0, 0), zeroS, none, 0, 0⟩⟩
  obtain ⟨l, hr, hz⟩ := open_rowsF (by decide) encCA_len Try.underlying22 (by kernel_rfl) (CActD W) (fun _ _ _ h => cact_of_cells h) (okWide_slice Try.underlying22 hv) h
  refine ⟨l, hr, ?_⟩
  rcases hz with ⟨_, rfl⟩ | ⟨el, sp, rfl, he, hall⟩
  · simp
  · have h1 := slice_len Try.underlying22 hw
    rw [show Try.prog.bytesOf 39 = 88 by kernel_rfl] at h1
    refine ⟨fun a ha => ?_, by omega⟩
    obtain ⟨i, hi, rfl⟩ := List.getElem_of_mem ha
    obtain ⟨d', h2, h3⟩ := hall i hi
    obtain ⟨k1, k2, k3, k4⟩ := h3.2.1
    exact ⟨h3.1, k1, k2, k3, k4, h3.len (fun n hn => hw n (weights_el Try.underlying22 h2 hn))⟩
end
end Go.Proofs.Ythoheikbpihflaa

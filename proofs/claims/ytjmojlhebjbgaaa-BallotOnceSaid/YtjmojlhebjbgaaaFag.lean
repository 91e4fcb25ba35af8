/- The program's ballots: Promise. The program's ballots: Take. The program's ballots: Best. The reference of ballots: Same (of equal ones), Sound. The reference's Nums: what it answers is its own. The program's Encode, PutTxn, PutBatch, PutState. -/
import Derived.Test.YtjmojlhebjbgaaaFaf
import Derived.Test.YtjmojlhebjbgaaaFab
import Derived.Test.YtjmojlhebjbgaaaFaa
namespace Go.Proofs.Ytjmojlhebjbgaaa
open Go.RowKit

set_option maxHeartbeats 4000000 in
set_option maxRecDepth 100000 in
theorem ppromise_any (x : Vw) (b : Bal) (v : Value) (w : World) (hv : RdI w w.heap.size v x.took.chests) (hl : x.took.chests.length ≤ 17592186043904) :
    Calls Try.prog 12 #[vwv x v, blv b] w fun e w' => ∃ v', e = .returned (.tuple #[vwv (promV x b) v', .bool (lessB x.prom b)]) ∧ RdI w' w'.heap.size v' (promV x b).took.chests ∧ Below w.heap.size w w' := by
  obtain ⟨A0, c0, rfl, _, _⟩ := hv.at
  obtain ⟨⟨p1, p2⟩, ⟨a1, a2⟩, ⟨g, ep, rc, ch⟩⟩ := x
  obtain ⟨b1, b2⟩ := b
  have hl0 := fun W => pless_any (p1, p2) (b1, b2) W
  have hown := fun W h => own_any ⟨g, ep, rc, ch⟩ (.slice A0 ch.length c0) W h hl
  unfold blv at hl0
  unfold sval at hown
  simp only at hl0 hown hv
  have HL := Lib.hid hl0; clear hl0
  have HN := Lib.hid hown; clear hown
  have htook : (promV ⟨(p1, p2), (a1, a2), ⟨g, ep, rc, ch⟩⟩ (b1, b2)).took.chests = ch := by unfold promV; split <;> rfl
  rw [htook]
  unfold vwv blv promV
  simp only
  generalize lessB (p1, p2) (b1, b2) = r at HL ⊢
  obtain ⟨w1, hw1⟩ : ∃ w1, w1 = w.alloc (.cells #[.int .i64 p1, .int .i64 p2, .int .i64 a1, .int .i64 a2, .int .i64 g, .int .i64 ep, .int .i64 rc, .slice A0 ch.length c0] 31) := ⟨_, rfl⟩
  obtain ⟨w2, hw2⟩ : ∃ w2, w2 = w1.alloc (.cells #[.int .i64 b1, .int .i64 b2] 23) := ⟨_, rfl⟩
  obtain ⟨w3, hw3⟩ : ∃ w3, w3 = w2.alloc (.cells #[.int .i64 0, .int .i64 0, .int .i64 0, .int .i64 0, .int .i64 0, .int .i64 0, .int .i64 0, .slice none 0 0] 31) := ⟨_, rfl⟩
  have hs1 : w1.heap.size = w.heap.size + 1 := by rw [hw1]; simp
  have hs2 : w2.heap.size = w.heap.size + 1 + 1 := by rw [hw2, World.size_alloc, hs1]
  have hs3 : w3.heap.size = w.heap.size + 1 + 1 + 1 := by rw [hw3, World.size_alloc, hs2]
  have hX : Whole w3 w.heap.size 31 [.int .i64 p1, .int .i64 p2, .int .i64 a1, .int .i64 a2, .int .i64 g, .int .i64 ep, .int .i64 rc, .slice A0 ch.length c0] := by
    rw [hw3, hw2, hw1]; exact ((Whole.fresh w _ [.int .i64 p1, .int .i64 p2, .int .i64 a1, .int .i64 a2, .int .i64 g, .int .i64 ep, .int .i64 rc, .slice A0 ch.length c0]).alloc _).alloc _
  have hY : Whole w3 (w.heap.size + 1) 23 [.int .i64 b1, .int .i64 b2] := by
    rw [hw3, hw2, ← hs1]; exact (Whole.fresh w1 _ [_, _]).alloc _
  have hZ : Whole w3 (w.heap.size + 1 + 1) 31 [.int .i64 0, .int .i64 0, .int .i64 0, .int .i64 0, .int .i64 0, .int .i64 0, .int .i64 0, .slice none 0 0] := by
    rw [hw3, ← hs2]; exact Whole.fresh w2 _ [.int .i64 0, .int .i64 0, .int .i64 0, .int .i64 0, .int .i64 0, .int .i64 0, .int .i64 0, .slice none 0 0]
  have hb3 : Below w.heap.size w w3 := by
    rw [hw3, hw2, hw1]; exact (((Below.refl _ w).alloc (Nat.le_refl _) _).alloc (by simp) _).alloc (by simp; omega) _
  have HC := Lib.hid (HN.out w3 (hv.next hb3))
  have x4 := hX.cell 4 _ rfl
  have x5 := hX.cell 5 _ rfl
  have x6 := hX.cell 6 _ rfl
  have x7 := hX.cell 7 _ rfl
  have HX := Lib.hid hX; clear hX
  have HY := Lib.hid hY; clear hY
  have HZ := Lib.hid hZ; clear hZ
  have HB3 := Lib.hid hb3; clear hb3
  have HS3 := Lib.hid hs3; clear hs3 hs1 hs2 hv HN
  go_enter Try.func12, Try.ntmps12
  go_wp2_with fail
  rw [← hw1, ← hw2, ← hw3]
  clear hw1 hw2 hw3
  refine HC.out.mono ?_
  rintro e w4 ⟨A, c, rfl, ho, hb4⟩
  have hs3 := HS3.out
  have hX4 := HX.out.below hb4 (by omega)
  have hY4 := HY.out.below hb4 (by omega)
  have hZ4 := HZ.out.below hb4 (by omega)
  have HB4 := Lib.hid (HB3.out.trans (hb4.mono (by omega)))
  have HO := Lib.hid ho
  have hsz : w3.heap.size ≤ w4.heap.size := hb4.size
  have k4 := hX4.frozen 4
  have k5 := hX4.frozen 5
  have k6 := hX4.frozen 6
  have k7 := hX4.frozen 7
  have x0 := hX4.cell 0 _ rfl
  have x1 := hX4.cell 1 _ rfl
  have y0 := hY4.cell 0 _ rfl
  have y1 := hY4.cell 1 _ rfl
  have X0 := hX4.cell 4 _ rfl
  have X1 := hX4.cell 5 _ rfl
  have X2 := hX4.cell 6 _ rfl
  have X3 := hX4.cell 7 _ rfl
  have HX4 := Lib.hid hX4
  have HY4 := Lib.hid hY4
  have HZ4 := Lib.hid hZ4
  clear hX4 hY4 hZ4 ho hb4 x4 x5 x6 x7 hs3
  go_wp2_with fail
  have hX5 := (((HX4.out.put 4 (.int .i64 g)).put 5 (.int .i64 ep)).put 6 (.int .i64 rc)).put 7 (.slice A ch.length c)
  simp only [List.set] at hX5
  have hY5 := (((HY4.out.away (p := ⟨w.heap.size, 4, none⟩) (by simp) (.int .i64 g)).away (p := ⟨w.heap.size, 5, none⟩) (by simp) (.int .i64 ep)).away (p := ⟨w.heap.size, 6, none⟩) (by simp) (.int .i64 rc)).away (p := ⟨w.heap.size, 7, none⟩) (by simp) (.slice A ch.length c)
  have hZ5 := (((HZ4.out.away (p := ⟨w.heap.size, 4, none⟩) (by simp; omega) (.int .i64 g)).away (p := ⟨w.heap.size, 5, none⟩) (by simp; omega) (.int .i64 ep)).away (p := ⟨w.heap.size, 6, none⟩) (by simp; omega) (.int .i64 rc)).away (p := ⟨w.heap.size, 7, none⟩) (by simp; omega) (.slice A ch.length c)
  have hs3 := HS3.out
  have ho5 := (((HO.out.off (p := ⟨w.heap.size, 4, none⟩) (by simp; omega) (.int .i64 g)).off (p := ⟨w.heap.size, 5, none⟩) (by simp; omega) (.int .i64 ep)).off (p := ⟨w.heap.size, 6, none⟩) (by simp; omega) (.int .i64 rc)).off (p := ⟨w.heap.size, 7, none⟩) (by simp; omega) (.slice A ch.length c)
  have hb5 : Below w.heap.size w ((((w4.setCell ⟨w.heap.size, 4, none⟩ (.int .i64 g)).setCell ⟨w.heap.size, 5, none⟩ (.int .i64 ep)).setCell ⟨w.heap.size, 6, none⟩ (.int .i64 rc)).setCell ⟨w.heap.size, 7, none⟩ (.slice A ch.length c)) := by (repeat (refine Below.setCell ?_ (by simp; try omega) _)); exact HB4.out
  have hz5 : w4.heap.size ≤ ((((w4.setCell ⟨w.heap.size, 4, none⟩ (.int .i64 g)).setCell ⟨w.heap.size, 5, none⟩ (.int .i64 ep)).setCell ⟨w.heap.size, 6, none⟩ (.int .i64 rc)).setCell ⟨w.heap.size, 7, none⟩ (.slice A ch.length c)).heap.size := by simp
  clear x0 x1 X0 X1 X2 X3 k4 k5 k6 k7 y0 y1 HX4 HY4 HZ4 HO HB4
  generalize (((w4.setCell ⟨w.heap.size, 4, none⟩ (.int .i64 g)).setCell ⟨w.heap.size, 5, none⟩ (.int .i64 ep)).setCell ⟨w.heap.size, 6, none⟩ (.int .i64 rc)).setCell ⟨w.heap.size, 7, none⟩ (.slice A ch.length c) = w5 at hX5 hY5 hZ5 ho5 hb5 hz5 ⊢
  have HB5 := Lib.hid hb5
  have HX5 := Lib.hid hX5
  have HY5 := Lib.hid hY5
  have HZ5 := Lib.hid hZ5
  have HO5 := Lib.hid ho5
  clear hX5 hY5 hZ5 ho5 hb5
  refine (HL.out w5).mono ?_
  rintro e w6 ⟨rfl, hb6⟩
  have hX6 := HX5.out.below hb6 (by omega)
  have HY6 := Lib.hid (HY5.out.below hb6 (by omega))
  have hZ6 := HZ5.out.below hb6 (by omega)
  have HO6 := Lib.hid (HO5.out.below hb6 (Nat.le_refl _))
  have HB6 := Lib.hid (HB5.out.trans (hb6.mono (by omega)))
  clear hb6
  cases r with
  | false =>
    have x0 := hX6.cell 0 _ rfl
    have x1 := hX6.cell 1 _ rfl
    have x2 := hX6.cell 2 _ rfl
    have x3 := hX6.cell 3 _ rfl
    have x4 := hX6.cell 4 _ rfl
    have x5 := hX6.cell 5 _ rfl
    have x6 := hX6.cell 6 _ rfl
    have x7 := hX6.cell 7 _ rfl
    have z0 := hZ6.cell 0 _ rfl
    have f0 := hZ6.frozen 0
    have z1 := hZ6.cell 1 _ rfl
    have f1 := hZ6.frozen 1
    have z2 := hZ6.cell 2 _ rfl
    have f2 := hZ6.frozen 2
    have z3 := hZ6.cell 3 _ rfl
    have f3 := hZ6.frozen 3
    have z4 := hZ6.cell 4 _ rfl
    have f4 := hZ6.frozen 4
    have z5 := hZ6.cell 5 _ rfl
    have f5 := hZ6.frozen 5
    have z6 := hZ6.cell 6 _ rfl
    have f6 := hZ6.frozen 6
    have z7 := hZ6.cell 7 _ rfl
    have f7 := hZ6.frozen 7
    have HZ6 := Lib.hid hZ6
    clear hX6 hZ6 hz5 hsz hs3
    go_wp2_with fail
    have hZ8 := ((((((((HZ6.out.put 0 (.int .i64 p1)).put 1 (.int .i64 p2)).put 2 (.int .i64 a1)).put 3 (.int .i64 a2)).put 4 (.int .i64 g)).put 5 (.int .i64 ep)).put 6 (.int .i64 rc)).put 7 (.slice A ch.length c))
    simp only [List.set] at hZ8
    have R0 := hZ8.cell 0 _ rfl
    have R1 := hZ8.cell 1 _ rfl
    have R2 := hZ8.cell 2 _ rfl
    have R3 := hZ8.cell 3 _ rfl
    have R4 := hZ8.cell 4 _ rfl
    have R5 := hZ8.cell 5 _ rfl
    have R6 := hZ8.cell 6 _ rfl
    have R7 := hZ8.cell 7 _ rfl
    have hs3 := HS3.out
    have ho := ((((((((HO6.out.off (p := ⟨w.heap.size + 1 + 1, 0, none⟩) (by simp; omega) (.int .i64 p1)).off (p := ⟨w.heap.size + 1 + 1, 1, none⟩) (by simp; omega) (.int .i64 p2)).off (p := ⟨w.heap.size + 1 + 1, 2, none⟩) (by simp; omega) (.int .i64 a1)).off (p := ⟨w.heap.size + 1 + 1, 3, none⟩) (by simp; omega) (.int .i64 a2)).off (p := ⟨w.heap.size + 1 + 1, 4, none⟩) (by simp; omega) (.int .i64 g)).off (p := ⟨w.heap.size + 1 + 1, 5, none⟩) (by simp; omega) (.int .i64 ep)).off (p := ⟨w.heap.size + 1 + 1, 6, none⟩) (by simp; omega) (.int .i64 rc)).off (p := ⟨w.heap.size + 1 + 1, 7, none⟩) (by simp; omega) (.slice A ch.length c))
    exact bodyPost_ret (v := .tuple #[.agg #[.int .i64 p1, .int .i64 p2, .int .i64 a1, .int .i64 a2, .int .i64 g, .int .i64 ep, .int .i64 rc, .slice A ch.length c], .bool false]) (by simp [results, Try.results12, go_sem, R0, R1, R2, R3, R4, R5, R6, R7]) rfl ⟨.slice A ch.length c, rfl, OwnI.rdI ho, by (repeat (refine Below.setCell ?_ (by simp; try omega) _)); exact HB6.out⟩
  | true =>
    have x0 := hX6.cell 0 _ rfl
    have x1 := hX6.cell 1 _ rfl
    have x2 := hX6.cell 2 _ rfl
    have x3 := hX6.cell 3 _ rfl
    have x4 := hX6.cell 4 _ rfl
    have x5 := hX6.cell 5 _ rfl
    have x6 := hX6.cell 6 _ rfl
    have x7 := hX6.cell 7 _ rfl
    have z0 := hZ6.cell 0 _ rfl
    have f0 := hZ6.frozen 0
    have z1 := hZ6.cell 1 _ rfl
    have f1 := hZ6.frozen 1
    have z2 := hZ6.cell 2 _ rfl
    have f2 := hZ6.frozen 2
    have z3 := hZ6.cell 3 _ rfl
    have f3 := hZ6.frozen 3
    have z4 := hZ6.cell 4 _ rfl
    have f4 := hZ6.frozen 4
    have z5 := hZ6.cell 5 _ rfl
    have f5 := hZ6.frozen 5
    have z6 := hZ6.cell 6 _ rfl
    have f6 := hZ6.frozen 6
    have z7 := hZ6.cell 7 _ rfl
    have f7 := hZ6.frozen 7
    have k0 := hX6.frozen 0
    have k1 := hX6.frozen 1
    have y0 := HY6.out.cell 0 _ rfl
    have y1 := HY6.out.cell 1 _ rfl
    have HZ6 := Lib.hid hZ6
    clear hX6 hZ6 hz5 hsz hs3
    go_wp2_with fail
    have hZ8 := ((((((((((HZ6.out.away (p := ⟨w.heap.size, 0, none⟩) (by simp; omega) (.int .i64 b1)).away (p := ⟨w.heap.size, 1, none⟩) (by simp; omega) (.int .i64 b2)).put 0 (.int .i64 b1)).put 1 (.int .i64 b2)).put 2 (.int .i64 a1)).put 3 (.int .i64 a2)).put 4 (.int .i64 g)).put 5 (.int .i64 ep)).put 6 (.int .i64 rc)).put 7 (.slice A ch.length c))
    simp only [List.set] at hZ8
    have R0 := hZ8.cell 0 _ rfl
    have R1 := hZ8.cell 1 _ rfl
    have R2 := hZ8.cell 2 _ rfl
    have R3 := hZ8.cell 3 _ rfl
    have R4 := hZ8.cell 4 _ rfl
    have R5 := hZ8.cell 5 _ rfl
    have R6 := hZ8.cell 6 _ rfl
    have R7 := hZ8.cell 7 _ rfl
    have hs3 := HS3.out
    have ho := ((((((((((HO6.out.off (p := ⟨w.heap.size, 0, none⟩) (by simp; omega) (.int .i64 b1)).off (p := ⟨w.heap.size, 1, none⟩) (by simp; omega) (.int .i64 b2)).off (p := ⟨w.heap.size + 1 + 1, 0, none⟩) (by simp; omega) (.int .i64 b1)).off (p := ⟨w.heap.size + 1 + 1, 1, none⟩) (by simp; omega) (.int .i64 b2)).off (p := ⟨w.heap.size + 1 + 1, 2, none⟩) (by simp; omega) (.int .i64 a1)).off (p := ⟨w.heap.size + 1 + 1, 3, none⟩) (by simp; omega) (.int .i64 a2)).off (p := ⟨w.heap.size + 1 + 1, 4, none⟩) (by simp; omega) (.int .i64 g)).off (p := ⟨w.heap.size + 1 + 1, 5, none⟩) (by simp; omega) (.int .i64 ep)).off (p := ⟨w.heap.size + 1 + 1, 6, none⟩) (by simp; omega) (.int .i64 rc)).off (p := ⟨w.heap.size + 1 + 1, 7, none⟩) (by simp; omega) (.slice A ch.length c))
    exact bodyPost_ret (v := .tuple #[.agg #[.int .i64 b1, .int .i64 b2, .int .i64 a1, .int .i64 a2, .int .i64 g, .int .i64 ep, .int .i64 rc, .slice A ch.length c], .bool true]) (by simp [results, Try.results12, go_sem, R0, R1, R2, R3, R4, R5, R6, R7]) rfl ⟨.slice A ch.length c, rfl, OwnI.rdI ho, by (repeat (refine Below.setCell ?_ (by simp; try omega) _)); exact HB6.out⟩
end Go.Proofs.Ytjmojlhebjbgaaa
namespace Go.Proofs.Ytjmojlhebjbgaaa
open Go.RowKit

/-- what of Take's arguments the last region reads, and what it leaves as it is -/
def TakeS (g : Nat) (b1 b2 s1 s2 s3 : Int) (v : Value) (w0 : World) (W : World) : Prop := Whole W (g + 1) 23 [.int .i64 b1, .int .i64 b2] ∧ Whole W (g + 1 + 1) 29 [.int .i64 s1, .int .i64 s2, .int .i64 s3, v] ∧ Below g w0 W

set_option maxHeartbeats 4000000 in
set_option maxRecDepth 100000 in
theorem ptake_any (x : Vw) (b : Bal) (s : Sta) (v u : Value) (w : World) (hv : RdI w w.heap.size v x.took.chests) (hu : RdI w w.heap.size u s.chests) (hl : x.took.chests.length ≤ 17592186043904) (hm : s.chests.length ≤ 17592186043904) :
    Calls Try.prog 14 #[vwv x v, blv b, sval s u] w fun e w' => ∃ v', e = .returned (.tuple #[vwv (takeV x b s) v', .bool (!lessB b x.prom)]) ∧ RdI w' w'.heap.size v' (takeV x b s).took.chests ∧ Below w.heap.size w w' := by
  obtain ⟨A0, c0, rfl, _, _⟩ := hv.at
  obtain ⟨B0, d0, rfl, _, _⟩ := hu.at
  obtain ⟨⟨p1, p2⟩, ⟨a1, a2⟩, ⟨g, ep, rc, ch⟩⟩ := x
  obtain ⟨b1, b2⟩ := b
  obtain ⟨s1, s2, s3, sh⟩ := s
  have hl0 := fun W => pless_any (b1, b2) (p1, p2) W
  have hown := fun W h => own_any ⟨g, ep, rc, ch⟩ (.slice A0 ch.length c0) W h hl
  have hown2 := fun W h => own_any ⟨s1, s2, s3, sh⟩ (.slice B0 sh.length d0) W h hm
  unfold blv at hl0
  unfold sval at hown hown2
  simp only at hl0 hown hown2 hv hu
  have HL := Lib.hid hl0; clear hl0
  have HN := Lib.hid hown; clear hown
  have HN2 := Lib.hid hown2; clear hown2
  have HV := Lib.hid hv; clear hv
  have HU := Lib.hid hu; clear hu
  unfold vwv blv takeV sval
  simp only
  generalize lessB (b1, b2) (p1, p2) = r at HL ⊢
  obtain ⟨w1, hw1⟩ : ∃ w1, w1 = w.alloc (.cells #[.int .i64 p1, .int .i64 p2, .int .i64 a1, .int .i64 a2, .int .i64 g, .int .i64 ep, .int .i64 rc, .slice A0 ch.length c0] 31) := ⟨_, rfl⟩
  obtain ⟨w2, hw2⟩ : ∃ w2, w2 = w1.alloc (.cells #[.int .i64 b1, .int .i64 b2] 23) := ⟨_, rfl⟩
  obtain ⟨w3, hw3⟩ : ∃ w3, w3 = w2.alloc (.cells #[.int .i64 s1, .int .i64 s2, .int .i64 s3, .slice B0 sh.length d0] 29) := ⟨_, rfl⟩
  obtain ⟨w4, hw4⟩ : ∃ w4, w4 = w3.alloc (.cells #[.int .i64 0, .int .i64 0, .int .i64 0, .int .i64 0, .int .i64 0, .int .i64 0, .int .i64 0, .slice none 0 0] 31) := ⟨_, rfl⟩
  have hs1 : w1.heap.size = w.heap.size + 1 := by rw [hw1]; simp
  have hs2 : w2.heap.size = w.heap.size + 1 + 1 := by rw [hw2, World.size_alloc, hs1]
  have hs3 : w3.heap.size = w.heap.size + 1 + 1 + 1 := by rw [hw3, World.size_alloc, hs2]
  have hs4 : w4.heap.size = w.heap.size + 1 + 1 + 1 + 1 := by rw [hw4, World.size_alloc, hs3]
  have hX : Whole w4 w.heap.size 31 [.int .i64 p1, .int .i64 p2, .int .i64 a1, .int .i64 a2, .int .i64 g, .int .i64 ep, .int .i64 rc, .slice A0 ch.length c0] := by
    rw [hw4, hw3, hw2, hw1]; exact (((Whole.fresh w _ [.int .i64 p1, .int .i64 p2, .int .i64 a1, .int .i64 a2, .int .i64 g, .int .i64 ep, .int .i64 rc, .slice A0 ch.length c0]).alloc _).alloc _).alloc _
  have hY : Whole w4 (w.heap.size + 1) 23 [.int .i64 b1, .int .i64 b2] := by
    rw [hw4, hw3, hw2, ← hs1]; exact ((Whole.fresh w1 _ [_, _]).alloc _).alloc _
  have hU : Whole w4 (w.heap.size + 1 + 1) 29 [.int .i64 s1, .int .i64 s2, .int .i64 s3, .slice B0 sh.length d0] := by
    rw [hw4, hw3, ← hs2]; exact (Whole.fresh w2 _ [_, _, _, _]).alloc _
  have hZ : Whole w4 (w.heap.size + 1 + 1 + 1) 31 [.int .i64 0, .int .i64 0, .int .i64 0, .int .i64 0, .int .i64 0, .int .i64 0, .int .i64 0, .slice none 0 0] := by
    rw [hw4, ← hs3]; exact Whole.fresh w3 _ [.int .i64 0, .int .i64 0, .int .i64 0, .int .i64 0, .int .i64 0, .int .i64 0, .int .i64 0, .slice none 0 0]
  have hb4 : Below w.heap.size w w4 := by
    rw [hw4, hw3, hw2, hw1]; exact ((((Below.refl _ w).alloc (Nat.le_refl _) _).alloc (by simp) _).alloc (by simp; omega) _).alloc (by simp; omega) _
  have HX := Lib.hid hX; clear hX
  have HY := Lib.hid hY; clear hY
  have HU4 := Lib.hid hU; clear hU
  have HZ := Lib.hid hZ; clear hZ
  have HB4 := Lib.hid hb4; clear hb4
  have HS4 := Lib.hid hs4; clear hs4 hs1 hs2 hs3
  go_enter Try.func14, Try.ntmps14
  go_wp2_with fail
  rw [← hw1, ← hw2, ← hw3, ← hw4]
  clear hw1 hw2 hw3 hw4
  refine (HL.out w4).mono ?_
  rintro e w5 ⟨rfl, hb5⟩
  have hs4 := HS4.out
  have hX5 := HX.out.below hb5 (by omega)
  have hY5 := HY.out.below hb5 (by omega)
  have hU5 := HU4.out.below hb5 (by omega)
  have hZ5 := HZ.out.below hb5 (by omega)
  have hsz5 : w4.heap.size ≤ w5.heap.size := hb5.size
  have HB5 := Lib.hid (HB4.out.trans (hb5.mono (by omega)))
  have HSZ := Lib.hid hsz5
  clear hb5
  cases r with
  | true =>
    have HC := Lib.hid (HN.out w5 ((HV.out.below HB5.out (Nat.le_refl _)).mono HB5.out.size))
    have x4 := hX5.cell 4 _ rfl
    have x5 := hX5.cell 5 _ rfl
    have x6 := hX5.cell 6 _ rfl
    have x7 := hX5.cell 7 _ rfl
    have HX5 := Lib.hid hX5
    have HZ5 := Lib.hid hZ5
    clear hX5 hY5 hU5 hZ5 hs4
    go_wp2_with fail
    refine HC.out.mono ?_
    rintro e w6 ⟨A, c, rfl, ho, hb6⟩
    have hs4 := HS4.out
    have hX6 := HX5.out.below hb6 (by omega)
    have hZ6 := HZ5.out.below hb6 (by omega)
    have HB6 := Lib.hid (HB5.out.trans (hb6.mono (by omega)))
    have HO := Lib.hid ho
    have x0 := hX6.cell 0 _ rfl
    have x1 := hX6.cell 1 _ rfl
    have x2 := hX6.cell 2 _ rfl
    have x3 := hX6.cell 3 _ rfl
    have X0 := hX6.cell 4 _ rfl
    have k0 := hX6.frozen 4
    have X1 := hX6.cell 5 _ rfl
    have k1 := hX6.frozen 5
    have X2 := hX6.cell 6 _ rfl
    have k2 := hX6.frozen 6
    have X3 := hX6.cell 7 _ rfl
    have k3 := hX6.frozen 7
    have z0 := hZ6.cell 0 _ rfl
    have f0 := hZ6.frozen 0
    have z1 := hZ6.cell 1 _ rfl
    have f1 := hZ6.frozen 1
    have z2 := hZ6.cell 2 _ rfl
    have f2 := hZ6.frozen 2
    have z3 := hZ6.cell 3 _ rfl
    have f3 := hZ6.frozen 3
    have z4 := hZ6.cell 4 _ rfl
    have f4 := hZ6.frozen 4
    have z5 := hZ6.cell 5 _ rfl
    have f5 := hZ6.frozen 5
    have z6 := hZ6.cell 6 _ rfl
    have f6 := hZ6.frozen 6
    have z7 := hZ6.cell 7 _ rfl
    have f7 := hZ6.frozen 7
    have HZ6 := Lib.hid hZ6
    clear hX6 hZ6 ho hb6 x4 x5 x6 x7 hs4 hsz5
    go_wp2_with fail
    have hs4 := HS4.out
    have hz := HSZ.out
    have hZ8 := ((((((((((((HZ6.out.away (p := ⟨w.heap.size, 4, none⟩) (by simp; omega) (.int .i64 g)).away (p := ⟨w.heap.size, 5, none⟩) (by simp; omega) (.int .i64 ep)).away (p := ⟨w.heap.size, 6, none⟩) (by simp; omega) (.int .i64 rc)).away (p := ⟨w.heap.size, 7, none⟩) (by simp; omega) (.slice A ch.length c)).put 0 (.int .i64 p1)).put 1 (.int .i64 p2)).put 2 (.int .i64 a1)).put 3 (.int .i64 a2)).put 4 (.int .i64 g)).put 5 (.int .i64 ep)).put 6 (.int .i64 rc)).put 7 (.slice A ch.length c))
    simp only [List.set] at hZ8
    have R0 := hZ8.cell 0 _ rfl
    have R1 := hZ8.cell 1 _ rfl
    have R2 := hZ8.cell 2 _ rfl
    have R3 := hZ8.cell 3 _ rfl
    have R4 := hZ8.cell 4 _ rfl
    have R5 := hZ8.cell 5 _ rfl
    have R6 := hZ8.cell 6 _ rfl
    have R7 := hZ8.cell 7 _ rfl
    have ho := ((((((((((((HO.out.off (p := ⟨w.heap.size, 4, none⟩) (by simp; omega) (.int .i64 g)).off (p := ⟨w.heap.size, 5, none⟩) (by simp; omega) (.int .i64 ep)).off (p := ⟨w.heap.size, 6, none⟩) (by simp; omega) (.int .i64 rc)).off (p := ⟨w.heap.size, 7, none⟩) (by simp; omega) (.slice A ch.length c)).off (p := ⟨w.heap.size + 1 + 1 + 1, 0, none⟩) (by simp; omega) (.int .i64 p1)).off (p := ⟨w.heap.size + 1 + 1 + 1, 1, none⟩) (by simp; omega) (.int .i64 p2)).off (p := ⟨w.heap.size + 1 + 1 + 1, 2, none⟩) (by simp; omega) (.int .i64 a1)).off (p := ⟨w.heap.size + 1 + 1 + 1, 3, none⟩) (by simp; omega) (.int .i64 a2)).off (p := ⟨w.heap.size + 1 + 1 + 1, 4, none⟩) (by simp; omega) (.int .i64 g)).off (p := ⟨w.heap.size + 1 + 1 + 1, 5, none⟩) (by simp; omega) (.int .i64 ep)).off (p := ⟨w.heap.size + 1 + 1 + 1, 6, none⟩) (by simp; omega) (.int .i64 rc)).off (p := ⟨w.heap.size + 1 + 1 + 1, 7, none⟩) (by simp; omega) (.slice A ch.length c))
    exact bodyPost_ret (v := .tuple #[.agg #[.int .i64 p1, .int .i64 p2, .int .i64 a1, .int .i64 a2, .int .i64 g, .int .i64 ep, .int .i64 rc, .slice A ch.length c], .bool false]) (by simp [results, Try.results14, go_sem, R0, R1, R2, R3, R4, R5, R6, R7]) rfl ⟨.slice A ch.length c, rfl, OwnI.rdI ho, by (repeat (refine Below.setCell ?_ (by simp; try omega) _)); exact HB6.out⟩
  | false =>
    have HU5 := Lib.hid ((HU.out.below HB5.out (Nat.le_refl _)).mono HB5.out.size)
    have hS : TakeS w.heap.size b1 b2 s1 s2 s3 (.slice B0 sh.length d0) w w5.drew := ⟨hY5, hU5, HB5.out.drew⟩
    have HZ5 := Lib.hid (show Whole w5.drew (w.heap.size + 1 + 1 + 1) 31 _ from hZ5)
    have HC := Lib.hid (HN2.out w5.drew HU5.out)
    have HD := Lib.hid (show w4.heap.size ≤ w5.drew.heap.size from hsz5)
    go_wp2_with fail
    refine wp_region_plan (S := TakeS w.heap.size b1 b2 s1 s2 s3 (.slice B0 sh.length d0) w) [(true, 0), (true, 1), (true, 2), (false, 3), (true, 4), (false, 5), (true, 6)] (by kernel_rfl) (by kernel_rfl) (fun _ _ d _ _ h => by cases d <;> exact h) hS ?_
    clear hX5 hY5 hU5 hZ5
    generalize w5.drew = w6 at hS HZ5 HC HD ⊢
    have HS := Lib.hid hS; clear hS
    iterate 3 (refine Plan.take (v := ?_) rfl rfl ?_ ?_; rotate_left; (focus (intro W hW; have y0 := hW.1.cell 0 _ rfl; have y1 := hW.1.cell 1 _ rfl; have u0 := hW.2.1.cell 0 _ rfl; have u1 := hW.2.1.cell 1 _ rfl; have u2 := hW.2.1.cell 2 _ rfl; have u3 := hW.2.1.cell 3 _ rfl; go_simp; (try with_reducible rfl); done)); (try simp only [Act.put, List.setIfInBounds_toArray, List.set_cons_zero, List.set_cons_succ]))
    refine Plan.step rfl rfl (fun Kk hK => ?_)
    go_simp
    refine HC.out.mono ?_
    rintro e w7 ⟨A, c, rfl, ho, hb7⟩
    have hs4 := HS4.out
    have hz6 := HD.out
    have hS7 : TakeS w.heap.size b1 b2 s1 s2 s3 (.slice B0 sh.length d0) w w7 := ⟨HS.out.1.below hb7 (by omega), HS.out.2.1.below hb7 (by omega), HS.out.2.2.trans (hb7.mono (by omega))⟩
    refine hK.out _ _ hS7 ?_
    have hZ7 := HZ5.out.below hb7 (by omega)
    have HO := Lib.hid ho
    have HS7 := Lib.hid hS7
    clear hK Kk hb7 ho hS7
    (try simp only [Act.put, List.setIfInBounds_toArray, List.set_cons_zero, List.set_cons_succ])
    refine Plan.take (v := ?_) rfl rfl ?_ ?_; rotate_left; (focus (intro W hW; go_simp; (try with_reducible rfl); done)); (try simp only [Act.put, List.setIfInBounds_toArray, List.set_cons_zero, List.set_cons_succ])
    have z0 := hZ7.cell 0 _ rfl
    have f0 := hZ7.frozen 0
    have z1 := hZ7.cell 1 _ rfl
    have f1 := hZ7.frozen 1
    have z2 := hZ7.cell 2 _ rfl
    have f2 := hZ7.frozen 2
    have z3 := hZ7.cell 3 _ rfl
    have f3 := hZ7.frozen 3
    have z4 := hZ7.cell 4 _ rfl
    have f4 := hZ7.frozen 4
    have z5 := hZ7.cell 5 _ rfl
    have f5 := hZ7.frozen 5
    have z6 := hZ7.cell 6 _ rfl
    have f6 := hZ7.frozen 6
    have z7 := hZ7.cell 7 _ rfl
    have f7 := hZ7.frozen 7
    have HZ7 := Lib.hid hZ7
    clear hZ7
    refine Plan.step rfl rfl (fun Kk hK => ?_)
    go_simp
    have hb8 : Below w.heap.size w ((((((((w7.setCell ⟨w.heap.size + 1 + 1 + 1, 0, none⟩ (.int .i64 b1)).setCell ⟨w.heap.size + 1 + 1 + 1, 1, none⟩ (.int .i64 b2)).setCell ⟨w.heap.size + 1 + 1 + 1, 2, none⟩ (.int .i64 b1)).setCell ⟨w.heap.size + 1 + 1 + 1, 3, none⟩ (.int .i64 b2)).setCell ⟨w.heap.size + 1 + 1 + 1, 4, none⟩ (.int .i64 s1)).setCell ⟨w.heap.size + 1 + 1 + 1, 5, none⟩ (.int .i64 s2)).setCell ⟨w.heap.size + 1 + 1 + 1, 6, none⟩ (.int .i64 s3)).setCell ⟨w.heap.size + 1 + 1 + 1, 7, none⟩ (.slice A sh.length c)) := by (repeat (refine Below.setCell ?_ (by simp; try omega) _)); exact HS7.out.2.2
    have hS8 : TakeS w.heap.size b1 b2 s1 s2 s3 (.slice B0 sh.length d0) w ((((((((w7.setCell ⟨w.heap.size + 1 + 1 + 1, 0, none⟩ (.int .i64 b1)).setCell ⟨w.heap.size + 1 + 1 + 1, 1, none⟩ (.int .i64 b2)).setCell ⟨w.heap.size + 1 + 1 + 1, 2, none⟩ (.int .i64 b1)).setCell ⟨w.heap.size + 1 + 1 + 1, 3, none⟩ (.int .i64 b2)).setCell ⟨w.heap.size + 1 + 1 + 1, 4, none⟩ (.int .i64 s1)).setCell ⟨w.heap.size + 1 + 1 + 1, 5, none⟩ (.int .i64 s2)).setCell ⟨w.heap.size + 1 + 1 + 1, 6, none⟩ (.int .i64 s3)).setCell ⟨w.heap.size + 1 + 1 + 1, 7, none⟩ (.slice A sh.length c)) := ⟨((((((((HS7.out.1.away (p := ⟨w.heap.size + 1 + 1 + 1, 0, none⟩) (by simp) (.int .i64 b1)).away (p := ⟨w.heap.size + 1 + 1 + 1, 1, none⟩) (by simp) (.int .i64 b2)).away (p := ⟨w.heap.size + 1 + 1 + 1, 2, none⟩) (by simp) (.int .i64 b1)).away (p := ⟨w.heap.size + 1 + 1 + 1, 3, none⟩) (by simp) (.int .i64 b2)).away (p := ⟨w.heap.size + 1 + 1 + 1, 4, none⟩) (by simp) (.int .i64 s1)).away (p := ⟨w.heap.size + 1 + 1 + 1, 5, none⟩) (by simp) (.int .i64 s2)).away (p := ⟨w.heap.size + 1 + 1 + 1, 6, none⟩) (by simp) (.int .i64 s3)).away (p := ⟨w.heap.size + 1 + 1 + 1, 7, none⟩) (by simp) (.slice A sh.length c)), ((((((((HS7.out.2.1.away (p := ⟨w.heap.size + 1 + 1 + 1, 0, none⟩) (by simp) (.int .i64 b1)).away (p := ⟨w.heap.size + 1 + 1 + 1, 1, none⟩) (by simp) (.int .i64 b2)).away (p := ⟨w.heap.size + 1 + 1 + 1, 2, none⟩) (by simp) (.int .i64 b1)).away (p := ⟨w.heap.size + 1 + 1 + 1, 3, none⟩) (by simp) (.int .i64 b2)).away (p := ⟨w.heap.size + 1 + 1 + 1, 4, none⟩) (by simp) (.int .i64 s1)).away (p := ⟨w.heap.size + 1 + 1 + 1, 5, none⟩) (by simp) (.int .i64 s2)).away (p := ⟨w.heap.size + 1 + 1 + 1, 6, none⟩) (by simp) (.int .i64 s3)).away (p := ⟨w.heap.size + 1 + 1 + 1, 7, none⟩) (by simp) (.slice A sh.length c)), hb8⟩
    refine hK.out _ _ hS8 ?_
    clear hK Kk z0 f0 z1 f1 z2 f2 z3 f3 z4 f4 z5 f5 z6 f6 z7 f7
    have hZ8 := ((((((((HZ7.out.put 0 (.int .i64 b1)).put 1 (.int .i64 b2)).put 2 (.int .i64 b1)).put 3 (.int .i64 b2)).put 4 (.int .i64 s1)).put 5 (.int .i64 s2)).put 6 (.int .i64 s3)).put 7 (.slice A sh.length c))
    simp only [List.set] at hZ8
    have ho8 := ((((((((HO.out.off (p := ⟨w.heap.size + 1 + 1 + 1, 0, none⟩) (by simp; omega) (.int .i64 b1)).off (p := ⟨w.heap.size + 1 + 1 + 1, 1, none⟩) (by simp; omega) (.int .i64 b2)).off (p := ⟨w.heap.size + 1 + 1 + 1, 2, none⟩) (by simp; omega) (.int .i64 b1)).off (p := ⟨w.heap.size + 1 + 1 + 1, 3, none⟩) (by simp; omega) (.int .i64 b2)).off (p := ⟨w.heap.size + 1 + 1 + 1, 4, none⟩) (by simp; omega) (.int .i64 s1)).off (p := ⟨w.heap.size + 1 + 1 + 1, 5, none⟩) (by simp; omega) (.int .i64 s2)).off (p := ⟨w.heap.size + 1 + 1 + 1, 6, none⟩) (by simp; omega) (.int .i64 s3)).off (p := ⟨w.heap.size + 1 + 1 + 1, 7, none⟩) (by simp; omega) (.slice A sh.length c))
    (try simp only [Act.put, List.setIfInBounds_toArray, List.set_cons_zero, List.set_cons_succ])
    refine Plan.take (v := ?_) rfl rfl ?_ ?_; rotate_left; (focus (intro W hW; go_simp; (try with_reducible rfl); done)); (try simp only [Act.put, List.setIfInBounds_toArray, List.set_cons_zero, List.set_cons_succ])
    simp only [Plan]
    generalize ((((((((w7.setCell ⟨w.heap.size + 1 + 1 + 1, 0, none⟩ (.int .i64 b1)).setCell ⟨w.heap.size + 1 + 1 + 1, 1, none⟩ (.int .i64 b2)).setCell ⟨w.heap.size + 1 + 1 + 1, 2, none⟩ (.int .i64 b1)).setCell ⟨w.heap.size + 1 + 1 + 1, 3, none⟩ (.int .i64 b2)).setCell ⟨w.heap.size + 1 + 1 + 1, 4, none⟩ (.int .i64 s1)).setCell ⟨w.heap.size + 1 + 1 + 1, 5, none⟩ (.int .i64 s2)).setCell ⟨w.heap.size + 1 + 1 + 1, 6, none⟩ (.int .i64 s3)).setCell ⟨w.heap.size + 1 + 1 + 1, 7, none⟩ (.slice A sh.length c)) = w8 at hZ8 ho8 hb8 ⊢
    have R0 := hZ8.cell 0 _ rfl
    have R1 := hZ8.cell 1 _ rfl
    have R2 := hZ8.cell 2 _ rfl
    have R3 := hZ8.cell 3 _ rfl
    have R4 := hZ8.cell 4 _ rfl
    have R5 := hZ8.cell 5 _ rfl
    have R6 := hZ8.cell 6 _ rfl
    have R7 := hZ8.cell 7 _ rfl
    have HO8 := Lib.hid ho8
    have HB8 := Lib.hid hb8
    clear hS8 ho8 hb8 hZ8
    go_wp2_with fail
    exact bodyPost_ret (v := .tuple #[.agg #[.int .i64 b1, .int .i64 b2, .int .i64 b1, .int .i64 b2, .int .i64 s1, .int .i64 s2, .int .i64 s3, .slice A sh.length c], .bool true]) (by simp [results, Try.results14, go_sem, R0, R1, R2, R3, R4, R5, R6, R7]) rfl ⟨.slice A sh.length c, rfl, OwnI.rdI HO8.out, HB8.out⟩
end Go.Proofs.Ytjmojlhebjbgaaa
namespace Go.Proofs.Ytjmojlhebjbgaaa
open Go.RowKit

set_option maxHeartbeats 4000000 in
set_option maxRecDepth 100000 in
theorem pbest_any (l : List Ew) (v : Value) (w : World) (hv : RdEw w w.heap.size v l) (hr : ∀ e ∈ l, RdI w w.heap.size e.v e.x.took.chests) (hl : l.length < 4611686018427387904) (hm : ∀ e ∈ l, e.x.took.chests.length ≤ 17592186043904) :
    Calls Try.prog 18 #[v] w fun e w' => ∃ v', e = .returned (sval (bestV zeroV (l.map (·.x))).took v') ∧ RdI w' w'.heap.size v' (bestV zeroV (l.map (·.x))).took.chests ∧ Below w.heap.size w w' := by
  obtain ⟨A, c, rfl, hc, hi⟩ := hv.at
  have HI := Lib.hid hi; clear hi hv
  obtain ⟨E0, hE0⟩ : ∃ E0, E0 = bestE zeroE l := ⟨_, rfl⟩
  have hx0 : bestV zeroV (l.map (·.x)) = E0.x := by rw [hE0, bestE_x]; rfl
  rw [hx0]
  have hrd : RdI w w.heap.size E0.v E0.x.took.chests ∧ E0.x.took.chests.length ≤ 17592186043904 := by
    rw [hE0]
    rcases bestE_mem zeroE l with e | e
    · rw [e]; exact ⟨Rd.none_ _ _ _ _, by simp [zeroE, zeroV, zeroS]⟩
    · exact ⟨hr _ e, hm _ e⟩
  obtain ⟨⟨⟨zp1, zp2⟩, ⟨za1, za2⟩, ⟨zg, zep, zrc, zch⟩⟩, zA, zc⟩ := E0
  have hown := fun W h => own_any ⟨zg, zep, zrc, zch⟩ (.slice zA zch.length zc) W h hrd.2
  have HRD := Lib.hid hrd.1
  have HN := Lib.hid hown
  have HE0 := Lib.hid hE0; clear hE0 hx0 hrd hown hr hm
  unfold Ew.v at HRD
  unfold sval at HN ⊢
  simp only at HRD HN ⊢
  have HL := Lib.hid (fun a b W => pless_any a b W)
  obtain ⟨g, hg⟩ : ∃ g, g = w.heap.size := ⟨_, rfl⟩
  have HG := Lib.hid hg
  obtain ⟨w1, hw1⟩ : ∃ w1, w1 = w.alloc (.cells #[.int .i64 0, .int .i64 0, .int .i64 0, .slice none 0 0] 29) := ⟨_, rfl⟩
  obtain ⟨w2, hw2⟩ : ∃ w2, w2 = w1.alloc (.cells #[.int .i64 0, .int .i64 0, .int .i64 0, .int .i64 0, .int .i64 0, .int .i64 0, .int .i64 0, .slice none 0 0] 31) := ⟨_, rfl⟩
  have hs1 : w1.heap.size = w.heap.size + 1 := by rw [hw1]; simp
  have hs2 : w2.heap.size = w.heap.size + 1 + 1 := by rw [hw2, World.size_alloc, hs1]
  have HZ := Lib.hid (show Whole w2 w.heap.size 29 [.int .i64 0, .int .i64 0, .int .i64 0, .slice none 0 0] from by rw [hw2, hw1]; exact (Whole.fresh w _ [_, _, _, _]).alloc _)
  have HX := Lib.hid (show Whole w2 (w.heap.size + 1) 31 (encEw zeroE) from by rw [hw2, ← hs1]; exact Whole.fresh w1 _ (encEw zeroE))
  have HB := Lib.hid (show Below w.heap.size w w2 from by rw [hw2, hw1]; exact ((Below.refl _ w).alloc (Nat.le_refl _) _).alloc (by simp) _)
  have HS2 := Lib.hid hs2
  go_enter Try.func18, Try.ntmps18
  go_wp2_with fail
  rw [← hw1, ← hw2, ← hg]
  clear hs1 hs2 hw1 hw2 hg
  go_loopw [8] (fun iv wr => ∃ (i : Nat) (e : Ew), i ≤ l.length ∧ iv = .int .i64 i ∧ Hid (e = bestE zeroE (l.take i)) ∧ Hid (Whole wr (g + 1) 31 (encEw e)) ∧ Hid (Whole wr g 29 [.int .i64 0, .int .i64 0, .int .i64 0, .slice none 0 0]) ∧ Hid (Below g w wr)) (fun iv _ => l.length - (intOf iv).toNat)
  case atStart => exact ⟨0, zeroE, Nat.zero_le _, rfl, Lib.hid rfl, by rw [HG.out]; exact HX, by rw [HG.out]; exact HZ, by rw [HG.out]; exact HB⟩
  case round =>
    obtain ⟨i, e, hil, rfl, HE, HXr, HZr, HBr⟩ := hrel
    clear HX HZ HB
    have hgs := HXr.out.size
    by_cases hlt : i < l.length
    · obtain ⟨b, o, rfl, hbB, hk⟩ := HI.out i hlt
      have hkr : ∀ W, Below g w W → ∀ j u, (encEw l[i])[j]? = some u → W.cell? ⟨b, o + i * 8 + j, none⟩ = some u := fun W hW j u hu => (hW.cell (p := ⟨b, _, none⟩) (by rw [HG.out]; exact hbB)).trans (hk j u hu)
      have hE := HE.out
      have hstep : bestE zeroE (l.take (i + 1)) = if lessB e.x.at' l[i].x.at' = true then l[i] else e := by
        rw [List.take_succ_eq_append_getElem hlt, bestE_append, ← hE]
      clear hk hE
      generalize l[i] = y at hkr hstep
      obtain ⟨⟨⟨yp1, yp2⟩, ⟨ya1, ya2⟩, ⟨yg, yep, yrc, ych⟩⟩, yA, yc⟩ := y
      obtain ⟨⟨⟨ep1, ep2⟩, ⟨ea1, ea2⟩, ⟨eg, eep, erc, ech⟩⟩, eA, ec⟩ := e
      unfold encEw vcells Ew.v at hkr HXr
      simp only at hkr HXr hstep
      have hll := HL.out (ea1, ea2) (ya1, ya2)
      unfold blv at hll
      simp only at hll
      generalize lessB (ea1, ea2) (ya1, ya2) = r at hstep hll
      have HLL := Lib.hid hll; clear hll
      have HST := Lib.hid hstep; clear hstep
      have hkk := hkr wr HBr.out
      have HK := Lib.hid hkr; clear hkr
      have h0 : (0 : Int) ≤ (i : Int) := by omega
      have h1 : (i : Int) < (l.length : Int) := by omega
      have k0 := hkk 0 _ rfl
      have k1 := hkk 1 _ rfl
      have k2 := hkk 2 _ rfl
      have k3 := hkk 3 _ rfl
      have k4 := hkk 4 _ rfl
      have k5 := hkk 5 _ rfl
      have k6 := hkk 6 _ rfl
      have k7 := hkk 7 _ rfl
      simp only [Nat.add_zero] at k0
      have x2 := HXr.out.cell 2 _ rfl
      have x3 := HXr.out.cell 3 _ rfl
      clear hkk
      go_wp2_with fail
      obtain ⟨wa, hwa⟩ : ∃ wa, wa = wr.alloc (.cells #[.int .i64 yp1, .int .i64 yp2, .int .i64 ya1, .int .i64 ya2, .int .i64 yg, .int .i64 yep, .int .i64 yrc, .slice yA ych.length yc] 31) := ⟨_, rfl⟩
      rw [← hwa]
      have hV : Whole wa wr.heap.size 31 [.int .i64 yp1, .int .i64 yp2, .int .i64 ya1, .int .i64 ya2, .int .i64 yg, .int .i64 yep, .int .i64 yrc, .slice yA ych.length yc] := by rw [hwa]; exact Whole.fresh wr _ [.int .i64 yp1, .int .i64 yp2, .int .i64 ya1, .int .i64 ya2, .int .i64 yg, .int .i64 yep, .int .i64 yrc, .slice yA ych.length yc]
      have hXa := HXr.out.alloc (.cells #[.int .i64 yp1, .int .i64 yp2, .int .i64 ya1, .int .i64 ya2, .int .i64 yg, .int .i64 yep, .int .i64 yrc, .slice yA ych.length yc] 31)
      rw [← hwa] at hXa
      have hZa := HZr.out.alloc (.cells #[.int .i64 yp1, .int .i64 yp2, .int .i64 ya1, .int .i64 ya2, .int .i64 yg, .int .i64 yep, .int .i64 yrc, .slice yA ych.length yc] 31)
      rw [← hwa] at hZa
      have hBa : Below g w wa := by rw [hwa]; exact HBr.out.alloc (by omega) _
      have hsa : wa.heap.size = wr.heap.size + 1 := by rw [hwa]; simp
      have HXa := Lib.hid hXa
      have HZa := Lib.hid hZa
      have HBa := Lib.hid hBa
      have HVa := Lib.hid hV
      have HSa := Lib.hid hsa
      clear hwa hV hXa hZa hBa hsa k0 k1 k2 k3 k4 k5 k6 k7 x2 x3 HK
      refine (HLL.out wa).mono ?_
      rintro e w3 ⟨rfl, hb3⟩
      have hsa := HSa.out
      have hX3 := HXa.out.below hb3 (by omega)
      have HZ3 := Lib.hid (HZa.out.below hb3 (by omega))
      have hV3 := HVa.out.below hb3 (by omega)
      have HB3 := Lib.hid (HBa.out.trans (hb3.mono (by omega)))
      have hne : wr.heap.size ≠ g + 1 := by omega
      clear hb3 hsa
      cases r with
      | false =>
        have hst := HST.out
        simp only [Bool.false_eq_true, if_false] at hst
        have HST2 := Lib.hid hst.symm
        have HX3 := Lib.hid hX3
        clear hX3 hst hV3
        go_wp2_with fail
        go_roundw
        case rel => exact ⟨i + 1, ⟨⟨(ep1, ep2), (ea1, ea2), ⟨eg, eep, erc, ech⟩⟩, eA, ec⟩, by omega, by go_num, HST2, HX3, HZ3, HB3⟩
        case measure => simp [intOf]; omega
      | true =>
        have hst := HST.out
        simp only [if_true] at hst
        have HST2 := Lib.hid hst.symm
        have HX3 := Lib.hid hX3
        have k0 := hV3.cell 0 _ rfl
        have k1 := hV3.cell 1 _ rfl
        have k2 := hV3.cell 2 _ rfl
        have k3 := hV3.cell 3 _ rfl
        have k4 := hV3.cell 4 _ rfl
        have k5 := hV3.cell 5 _ rfl
        have k6 := hV3.cell 6 _ rfl
        have k7 := hV3.cell 7 _ rfl
        have x0 := hX3.cell 0 _ rfl
        have f0 := hX3.frozen 0
        have x1 := hX3.cell 1 _ rfl
        have f1 := hX3.frozen 1
        have x2 := hX3.cell 2 _ rfl
        have f2 := hX3.frozen 2
        have x3 := hX3.cell 3 _ rfl
        have f3 := hX3.frozen 3
        have x4 := hX3.cell 4 _ rfl
        have f4 := hX3.frozen 4
        have x5 := hX3.cell 5 _ rfl
        have f5 := hX3.frozen 5
        have x6 := hX3.cell 6 _ rfl
        have f6 := hX3.frozen 6
        have x7 := hX3.cell 7 _ rfl
        have f7 := hX3.frozen 7
        clear hX3 hV3 hst
        go_wp2_with fail
        have hX8 := ((((((((HX3.out.put 0 (.int .i64 yp1)).put 1 (.int .i64 yp2)).put 2 (.int .i64 ya1)).put 3 (.int .i64 ya2)).put 4 (.int .i64 yg)).put 5 (.int .i64 yep)).put 6 (.int .i64 yrc)).put 7 (.slice yA ych.length yc))
        simp only [List.set] at hX8
        have hZ8 := ((((((((HZ3.out.away (p := ⟨g + 1, 0, none⟩) (by simp) (.int .i64 yp1)).away (p := ⟨g + 1, 1, none⟩) (by simp) (.int .i64 yp2)).away (p := ⟨g + 1, 2, none⟩) (by simp) (.int .i64 ya1)).away (p := ⟨g + 1, 3, none⟩) (by simp) (.int .i64 ya2)).away (p := ⟨g + 1, 4, none⟩) (by simp) (.int .i64 yg)).away (p := ⟨g + 1, 5, none⟩) (by simp) (.int .i64 yep)).away (p := ⟨g + 1, 6, none⟩) (by simp) (.int .i64 yrc)).away (p := ⟨g + 1, 7, none⟩) (by simp) (.slice yA ych.length yc))
        have hb8 := ((((((((HB3.out.setCell (p := ⟨g + 1, 0, none⟩) (by simp) (.int .i64 yp1)).setCell (p := ⟨g + 1, 1, none⟩) (by simp) (.int .i64 yp2)).setCell (p := ⟨g + 1, 2, none⟩) (by simp) (.int .i64 ya1)).setCell (p := ⟨g + 1, 3, none⟩) (by simp) (.int .i64 ya2)).setCell (p := ⟨g + 1, 4, none⟩) (by simp) (.int .i64 yg)).setCell (p := ⟨g + 1, 5, none⟩) (by simp) (.int .i64 yep)).setCell (p := ⟨g + 1, 6, none⟩) (by simp) (.int .i64 yrc)).setCell (p := ⟨g + 1, 7, none⟩) (by simp) (.slice yA ych.length yc))
        have HX8 := Lib.hid hX8
        have HZ8 := Lib.hid hZ8
        have HB8 := Lib.hid hb8
        clear hX8 hZ8 hb8 k0 k1 k2 k3 k4 k5 k6 k7 x0 x1 x2 x3 x4 x5 x6 x7 f0 f1 f2 f3 f4 f5 f6 f7
        go_roundw
        case rel => exact ⟨i + 1, ⟨⟨(yp1, yp2), (ya1, ya2), ⟨yg, yep, yrc, ych⟩⟩, yA, yc⟩, by omega, by go_num, HST2, HX8, HZ8, HB8⟩
        case measure => simp [intOf]; omega
    · obtain rfl : i = l.length := by omega
      have hE := HE.out
      rw [List.take_length] at hE
      obtain rfl := hE.trans HE0.out.symm
      clear hE
      unfold encEw vcells Ew.v at HXr
      simp only at HXr
      have HC := Lib.hid (HN.out wr ((HRD.out.below (by have h := HBr.out; rw [HG.out] at h; exact h) (Nat.le_refl _)).mono (by have h := HBr.out.size; omega)))
      have x4 := HXr.out.cell 4 _ rfl
      have x5 := HXr.out.cell 5 _ rfl
      have x6 := HXr.out.cell 6 _ rfl
      have x7 := HXr.out.cell 7 _ rfl
      go_wp2_with fail
      refine HC.out.mono ?_
      rintro e w3 ⟨A', c', rfl, ho, hb3⟩
      have hZ3 := HZr.out.below hb3 (by omega)
      have HB3 := Lib.hid (HBr.out.trans (hb3.mono (by omega)))
      have HO := Lib.hid ho
      have HZ3 := Lib.hid hZ3
      have z0 := hZ3.cell 0 _ rfl
      have z1 := hZ3.cell 1 _ rfl
      have z2 := hZ3.cell 2 _ rfl
      have z3 := hZ3.cell 3 _ rfl
      have f0 := hZ3.frozen 0
      have f1 := hZ3.frozen 1
      have f2 := hZ3.frozen 2
      have f3 := hZ3.frozen 3
      clear hZ3 ho hb3 x4 x5 x6 x7
      go_wp2_with fail
      have hZ8 := (((HZ3.out.put 0 (.int .i64 zg)).put 1 (.int .i64 zep)).put 2 (.int .i64 zrc)).put 3 (.slice A' zch.length c')
      simp only [List.set] at hZ8
      have R0 := hZ8.cell 0 _ rfl
      have R1 := hZ8.cell 1 _ rfl
      have R2 := hZ8.cell 2 _ rfl
      have R3 := hZ8.cell 3 _ rfl
      have ho := (((HO.out.off (p := ⟨g, 0, none⟩) (by simp; omega) (.int .i64 zg)).off (p := ⟨g, 1, none⟩) (by simp; omega) (.int .i64 zep)).off (p := ⟨g, 2, none⟩) (by simp; omega) (.int .i64 zrc)).off (p := ⟨g, 3, none⟩) (by simp; omega) (.slice A' zch.length c')
      refine bodyPost_ret (v := .agg #[.int .i64 zg, .int .i64 zep, .int .i64 zrc, .slice A' zch.length c']) (by simp [results, Try.results18, go_sem, R0, R1, R2, R3]) rfl ⟨_, rfl, OwnI.rdI ho, ?_⟩
      rw [← HG.out]
      exact (((HB3.out.setCell (p := ⟨g, 0, none⟩) (Nat.le_refl _) _).setCell (p := ⟨g, 1, none⟩) (Nat.le_refl _) _).setCell (p := ⟨g, 2, none⟩) (Nat.le_refl _) _).setCell (p := ⟨g, 3, none⟩) (Nat.le_refl _) _
end Go.Proofs.Ytjmojlhebjbgaaa
namespace Go.Proofs.Ytjmojlhebjbgaaa
open Go.RowKit

set_option maxHeartbeats 2000000 in
set_option maxRecDepth 100000 in
theorem eql_bal (a b : Int) (W : World) : (binOp .eql 23 (.agg #[.int .i64 a, .int .i64 b]) (.agg #[.int .i64 a, .int .i64 b])).run Try.prog W = .ok (.bool true) W := by
  go_simp
set_option maxHeartbeats 2000000 in
set_option maxRecDepth 100000 in
theorem rsameV_eq (x : Vw) (hl : x.took.chests.length < 4611686018427387904) (v1 v2 : Value) (w : World) (hv1 : RdI w w.heap.size v1 x.took.chests) (hv2 : RdI w w.heap.size v2 x.took.chests) :
    Calls Try.prog 16 #[vwv x v1, vwv x v2] w fun e w' => e = .returned (.bool true) ∧ Below w.heap.size w w' := by
  obtain ⟨⟨p1, p2⟩, ⟨a1, a2⟩, ⟨g, ep, rc, ch⟩⟩ := x
  simp only at hl hv1 hv2
  have hb : Below w.heap.size w ((w.alloc (.cells #[.int .i64 p1, .int .i64 p2, .int .i64 a1, .int .i64 a2, .int .i64 g, .int .i64 ep, .int .i64 rc, v1] 31)).alloc (.cells #[.int .i64 p1, .int .i64 p2, .int .i64 a1, .int .i64 a2, .int .i64 g, .int .i64 ep, .int .i64 rc, v2] 31)) := ((Below.refl _ w).alloc (Nat.le_refl _) _).alloc (by simp) _
  have hs := sameS_eq ⟨g, ep, rc, ch⟩ hl v1 v2 _ (hv1.next hb) (hv2.next hb)
  obtain ⟨A1, c1, rfl, _, _⟩ := hv1.at
  obtain ⟨A2, c2, rfl, _, _⟩ := hv2.at
  unfold sval at hs
  simp only at hs
  have HS := Lib.hid hs; clear hs
  have HB := Lib.hid hb; clear hb
  have e1 := fun W => eql_bal p1 p2 W
  have e2 := fun W => eql_bal a1 a2 W
  clear hv1 hv2
  unfold vwv
  simp only
  go_enter Try.func16, Try.ntmps16
  go_wp2_with fail
  refine HS.out.mono ?_
  rintro e w5 ⟨rfl, hb5⟩
  have HB5 := Lib.hid (HB.out.trans (hb5.mono (by simp; omega))); clear hb5
  go_wp2_with fail
  go_ret
  exact ⟨rfl, HB5.out⟩

set_option maxHeartbeats 2000000 in
set_option maxRecDepth 100000 in
theorem rsoundV_any (x : Vw) (hl : x.took.chests.length < 4611686018427387904) (v : Value) (w : World) (hv : RdI w w.heap.size v x.took.chests) :
    Calls Try.prog 29 #[vwv x v] w fun e w' => e = .returned (.bool (decide (soundV x))) ∧ Below w.heap.size w w' := by
  obtain ⟨⟨p1, p2⟩, ⟨a1, a2⟩, ⟨g, ep, rc, ch⟩⟩ := x
  simp only at hl hv
  obtain ⟨R, hR⟩ : ∃ R, R = decide (soundV ⟨(p1, p2), (a1, a2), ⟨g, ep, rc, ch⟩⟩) := ⟨_, rfl⟩
  rw [← hR]
  unfold soundV at hR
  simp only at hR
  have HNO := Lib.hid (fun h : ¬ _ => hR.trans (decide_eq_false h))
  have HYES := Lib.hid (fun h => hR.trans (decide_eq_true h))
  clear hR
  obtain ⟨w1, hw1⟩ : ∃ w1, w1 = w.alloc (.cells #[.int .i64 p1, .int .i64 p2, .int .i64 a1, .int .i64 a2, .int .i64 g, .int .i64 ep, .int .i64 rc, v] 31) := ⟨_, rfl⟩
  have hX : Whole w1 w.heap.size 31 [.int .i64 p1, .int .i64 p2, .int .i64 a1, .int .i64 a2, .int .i64 g, .int .i64 ep, .int .i64 rc, v] := by rw [hw1]; exact Whole.fresh w _ _
  have hb1 : Below w.heap.size w w1 := by rw [hw1]; exact (Below.refl _ w).alloc (Nat.le_refl _) _
  have hs := rsoundS_any ⟨g, ep, rc, ch⟩ hl v w1 (hv.next hb1)
  have hls := fun W => rless_any (p1, p2) (a1, a2) W
  obtain ⟨A, c, rfl, _, _⟩ := hv.at
  unfold sval at hs
  unfold blv at hls
  simp only at hs hls
  have HX := Lib.hid hX; clear hX
  have HB1 := Lib.hid hb1; clear hb1
  clear hv
  unfold vwv
  simp only
  have HQ := Lib.hid hs; clear hs
  have HL := Lib.hid hls; clear hls
  by_cases g0 : p1 < 0
  · have HN := Lib.hid (HNO.out (fun h => by have := h.1; omega))
    go_enter Try.func29, Try.ntmps29
    go_wp2_with fail
    rw [← hw1]
    go_ret
    exact ⟨by rw [HN.out]; rfl, HB1.out⟩
  by_cases g1 : p2 < 0
  · have HN := Lib.hid (HNO.out (fun h => by have := h.1; omega))
    go_enter Try.func29, Try.ntmps29
    go_wp2_with fail
    rw [← hw1]
    go_ret
    exact ⟨by rw [HN.out]; rfl, HB1.out⟩
  by_cases g2 : a1 < 0
  · have HN := Lib.hid (HNO.out (fun h => by have := h.1; omega))
    go_enter Try.func29, Try.ntmps29
    go_wp2_with fail
    rw [← hw1]
    go_ret
    exact ⟨by rw [HN.out]; rfl, HB1.out⟩
  by_cases g3 : a2 < 0
  · have HN := Lib.hid (HNO.out (fun h => by have := h.1; omega))
    go_enter Try.func29, Try.ntmps29
    go_wp2_with fail
    rw [← hw1]
    go_ret
    exact ⟨by rw [HN.out]; rfl, HB1.out⟩
  by_cases gs : soundS ⟨g, ep, rc, ch⟩
  case neg =>
    rw [decide_eq_false gs] at HQ
    have HN := Lib.hid (HNO.out (fun h => gs h.2.1))
    clear gs
    go_enter Try.func29, Try.ntmps29
    go_wp2_with fail
    rw [← hw1]
    refine HQ.out.mono ?_
    rintro e w5 ⟨rfl, hb5⟩
    have HB5 := Lib.hid (HB1.out.trans (hb5.mono (by have := HX.out.size; omega))); clear hb5
    go_wp2_with fail
    go_ret
    exact ⟨by rw [HN.out]; rfl, HB5.out⟩
  rw [decide_eq_true gs] at HQ
  obtain ⟨r, hr⟩ : ∃ r, r = lessB (p1, p2) (a1, a2) := ⟨_, rfl⟩
  rw [← hr] at HL
  have hRr : R = !r := by
    cases r with
    | true => exact HNO.out (fun h => by rw [← hr] at h; exact absurd h.2.2 (by simp))
    | false => exact HYES.out ⟨⟨by omega, by omega, by omega, by omega⟩, gs, hr.symm⟩
  have HR := Lib.hid hRr
  clear hRr hr gs
  go_enter Try.func29, Try.ntmps29
  go_wp2_with fail
  rw [← hw1]
  refine HQ.out.mono ?_
  rintro e w5 ⟨rfl, hb5⟩
  have hX5 := HX.out.below hb5 HX.out.size
  have HB5 := Lib.hid (HB1.out.trans (hb5.mono (by have := HX.out.size; omega))); clear hb5
  have x0 := hX5.cell 0 _ rfl
  have x1 := hX5.cell 1 _ rfl
  have x2 := hX5.cell 2 _ rfl
  have x3 := hX5.cell 3 _ rfl
  clear hX5 hw1
  go_wp2_with fail
  refine (HL.out w5).mono ?_
  rintro e w6 ⟨rfl, hb6⟩
  have HB6 := Lib.hid (HB5.out.trans (hb6.mono HB5.out.size)); clear hb6
  go_wp2_with fail
  go_ret
  exact ⟨by rw [HR.out]; rfl, HB6.out⟩
end Go.Proofs.Ytjmojlhebjbgaaa
namespace Go.Proofs.Ytjmojlhebjbgaaa
open Go.RowKit

set_option maxHeartbeats 2000000 in
set_option maxRecDepth 100000 in
theorem rnumsO_any (l : List Int) (hr : ∀ n ∈ l, n < 9223372036854775808) (v : Value) (w : World) (hv : RdI w w.heap.size v l) (hl : l.length < 4611686018427387904) :
    Calls Try.prog 30 #[v] w fun e w' => ∃ v', e = .returned (.tuple #[v', .int .i64 (numsAns l).2]) ∧ OwnB w' w.heap.size v' (numsAns l).1 ∧ Below w.heap.size w w' := by
  obtain ⟨A, c, rfl, hc, hi⟩ := hv.at
  by_cases hbig : l.length > 4096
  · rw [numsAns, if_pos hbig]
    have hb : (4096 : Int) < (l.length : Int) := by omega
    clear hi hv
    go_enter Try.func30, Try.ntmps30
    go_wp2_with fail
    go_ret2
    exact ⟨_, rfl, Own.nil _ _, Below.refl _ _⟩
  · obtain ⟨R, hR⟩ : ∃ R, R = numsAns l := ⟨_, rfl⟩
    rw [← hR]
    rw [numsAns, if_neg hbig] at hR
    have hb : ¬ (4096 : Int) < (l.length : Int) := by omega
    have HR := Lib.hid hR; clear hR
    have HI := Lib.hid hi; clear hi
    have HV := Lib.hid hv; clear hv
    have HH := Lib.hid hr; clear hr
    obtain ⟨g, hg⟩ : ∃ g, g = w.heap.size := ⟨_, rfl⟩
    have HG := Lib.hid hg; clear hg
    go_enter Try.func30, Try.ntmps30
    go_wp2_with fail
    go_loopw [4, 5] (fun ov iv wr => ∃ (i : Nat) (A' : Option Addr) (c' : Nat), i ≤ l.length ∧ iv = .int .i64 i ∧ ov = .slice A' (encs (l.take i)).length c' ∧ OwnB wr g (.slice A' (encs (l.take i)).length c') (encs (l.take i)) ∧ Below g w wr ∧ g ≤ wr.heap.size ∧ (l.take i).any (· < 0) = false) (fun _ iv _ => l.length - (intOf iv).toNat)
    case atStart => exact ⟨0, _, _, Nat.zero_le _, rfl, rfl, by rw [HG.out]; exact Own.empty _ _ (Nat.le_refl _), by rw [HG.out]; exact (Below.refl _ _).alloc (Nat.le_refl _) _, by rw [HG.out]; simp, rfl⟩
    case round =>
      obtain ⟨i, A', c', hil, rfl, rfl, ho, hbw, hgs, han⟩ := hrel
      have hel := encs_len (l.take i) (fun n hn => HH.out n (List.mem_of_mem_take hn))
      have hti : (l.take i).length ≤ i := by simp; omega
      have hel2 : (encs (l.take i)).length ≤ 36864 := by omega
      clear hti
      have HO := Lib.hid ho; clear ho
      have HB := Lib.hid hbw; clear hbw
      have HA := Lib.hid han; clear han
      clear hel
      by_cases hlt : i < l.length
      · obtain ⟨b, o, rfl, hbB, h1⟩ := HI.out i hlt
        have hx := HB.out.cell (p := ⟨b, o + i, none⟩) (by rw [HG.out]; exact hbB)
        rw [h1] at hx
        have hmem := HH.out l[i] (List.getElem_mem hlt)
        have htk : l.take (i + 1) = l.take i ++ [l[i]] := by rw [List.take_add_one, List.getElem?_eq_getElem hlt]; rfl
        have hany : l[i] < 0 → l.any (· < 0) = true := fun h => List.any_eq_true.2 ⟨l[i], List.getElem_mem hlt, by simpa using h⟩
        generalize l[i] = z at h1 hx hmem htk hany
        clear h1
        by_cases hz : z < 0
        · have hr := HR.out
          rw [if_pos (hany hz)] at hr
          have HR2 := Lib.hid hr; clear hr hany htk
          go_wp2_with fail
          go_ret2
          exact ⟨_, by rw [HR2.out]; rfl, by rw [HR2.out]; exact Own.nil _ _, by have h := HB.out; rw [HG.out] at h; exact h⟩
        · obtain ⟨n, rfl⟩ : ∃ n : Nat, z = (n : Int) := ⟨z.toNat, by omega⟩
          have hput := rput_any n (by omega) (encs (l.take i)) A' c' wr g HO.out hgs (by omega)
          have he : encs (l.take (i + 1)) = encs (l.take i) ++ enc n := by rw [htk, encs_append]; simp [encs]
          have ha : (l.take (i + 1)).any (· < 0) = false := by rw [htk, List.any_append, HA.out]; simp
          have HP := Lib.hid hput; clear hput
          have HE := Lib.hid he
          have HAA := Lib.hid ha
          clear he ha hany htk hz hmem
          go_wp2_with fail
          refine HP.out.mono ?_
          rintro e w2 ⟨A2, c2, rfl, ho2, hb2, hz2⟩
          have ho3 := ho2
          rw [← HE.out] at ho3
          have hln : (encs (l.take i) ++ enc n).length = (encs (l.take (i + 1))).length := by rw [HE.out]
          have HO2 := Lib.hid ho3
          have HB2 := Lib.hid (HB.out.trans hb2)
          have HLN := Lib.hid hln
          clear ho2 hb2 ho3 hln
          go_wp2_with fail
          go_roundw
          case rel => exact ⟨i + 1, A2, c2, by omega, by go_num, by rw [← HLN.out, List.length_append], HO2.out, HB2.out, hz2, HAA.out⟩
          case measure => simp [intOf]; omega
      · obtain rfl : i = l.length := by omega
        rw [List.take_length] at HO HA
        have hr := HR.out
        rw [HA.out, if_neg (by simp)] at hr
        have HR2 := Lib.hid hr; clear hr
        go_wp2_with fail
        go_ret2
        exact ⟨.slice A' (encs l).length c', by rw [HR2.out, List.take_length]; rfl, by rw [HR2.out]; have h := HO.out; rw [HG.out] at h; exact h, by have h := HB.out; rw [HG.out] at h; exact h⟩
theorem rnums_any (l : List Int) (hr : ∀ n ∈ l, n < 9223372036854775808) (v : Value) (w : World) (hv : RdI w w.heap.size v l) (hl : l.length < 4611686018427387904) :
    Calls Try.prog 30 #[v] w fun e w' => ∃ v', e = .returned (.tuple #[v', .int .i64 (numsAns l).2]) ∧ RdB w' w'.heap.size v' (numsAns l).1 ∧ Below w.heap.size w w' := by
  refine (rnumsO_any l hr v w hv hl).mono ?_
  rintro e w' ⟨v', h1, h2, h3⟩
  exact ⟨v', h1, h2.rdB, h3⟩
end Go.Proofs.Ytjmojlhebjbgaaa
namespace Go.Proofs.Ytjmojlhebjbgaaa
open Go.RowKit
attribute [local go_sem] less_eq same_eq le_eq ge_eq gt_eq

theorem FW.fresh (w : World) (base : Nat) (h : base ≤ w.heap.size) : FW (w.alloc (.cells #[.slice none 0 0] 78)) base w.heap.size [] :=
  ⟨none, 0, Whole.fresh w _ _, Own.nil _ _, h, by simp; omega⟩
theorem listB_len {α : Type} {f : α → List UInt8} {c : Nat} {l : List α} (hl : l.length < 9223372036854775808) (h : ∀ x ∈ l, (f x).length ≤ c) : (listB f l).length ≤ 9 + l.length * c := by
  have h1 := enc_len9 hl
  have h2 : ∀ l : List α, (∀ x ∈ l, (f x).length ≤ c) → (l.flatMap f).length ≤ l.length * c := by
    intro l
    induction l with
    | nil => simp
    | cons a r ih =>
      intro h
      have := ih fun x hx => h x (by simp [hx])
      have := h a (by simp)
      rw [List.flatMap_cons, List.length_append, List.length_cons, Nat.add_mul]
      omega
  have := h2 l h
  rw [listB, List.length_append]; omega
theorem okC {c : Chg} (h : checkAns c = 0) : 0 ≤ c.kind ∧ c.kind < 9223372036854775808 ∧ c.key.size ≤ 65536 ∧ c.val.size ≤ 65536 := by
  unfold checkAns at h
  split at h
  · split at h
    · cases h
    · omega
  · split at h
    · split at h
      · cases h
      · omega
    · split at h
      · split at h
        · cases h
        · omega
      · cases h

end Go.Proofs.Ytjmojlhebjbgaaa

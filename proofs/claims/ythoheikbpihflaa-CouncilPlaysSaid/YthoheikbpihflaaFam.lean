/- The program's ballots: Take. A council at its blocks: its book, its vow; what stays and what moves. The council's own calls: refuse, unsound. The council's keep: its book has a vow alone. The council's Vow; no council. -/
import Derived.Test.YthoheikbpihflaaFaj
import Derived.Test.YthoheikbpihflaaFah
import Derived.Test.YthoheikbpihflaaFak
import Derived.Test.YthoheikbpihflaaFal
namespace Go.Proofs.Ythoheikbpihflaa
open Go.RowKit

/-- what of Take's arguments the last region reads, and what it leaves as it is -/
def TakeS (g : Nat) (b1 b2 s1 s2 s3 : Int) (v : Value) (w0 : World) (W : World) : Prop := Whole W (g + 1) 32 [.int .i64 b1, .int .i64 b2] ∧ Whole W (g + 1 + 1) 35 [.int .i64 s1, .int .i64 s2, .int .i64 s3, v] ∧ Below g w0 W

set_option maxHeartbeats 4000000 in
set_option maxRecDepth 100000 in
theorem ptakeO_any (x : Vw) (b : Bal) (s : Sta) (v u : Value) (w : World) (hv : RdI w w.heap.size v x.took.chests) (hu : RdI w w.heap.size u s.chests) (hl : x.took.chests.length ≤ 17592186043904) (hm : s.chests.length ≤ 17592186043904) :
    Calls Try.prog 30 #[vwv x v, blv b, sval s u] w fun e w' => ∃ v', e = .returned (.tuple #[vwv (takeV x b s) v', .bool (!lessB b x.prom)]) ∧ OwnI w' w.heap.size v' (takeV x b s).took.chests ∧ Below w.heap.size w w' := by
  obtain ⟨A0, c0, rfl, _, _⟩ := hv.at
  obtain ⟨B0, d0, rfl, _, _⟩ := hu.at
  obtain ⟨⟨p1, p2⟩, ⟨a1, a2⟩, ⟨g, ep, rc, ch⟩⟩ := x
  obtain ⟨b1, b2⟩ := b
  obtain ⟨s1, s2, s3, sh⟩ := s
  have hl0 := fun W => pless_any (b1, b2) (p1, p2) W
  have hown := fun W h => own_any ⟨g, ep, rc, ch⟩ (.slice A0 ch.length c0) W h hl
  have hown2 := fun W h => own_any ⟨s1, s2, s3, sh⟩ (.slice B0 sh.length d0) W h hm
  unfold blv at hl0
  unfold sval at hown hown2
  simp only at hl0 hown hown2 hv hu
  have HL := Lib.hid hl0; clear hl0
  have HN := Lib.hid hown; clear hown
  have HN2 := Lib.hid hown2; clear hown2
  have HV := Lib.hid hv; clear hv
  have HU := Lib.hid hu; clear hu
  unfold vwv blv takeV sval
  simp only
  generalize lessB (b1, b2) (p1, p2) = r at HL ⊢
  obtain ⟨w1, hw1⟩ : ∃ w1, w1 = w.alloc (.cells #[.int .i64 p1, .int .i64 p2, .int .i64 a1, .int .i64 a2, .int .i64 g, .int .i64 ep, .int .i64 rc, .slice A0 ch.length c0] 37) := ⟨_, rfl⟩
  obtain ⟨w2, hw2⟩ : ∃ w2, w2 = w1.alloc (.cells #[.int .i64 b1, .int .i64 b2] 32) := ⟨_, rfl⟩
  obtain ⟨w3, hw3⟩ : ∃ w3, w3 = w2.alloc (.cells #[.int .i64 s1, .int .i64 s2, .int .i64 s3, .slice B0 sh.length d0] 35) := ⟨_, rfl⟩
  obtain ⟨w4, hw4⟩ : ∃ w4, w4 = w3.alloc (.cells #[.int .i64 0, .int .i64 0, .int .i64 0, .int .i64 0, .int .i64 0, .int .i64 0, .int .i64 0, .slice none 0 0] 37) := ⟨_, rfl⟩
  have hs1 : w1.heap.size = w.heap.size + 1 := by rw [hw1]; simp
  have hs2 : w2.heap.size = w.heap.size + 1 + 1 := by rw [hw2, World.size_alloc, hs1]
  have hs3 : w3.heap.size = w.heap.size + 1 + 1 + 1 := by rw [hw3, World.size_alloc, hs2]
  have hs4 : w4.heap.size = w.heap.size + 1 + 1 + 1 + 1 := by rw [hw4, World.size_alloc, hs3]
  have hX : Whole w4 w.heap.size 37 [.int .i64 p1, .int .i64 p2, .int .i64 a1, .int .i64 a2, .int .i64 g, .int .i64 ep, .int .i64 rc, .slice A0 ch.length c0] := by
    rw [hw4, hw3, hw2, hw1]; exact (((Whole.fresh w _ [.int .i64 p1, .int .i64 p2, .int .i64 a1, .int .i64 a2, .int .i64 g, .int .i64 ep, .int .i64 rc, .slice A0 ch.length c0]).alloc _).alloc _).alloc _
  have hY : Whole w4 (w.heap.size + 1) 32 [.int .i64 b1, .int .i64 b2] := by
    rw [hw4, hw3, hw2, ← hs1]; exact ((Whole.fresh w1 _ [_, _]).alloc _).alloc _
  have hU : Whole w4 (w.heap.size + 1 + 1) 35 [.int .i64 s1, .int .i64 s2, .int .i64 s3, .slice B0 sh.length d0] := by
    rw [hw4, hw3, ← hs2]; exact (Whole.fresh w2 _ [_, _, _, _]).alloc _
  have hZ : Whole w4 (w.heap.size + 1 + 1 + 1) 37 [.int .i64 0, .int .i64 0, .int .i64 0, .int .i64 0, .int .i64 0, .int .i64 0, .int .i64 0, .slice none 0 0] := by
    rw [hw4, ← hs3]; exact Whole.fresh w3 _ [.int .i64 0, .int .i64 0, .int .i64 0, .int .i64 0, .int .i64 0, .int .i64 0, .int .i64 0, .slice none 0 0]
  have hb4 : Below w.heap.size w w4 := by
    rw [hw4, hw3, hw2, hw1]; exact ((((Below.refl _ w).alloc (Nat.le_refl _) _).alloc (by simp) _).alloc (by simp; omega) _).alloc (by simp; omega) _
  have HX := Lib.hid hX; clear hX
  have HY := Lib.hid hY; clear hY
  have HU4 := Lib.hid hU; clear hU
  have HZ := Lib.hid hZ; clear hZ
  have HB4 := Lib.hid hb4; clear hb4
  have HS4 := Lib.hid hs4; clear hs4 hs1 hs2 hs3
  go_enter Try.func30, Try.ntmps30
  go_wp2_with fail
  rw [← hw1, ← hw2, ← hw3, ← hw4]
  clear hw1 hw2 hw3 hw4
  refine (HL.out w4).mono ?_
  rintro e w5 ⟨rfl, hb5⟩
  have hs4 := HS4.out
  have hX5 := HX.out.below hb5 (by omega)
  have hY5 := HY.out.below hb5 (by omega)
  have hU5 := HU4.out.below hb5 (by omega)
  have hZ5 := HZ.out.below hb5 (by omega)
  have hsz5 : w4.heap.size ≤ w5.heap.size := hb5.size
  have HB5 := Lib.hid (HB4.out.trans (hb5.mono (by omega)))
  have HSZ := Lib.hid hsz5
  clear hb5
  cases r with
  | true =>
    have HC := Lib.hid (HN.out w5 ((HV.out.below HB5.out (Nat.le_refl _)).mono HB5.out.size))
    have x4 := hX5.cell 4 _ rfl
    have x5 := hX5.cell 5 _ rfl
    have x6 := hX5.cell 6 _ rfl
    have x7 := hX5.cell 7 _ rfl
    have HX5 := Lib.hid hX5
    have HZ5 := Lib.hid hZ5
    clear hX5 hY5 hU5 hZ5 hs4
    go_wp2_with fail
    refine HC.out.mono ?_
    rintro e w6 ⟨A, c, rfl, ho, hb6⟩
    have hs4 := HS4.out
    have hX6 := HX5.out.below hb6 (by omega)
    have hZ6 := HZ5.out.below hb6 (by omega)
    have HB6 := Lib.hid (HB5.out.trans (hb6.mono (by omega)))
    have HO := Lib.hid ho
    have x0 := hX6.cell 0 _ rfl
    have x1 := hX6.cell 1 _ rfl
    have x2 := hX6.cell 2 _ rfl
    have x3 := hX6.cell 3 _ rfl
    have X0 := hX6.cell 4 _ rfl
    have k0 := hX6.frozen 4
    have X1 := hX6.cell 5 _ rfl
    have k1 := hX6.frozen 5
    have X2 := hX6.cell 6 _ rfl
    have k2 := hX6.frozen 6
    have X3 := hX6.cell 7 _ rfl
    have k3 := hX6.frozen 7
    have z0 := hZ6.cell 0 _ rfl
    have f0 := hZ6.frozen 0
    have z1 := hZ6.cell 1 _ rfl
    have f1 := hZ6.frozen 1
    have z2 := hZ6.cell 2 _ rfl
    have f2 := hZ6.frozen 2
    have z3 := hZ6.cell 3 _ rfl
    have f3 := hZ6.frozen 3
    have z4 := hZ6.cell 4 _ rfl
    have f4 := hZ6.frozen 4
    have z5 := hZ6.cell 5 _ rfl
    have f5 := hZ6.frozen 5
    have z6 := hZ6.cell 6 _ rfl
    have f6 := hZ6.frozen 6
    have z7 := hZ6.cell 7 _ rfl
    have f7 := hZ6.frozen 7
    have HZ6 := Lib.hid hZ6
    clear hX6 hZ6 ho hb6 x4 x5 x6 x7 hs4 hsz5
    go_wp2_with fail
    have hs4 := HS4.out
    have hz := HSZ.out
    have hZ8 := ((((((((((((HZ6.out.away (p := ⟨w.heap.size, 4, none⟩) (by simp; omega) (.int .i64 g)).away (p := ⟨w.heap.size, 5, none⟩) (by simp; omega) (.int .i64 ep)).away (p := ⟨w.heap.size, 6, none⟩) (by simp; omega) (.int .i64 rc)).away (p := ⟨w.heap.size, 7, none⟩) (by simp; omega) (.slice A ch.length c)).put 0 (.int .i64 p1)).put 1 (.int .i64 p2)).put 2 (.int .i64 a1)).put 3 (.int .i64 a2)).put 4 (.int .i64 g)).put 5 (.int .i64 ep)).put 6 (.int .i64 rc)).put 7 (.slice A ch.length c))
    simp only [List.set] at hZ8
    have R0 := hZ8.cell 0 _ rfl
    have R1 := hZ8.cell 1 _ rfl
    have R2 := hZ8.cell 2 _ rfl
    have R3 := hZ8.cell 3 _ rfl
    have R4 := hZ8.cell 4 _ rfl
    have R5 := hZ8.cell 5 _ rfl
    have R6 := hZ8.cell 6 _ rfl
    have R7 := hZ8.cell 7 _ rfl
    have ho := ((((((((((((HO.out.off (p := ⟨w.heap.size, 4, none⟩) (by simp; omega) (.int .i64 g)).off (p := ⟨w.heap.size, 5, none⟩) (by simp; omega) (.int .i64 ep)).off (p := ⟨w.heap.size, 6, none⟩) (by simp; omega) (.int .i64 rc)).off (p := ⟨w.heap.size, 7, none⟩) (by simp; omega) (.slice A ch.length c)).off (p := ⟨w.heap.size + 1 + 1 + 1, 0, none⟩) (by simp; omega) (.int .i64 p1)).off (p := ⟨w.heap.size + 1 + 1 + 1, 1, none⟩) (by simp; omega) (.int .i64 p2)).off (p := ⟨w.heap.size + 1 + 1 + 1, 2, none⟩) (by simp; omega) (.int .i64 a1)).off (p := ⟨w.heap.size + 1 + 1 + 1, 3, none⟩) (by simp; omega) (.int .i64 a2)).off (p := ⟨w.heap.size + 1 + 1 + 1, 4, none⟩) (by simp; omega) (.int .i64 g)).off (p := ⟨w.heap.size + 1 + 1 + 1, 5, none⟩) (by simp; omega) (.int .i64 ep)).off (p := ⟨w.heap.size + 1 + 1 + 1, 6, none⟩) (by simp; omega) (.int .i64 rc)).off (p := ⟨w.heap.size + 1 + 1 + 1, 7, none⟩) (by simp; omega) (.slice A ch.length c))
    exact bodyPost_ret (v := .tuple #[.agg #[.int .i64 p1, .int .i64 p2, .int .i64 a1, .int .i64 a2, .int .i64 g, .int .i64 ep, .int .i64 rc, .slice A ch.length c], .bool false]) (by simp [results, Try.results30, go_sem, R0, R1, R2, R3, R4, R5, R6, R7]) rfl ⟨.slice A ch.length c, rfl, Own.lower ho (by omega), by (repeat (refine Below.setCell ?_ (by simp; try omega) _)); exact HB6.out⟩
  | false =>
    have HU5 := Lib.hid ((HU.out.below HB5.out (Nat.le_refl _)).mono HB5.out.size)
    have hS : TakeS w.heap.size b1 b2 s1 s2 s3 (.slice B0 sh.length d0) w w5.drew := ⟨hY5, hU5, HB5.out.drew⟩
    have HZ5 := Lib.hid (show Whole w5.drew (w.heap.size + 1 + 1 + 1) 37 _ from hZ5)
    have HC := Lib.hid (HN2.out w5.drew HU5.out)
    have HD := Lib.hid (show w4.heap.size ≤ w5.drew.heap.size from hsz5)
    go_wp2_with fail
    refine wp_region_plan (S := TakeS w.heap.size b1 b2 s1 s2 s3 (.slice B0 sh.length d0) w) [(true, 0), (true, 1), (true, 2), (false, 3), (true, 4), (false, 5), (true, 6)] (by kernel_rfl) (by kernel_rfl) (fun _ _ d _ _ h => by cases d <;> exact h) hS ?_
    clear hX5 hY5 hU5 hZ5
    generalize w5.drew = w6 at hS HZ5 HC HD ⊢
    have HS := Lib.hid hS; clear hS
    iterate 3 (refine Plan.take (v := ?_) rfl rfl ?_ ?_; rotate_left; (focus (intro W hW; have y0 := hW.1.cell 0 _ rfl; have y1 := hW.1.cell 1 _ rfl; have u0 := hW.2.1.cell 0 _ rfl; have u1 := hW.2.1.cell 1 _ rfl; have u2 := hW.2.1.cell 2 _ rfl; have u3 := hW.2.1.cell 3 _ rfl; go_simp; (try with_reducible rfl); done)); (try simp only [Act.put, List.setIfInBounds_toArray, List.set_cons_zero, List.set_cons_succ]))
    refine Plan.step rfl rfl (fun Kk hK => ?_)
    go_simp
    refine HC.out.mono ?_
    rintro e w7 ⟨A, c, rfl, ho, hb7⟩
    have hs4 := HS4.out
    have hz6 := HD.out
    have hS7 : TakeS w.heap.size b1 b2 s1 s2 s3 (.slice B0 sh.length d0) w w7 := ⟨HS.out.1.below hb7 (by omega), HS.out.2.1.below hb7 (by omega), HS.out.2.2.trans (hb7.mono (by omega))⟩
    refine hK.out _ _ hS7 ?_
    have hZ7 := HZ5.out.below hb7 (by omega)
    have HO := Lib.hid ho
    have HS7 := Lib.hid hS7
    clear hK Kk hb7 ho hS7
    (try simp only [Act.put, List.setIfInBounds_toArray, List.set_cons_zero, List.set_cons_succ])
    refine Plan.take (v := ?_) rfl rfl ?_ ?_; rotate_left; (focus (intro W hW; go_simp; (try with_reducible rfl); done)); (try simp only [Act.put, List.setIfInBounds_toArray, List.set_cons_zero, List.set_cons_succ])
    have z0 := hZ7.cell 0 _ rfl
    have f0 := hZ7.frozen 0
    have z1 := hZ7.cell 1 _ rfl
    have f1 := hZ7.frozen 1
    have z2 := hZ7.cell 2 _ rfl
    have f2 := hZ7.frozen 2
    have z3 := hZ7.cell 3 _ rfl
    have f3 := hZ7.frozen 3
    have z4 := hZ7.cell 4 _ rfl
    have f4 := hZ7.frozen 4
    have z5 := hZ7.cell 5 _ rfl
    have f5 := hZ7.frozen 5
    have z6 := hZ7.cell 6 _ rfl
    have f6 := hZ7.frozen 6
    have z7 := hZ7.cell 7 _ rfl
    have f7 := hZ7.frozen 7
    have HZ7 := Lib.hid hZ7
    clear hZ7
    refine Plan.step rfl rfl (fun Kk hK => ?_)
    go_simp
    have hb8 : Below w.heap.size w ((((((((w7.setCell ⟨w.heap.size + 1 + 1 + 1, 0, none⟩ (.int .i64 b1)).setCell ⟨w.heap.size + 1 + 1 + 1, 1, none⟩ (.int .i64 b2)).setCell ⟨w.heap.size + 1 + 1 + 1, 2, none⟩ (.int .i64 b1)).setCell ⟨w.heap.size + 1 + 1 + 1, 3, none⟩ (.int .i64 b2)).setCell ⟨w.heap.size + 1 + 1 + 1, 4, none⟩ (.int .i64 s1)).setCell ⟨w.heap.size + 1 + 1 + 1, 5, none⟩ (.int .i64 s2)).setCell ⟨w.heap.size + 1 + 1 + 1, 6, none⟩ (.int .i64 s3)).setCell ⟨w.heap.size + 1 + 1 + 1, 7, none⟩ (.slice A sh.length c)) := by (repeat (refine Below.setCell ?_ (by simp; try omega) _)); exact HS7.out.2.2
    have hS8 : TakeS w.heap.size b1 b2 s1 s2 s3 (.slice B0 sh.length d0) w ((((((((w7.setCell ⟨w.heap.size + 1 + 1 + 1, 0, none⟩ (.int .i64 b1)).setCell ⟨w.heap.size + 1 + 1 + 1, 1, none⟩ (.int .i64 b2)).setCell ⟨w.heap.size + 1 + 1 + 1, 2, none⟩ (.int .i64 b1)).setCell ⟨w.heap.size + 1 + 1 + 1, 3, none⟩ (.int .i64 b2)).setCell ⟨w.heap.size + 1 + 1 + 1, 4, none⟩ (.int .i64 s1)).setCell ⟨w.heap.size + 1 + 1 + 1, 5, none⟩ (.int .i64 s2)).setCell ⟨w.heap.size + 1 + 1 + 1, 6, none⟩ (.int .i64 s3)).setCell ⟨w.heap.size + 1 + 1 + 1, 7, none⟩ (.slice A sh.length c)) := ⟨((((((((HS7.out.1.away (p := ⟨w.heap.size + 1 + 1 + 1, 0, none⟩) (by simp) (.int .i64 b1)).away (p := ⟨w.heap.size + 1 + 1 + 1, 1, none⟩) (by simp) (.int .i64 b2)).away (p := ⟨w.heap.size + 1 + 1 + 1, 2, none⟩) (by simp) (.int .i64 b1)).away (p := ⟨w.heap.size + 1 + 1 + 1, 3, none⟩) (by simp) (.int .i64 b2)).away (p := ⟨w.heap.size + 1 + 1 + 1, 4, none⟩) (by simp) (.int .i64 s1)).away (p := ⟨w.heap.size + 1 + 1 + 1, 5, none⟩) (by simp) (.int .i64 s2)).away (p := ⟨w.heap.size + 1 + 1 + 1, 6, none⟩) (by simp) (.int .i64 s3)).away (p := ⟨w.heap.size + 1 + 1 + 1, 7, none⟩) (by simp) (.slice A sh.length c)), ((((((((HS7.out.2.1.away (p := ⟨w.heap.size + 1 + 1 + 1, 0, none⟩) (by simp) (.int .i64 b1)).away (p := ⟨w.heap.size + 1 + 1 + 1, 1, none⟩) (by simp) (.int .i64 b2)).away (p := ⟨w.heap.size + 1 + 1 + 1, 2, none⟩) (by simp) (.int .i64 b1)).away (p := ⟨w.heap.size + 1 + 1 + 1, 3, none⟩) (by simp) (.int .i64 b2)).away (p := ⟨w.heap.size + 1 + 1 + 1, 4, none⟩) (by simp) (.int .i64 s1)).away (p := ⟨w.heap.size + 1 + 1 + 1, 5, none⟩) (by simp) (.int .i64 s2)).away (p := ⟨w.heap.size + 1 + 1 + 1, 6, none⟩) (by simp) (.int .i64 s3)).away (p := ⟨w.heap.size + 1 + 1 + 1, 7, none⟩) (by simp) (.slice A sh.length c)), hb8⟩
    refine hK.out _ _ hS8 ?_
    clear hK Kk z0 f0 z1 f1 z2 f2 z3 f3 z4 f4 z5 f5 z6 f6 z7 f7
    have hZ8 := ((((((((HZ7.out.put 0 (.int .i64 b1)).put 1 (.int .i64 b2)).put 2 (.int .i64 b1)).put 3 (.int .i64 b2)).put 4 (.int .i64 s1)).put 5 (.int .i64 s2)).put 6 (.int .i64 s3)).put 7 (.slice A sh.length c))
    simp only [List.set] at hZ8
    have ho8 := ((((((((HO.out.off (p := ⟨w.heap.size + 1 + 1 + 1, 0, none⟩) (by simp; omega) (.int .i64 b1)).off (p := ⟨w.heap.size + 1 + 1 + 1, 1, none⟩) (by simp; omega) (.int .i64 b2)).off (p := ⟨w.heap.size + 1 + 1 + 1, 2, none⟩) (by simp; omega) (.int .i64 b1)).off (p := ⟨w.heap.size + 1 + 1 + 1, 3, none⟩) (by simp; omega) (.int .i64 b2)).off (p := ⟨w.heap.size + 1 + 1 + 1, 4, none⟩) (by simp; omega) (.int .i64 s1)).off (p := ⟨w.heap.size + 1 + 1 + 1, 5, none⟩) (by simp; omega) (.int .i64 s2)).off (p := ⟨w.heap.size + 1 + 1 + 1, 6, none⟩) (by simp; omega) (.int .i64 s3)).off (p := ⟨w.heap.size + 1 + 1 + 1, 7, none⟩) (by simp; omega) (.slice A sh.length c))
    (try simp only [Act.put, List.setIfInBounds_toArray, List.set_cons_zero, List.set_cons_succ])
    refine Plan.take (v := ?_) rfl rfl ?_ ?_; rotate_left; (focus (intro W hW; go_simp; (try with_reducible rfl); done)); (try simp only [Act.put, List.setIfInBounds_toArray, List.set_cons_zero, List.set_cons_succ])
    simp only [Plan]
    generalize ((((((((w7.setCell ⟨w.heap.size + 1 + 1 + 1, 0, none⟩ (.int .i64 b1)).setCell ⟨w.heap.size + 1 + 1 + 1, 1, none⟩ (.int .i64 b2)).setCell ⟨w.heap.size + 1 + 1 + 1, 2, none⟩ (.int .i64 b1)).setCell ⟨w.heap.size + 1 + 1 + 1, 3, none⟩ (.int .i64 b2)).setCell ⟨w.heap.size + 1 + 1 + 1, 4, none⟩ (.int .i64 s1)).setCell ⟨w.heap.size + 1 + 1 + 1, 5, none⟩ (.int .i64 s2)).setCell ⟨w.heap.size + 1 + 1 + 1, 6, none⟩ (.int .i64 s3)).setCell ⟨w.heap.size + 1 + 1 + 1, 7, none⟩ (.slice A sh.length c)) = w8 at hZ8 ho8 hb8 ⊢
    have R0 := hZ8.cell 0 _ rfl
    have R1 := hZ8.cell 1 _ rfl
    have R2 := hZ8.cell 2 _ rfl
    have R3 := hZ8.cell 3 _ rfl
    have R4 := hZ8.cell 4 _ rfl
    have R5 := hZ8.cell 5 _ rfl
    have R6 := hZ8.cell 6 _ rfl
    have R7 := hZ8.cell 7 _ rfl
    have HO8 := Lib.hid ho8
    have HB8 := Lib.hid hb8
    clear hS8 ho8 hb8 hZ8
    go_wp2_with fail
    exact bodyPost_ret (v := .tuple #[.agg #[.int .i64 b1, .int .i64 b2, .int .i64 b1, .int .i64 b2, .int .i64 s1, .int .i64 s2, .int .i64 s3, .slice A sh.length c], .bool true]) (by simp [results, Try.results30, go_sem, R0, R1, R2, R3, R4, R5, R6, R7]) rfl ⟨.slice A sh.length c, rfl, Own.lower HO8.out (by omega), HB8.out⟩
set_option maxRecDepth 100000 in
theorem ptake_any (x : Vw) (b : Bal) (s : Sta) (v u : Value) (w : World) (hv : RdI w w.heap.size v x.took.chests) (hu : RdI w w.heap.size u s.chests) (hl : x.took.chests.length ≤ 17592186043904) (hm : s.chests.length ≤ 17592186043904) :
    Calls Try.prog 30 #[vwv x v, blv b, sval s u] w fun e w' => ∃ v', e = .returned (.tuple #[vwv (takeV x b s) v', .bool (!lessB b x.prom)]) ∧ RdI w' w'.heap.size v' (takeV x b s).took.chests ∧ Below w.heap.size w w' := by
  refine (ptakeO_any x b s v u w hv hu hl hm).mono ?_
  rintro e w' ⟨v', rfl, ho, hb⟩
  exact ⟨v', rfl, OwnI.rdI ho, hb⟩
end Go.Proofs.Ythoheikbpihflaa
namespace Go.Proofs.Ythoheikbpihflaa
open Go.RowKit

theorem OwnI.mv {D : Nat → Prop} {w w' : World} {base : Nat} {v : Value} {l : List Int} (h : OwnI w base v l) (hm : Mv D w w') (hn : ∀ g, v.ownBlock = some g → ¬ D g) : OwnI w' base v l := by
  refine ⟨h.1, ?_⟩
  rcases h.2 with h2 | ⟨g, cap, cur, rfl, hb, hh, r⟩
  · exact .inl h2
  · exact .inr ⟨g, cap, cur, rfl, hb, (hm.block g (Array.getElem?_eq_some_iff.1 hh).1 (hn g rfl)).trans hh, r⟩
theorem OwnI.low {w : World} {base : Nat} {v : Value} {l : List Int} (h : OwnI w base v l) {g : Nat} (hg : v.ownBlock = some g) : base ≤ g ∧ g < w.heap.size := by
  rcases h.form with ⟨e, _⟩ | ⟨g2, cap, e, hb, hs, _⟩
  · rw [e] at hg; simp [Value.ownBlock] at hg
  · rw [e] at hg
    have : g2 = g := by simpa [Value.ownBlock] using hg
    subst this
    exact ⟨hb, hs⟩
/-- a council at block q, its book at block qb, its vow's chests in a slice of its own; the tape at block p; its blocks and the tape's are among G -/
structure CoIs (w : World) (base q p qb : Nat) (Gb G : Nat → Prop) (c : Co) (A : Option Addr) (n : Nat) : Prop where
  at_ : Whole w q 63 [.pointer (some ⟨qb, 0, none⟩), .int .i64 c.v.prom.1, .int .i64 c.v.prom.2, .int .i64 c.v.at'.1, .int .i64 c.v.at'.2, .int .i64 c.v.took.gen, .int .i64 c.v.took.epoch, .int .i64 c.v.took.recd, .slice A c.v.took.chests.length n, .bool c.dead]
  bk : BkAt w base qb p Gb c.b
  own : OwnI w base (.slice A c.v.took.chests.length n) c.v.took.chests
  ok : c.Ok
  nq : ¬ Gb q
  no : ∀ g, Value.ownBlock (.slice A c.v.took.chests.length n) = some g → ¬ Gb g ∧ g ≠ q
  gq : G q
  gb : ∀ i, Gb i → G i
  go : ∀ g, Value.ownBlock (.slice A c.v.took.chests.length n) = some g → G g
  low : base ≤ w.heap.size ∧ ∀ i, G i → base ≤ i ∧ i < w.heap.size
theorem CoIs.mv {w w' : World} {base q p qb : Nat} {Gb G : Nat → Prop} {c : Co} {A : Option Addr} {n : Nat} {D : Nat → Prop} (h : CoIs w base q p qb Gb G c A n) (hm : Mv D w w') (hn : ∀ i, G i → ¬ D i) : CoIs w' base q p qb Gb G c A n :=
  ⟨hm.whole h.at_ (hn q h.gq), h.bk.mv hm (fun i hi => hn i (h.gb i hi)), h.own.mv hm (fun g hg => hn g (h.go g hg)), h.ok, h.nq, h.no, h.gq, h.gb, h.go, Nat.le_trans h.low.1 hm.size, fun i hi => ⟨(h.low.2 i hi).1, Nat.lt_of_lt_of_le (h.low.2 i hi).2 hm.size⟩⟩
def CoAt (w : World) (base q p : Nat) (G : Nat → Prop) (c : Co) : Prop := ∃ qb Gb A n, CoIs w base q p qb Gb G c A n
section
variable {w w' : World} {base q p : Nat} {G : Nat → Prop} {c : Co}
theorem CoAt.low (h : CoAt w base q p G c) : base ≤ w.heap.size ∧ ∀ i, G i → base ≤ i ∧ i < w.heap.size := by
  obtain ⟨qb, Gb, A, n, h⟩ := h
  exact h.low
theorem CoAt.ok (h : CoAt w base q p G c) : c.Ok := by
  obtain ⟨qb, Gb, A, n, h⟩ := h
  exact h.ok
theorem CoAt.mv {D : Nat → Prop} (h : CoAt w base q p G c) (hm : Mv D w w') (hn : ∀ i, G i → ¬ D i) : CoAt w' base q p G c := by
  obtain ⟨qb, Gb, A, n, h⟩ := h
  exact ⟨qb, Gb, A, n, hm.whole h.at_ (hn q h.gq), h.bk.mv hm (fun i hi => hn i (h.gb i hi)), h.own.mv hm (fun g hg => hn g (h.go g hg)), h.ok, h.nq, h.no, h.gq, h.gb, h.go, Nat.le_trans h.low.1 hm.size, fun i hi => ⟨(h.low.2 i hi).1, Nat.lt_of_lt_of_le (h.low.2 i hi).2 hm.size⟩⟩
theorem CoAt.tape (h : CoAt w base q p G c) : ∃ ov, TapeAt w base p ov c.t ∧ ∀ i, TapeD p ov i → G i := by
  obtain ⟨qb, Gb, A, n, h⟩ := h
  obtain ⟨ov, ht, hd⟩ := h.bk.tape
  exact ⟨ov, ht, fun i hi => h.gb i (hd i hi)⟩
theorem CoAt.fail {n : Int} {ov : Option Nat} (h : CoAt w base q p G c) (ht : TapeAt w base p ov c.t) (hw : Went w w' base p ov (c.t.fail n) ov) : ∃ G', CoAt w' base q p G' { c with left := n } ∧ ∀ i, G' i → G i ∨ w.heap.size ≤ i := by
  obtain ⟨qb, Gb, A, k, h⟩ := h
  obtain ⟨ov2, ht2, hd⟩ := h.bk.tape
  have e : ov = ov2 := ht.uniq (show TapeAt w base p ov2 c.t from ht2)
  subst e
  obtain ⟨Gb', hb', hG'⟩ := h.bk.went (show TapeAt w base p ov c.b.t from ht) hw
  have hm := hw.moved
  have hmq : ¬ TapeD p ov q := fun hq => h.nq (hd q hq)
  have hout : ∀ g, ¬ Gb g → g < w.heap.size → ¬ Gb' g := fun g hg hs hg' => by
    rcases hG' g hg' with k | k
    · exact hg k
    · omega
  refine ⟨fun i => G i ∨ Gb' i, ⟨qb, Gb', A, k, hm.whole h.at_ hmq, hb', h.own.mv hm (fun g hg hd2 => (h.no g hg).1 (hd g hd2)), Co.fail_ok h.ok n, hout q h.nq h.at_.size, fun g hg => ⟨hout g (h.no g hg).1 (h.own.low hg).2, (h.no g hg).2⟩, .inl h.gq, fun i hi => .inr hi, fun g hg => .inl (h.go g hg), Nat.le_trans h.low.1 hm.size, ?_⟩, ?_⟩
  · rintro i (hi | hi)
    · exact ⟨(h.low.2 i hi).1, Nat.lt_of_lt_of_le (h.low.2 i hi).2 hm.size⟩
    · exact hb'.low.2 i hi
  · rintro i (hi | hi)
    · exact .inl hi
    · rcases hG' i hi with k | k
      · exact .inl (h.gb i k)
      · exact .inr k
end

/-- behind a call of its book, and a store into it -/
theorem CoIs.stored {w w4 w5 : World} {base q p qb s3 : Nat} {Gb Gb' G : Nat → Prop} {c c' : Co} {A B : Option Addr} {n m : Nat} (h : CoIs w base q p qb Gb G c A n) (hmb : Mv Gb w w4) (hbk : BkAt w4 base qb p Gb' c'.b) (hGb : ∀ i, Gb' i → Gb i ∨ s3 ≤ i) (hs3 : w.heap.size ≤ s3) (hm5 : Mv (fun i => i = q) w4 w5)
    (hq5 : Whole w5 q 63 [.pointer (some ⟨qb, 0, none⟩), .int .i64 c'.v.prom.1, .int .i64 c'.v.prom.2, .int .i64 c'.v.at'.1, .int .i64 c'.v.at'.2, .int .i64 c'.v.took.gen, .int .i64 c'.v.took.epoch, .int .i64 c'.v.took.recd, .slice B c'.v.took.chests.length m, .bool c'.dead])
    (hown : OwnI w4 base (.slice B c'.v.took.chests.length m) c'.v.took.chests) (hno : ∀ g, Value.ownBlock (.slice B c'.v.took.chests.length m) = some g → ¬ Gb' g ∧ g ≠ q) (hok : c'.Ok) :
    ∃ G', CoAt w5 base q p G' c' ∧ (∀ i, G' i → G i ∨ Value.ownBlock (.slice B c'.v.took.chests.length m) = some i ∨ w.heap.size ≤ i) ∧ Mv G w w5 := by
  have hnq : ¬ Gb' q := fun hg => by
    rcases hGb q hg with k | k
    · exact h.nq k
    · have := h.at_.size; omega
  have hsz : w4.heap.size ≤ w5.heap.size := hm5.size
  refine ⟨fun i => G i ∨ Gb' i ∨ Value.ownBlock (.slice B c'.v.took.chests.length m) = some i, ⟨qb, Gb', B, m, hq5, hbk.mv hm5 (fun i hi e => hnq (e ▸ hi)), hown.mv hm5 (fun g hg e => (hno g hg).2 e), hok, hnq, hno, .inl h.gq, fun i hi => .inr (.inl hi), fun g hg => .inr (.inr hg), Nat.le_trans h.low.1 (Nat.le_trans hmb.size hsz), ?_⟩, ?_, (hmb.mono (fun i _ hi => h.gb i hi)).trans hm5 (fun i _ e => e ▸ h.gq)⟩
  · rintro i (hi | hi | hi)
    · exact ⟨(h.low.2 i hi).1, Nat.lt_of_lt_of_le (h.low.2 i hi).2 (Nat.le_trans hmb.size hsz)⟩
    · exact ⟨(hbk.low.2 i hi).1, Nat.lt_of_lt_of_le (hbk.low.2 i hi).2 hsz⟩
    · exact ⟨(hown.low hi).1, Nat.lt_of_lt_of_le (hown.low hi).2 hsz⟩
  · rintro i (hi | hi | hi)
    · exact .inl hi
    · rcases hGb i hi with k | k
      · exact .inl (h.gb i k)
      · exact .inr (.inr (Nat.le_trans hs3 k))
    · exact .inr (.inl hi)
theorem NewV.own {w w' : World} {G : Nat → Prop} {v : Value} {x : Vw} {s : Nat} (h : OwnI w' s v x.took.chests) (hs : w.heap.size ≤ s) (hG : ∀ i, G i → i < s) : NewV w w' G v x :=
  RdG.own (e := 3) encI_len h (fun b hb _ _ hg => by
    rcases hg with hg | hg
    · omega
    · have := hG b hg; omega)
/-- one record in a list of its own -/
theorem RdRs.one {w : World} {G : Nat → Prop} {A : Option Addr} {c : Nat} {l : List UInt8} (h : RdBG w w.heap.size G (.slice A l.length c) l) (hG : ∀ i, G i → i < w.heap.size) : RdRs (w.alloc (.cells #[.slice A l.length c] 56)) (w.heap.size + 1) G (.slice (some ⟨w.heap.size, 0, none⟩) 1 1) [⟨A, c, l⟩] := by
  have hm : Mv (fun _ => False) w (w.alloc (.cells #[.slice A l.length c] 56)) := (Mv.refl _ w).alloc _
  refine ⟨⟨some ⟨w.heap.size, 0, none⟩, 1, rfl, Nat.le_refl _, fun i hi => ⟨w.heap.size, 0, rfl, Nat.lt_succ_self _, fun hg => ?_, ?_⟩⟩, fun r hr => ?_⟩
  · have := hG _ hg; omega
  · obtain rfl : i = 0 := by simpa using hi
    exact (Whole.fresh w 56 [.slice A l.length c]).cell 0 _ rfl
  · simp only [List.mem_cons, List.not_mem_nil, or_false] at hr
    rw [hr]
    exact (h.mv hm (Nat.le_refl _) (fun _ _ e => e.elim)).mono (Nat.le_succ _) (fun _ _ hg => hg)
theorem encV_sound {x : Vw} (h : soundV x) : encV x = (vowB x, 0) := by unfold encV; rw [if_pos h]
end Go.Proofs.Ythoheikbpihflaa
namespace Go.Proofs.Ythoheikbpihflaa
open Go.RowKit
attribute [local go_sem] less_eq same_eq le_eq ge_eq gt_eq

set_option maxHeartbeats 2000000 in
set_option maxRecDepth 100000 in
theorem cmay_none (b : Bal) (w : World) : Calls Try.prog 26 #[.pointer none, blv b] w fun e w' => e = .returned (.int .i64 1) ∧ Below w.heap.size w w' := by
  unfold blv
  go_enter Try.func26, Try.ntmps26
  go_wp2_with fail
  go_ret
  exact ⟨rfl, (Below.refl _ w).alloc (Nat.le_refl _) _⟩
/-- what refuse says -/
def mayC (dead : Bool) (b : Bal) : Int := if dead then 11 else if b.1 < 0 ∨ b.2 < 0 then 1 else 0
set_option maxHeartbeats 2000000 in
set_option maxRecDepth 100000 in
theorem cmay_any (q : Nat) (dead : Bool) (b : Bal) (w : World) (h : w.cell? ⟨q, 9, none⟩ = some (.bool dead)) (hq : q < w.heap.size) : Calls Try.prog 26 #[.pointer (some ⟨q, 0, none⟩), blv b] w fun e w' => e = .returned (.int .i64 (mayC dead b)) ∧ Below w.heap.size w w' := by
  obtain ⟨b1, b2⟩ := b
  have h9 : (w.alloc (.cells #[.int .i64 b1, .int .i64 b2] 32)).cell? ⟨q, 9, none⟩ = some (.bool dead) := (((Below.refl w.heap.size w).alloc (Nat.le_refl _) _).cell (p := ⟨q, 9, none⟩) hq).trans h
  obtain ⟨r, hr⟩ : ∃ r, r = mayC dead (b1, b2) := ⟨_, rfl⟩
  rw [← hr]
  unfold mayC at hr
  unfold blv
  simp only at hr ⊢
  clear h
  cases dead with
  | true =>
    rw [if_pos rfl] at hr
    subst hr
    go_enter Try.func26, Try.ntmps26
    go_wp2_with fail
    go_ret
    exact ⟨rfl, (Below.refl _ w).alloc (Nat.le_refl _) _⟩
  | false =>
    rw [if_neg (by decide)] at hr
    by_cases g1 : b1 < 0
    · rw [if_pos (.inl g1)] at hr
      subst hr
      go_enter Try.func26, Try.ntmps26
      go_wp2_with fail
      go_ret
      exact ⟨rfl, (Below.refl _ w).alloc (Nat.le_refl _) _⟩
    by_cases g2 : b2 < 0
    · rw [if_pos (.inr g2)] at hr
      subst hr
      go_enter Try.func26, Try.ntmps26
      go_wp2_with fail
      go_ret
      exact ⟨rfl, (Below.refl _ w).alloc (Nat.le_refl _) _⟩
    rw [if_neg (by omega)] at hr
    subst hr
    go_enter Try.func26, Try.ntmps26
    go_wp2_with fail
    go_ret
    exact ⟨rfl, (Below.refl _ w).alloc (Nat.le_refl _) _⟩

set_option maxHeartbeats 2000000 in
set_option maxRecDepth 100000 in
theorem cunsound_any (x : Sta) (hr : x.gen < 9223372036854775808 ∧ x.epoch < 9223372036854775808 ∧ x.recd < 9223372036854775808) (hft : x.chests.length < 4611686018427387904) (v : Value) (w : World) (hv : RdI w w.heap.size v x.chests) :
    Calls Try.prog 29 #[sval x v] w fun e w' => e = .returned (.bool (decide ¬ soundS x)) ∧ Below w.heap.size w w' := by
  obtain ⟨D, d, rfl, -, -⟩ := hv.at
  obtain ⟨w1, hw1⟩ : ∃ w1, w1 = w.alloc (.cells #[.int .i64 x.gen, .int .i64 x.epoch, .int .i64 x.recd, .slice D x.chests.length d] 35) := ⟨_, rfl⟩
  have hb1 : Below w.heap.size w w1 := by rw [hw1]; exact (Below.refl _ w).alloc (Nat.le_refl _) _
  have hT1 : Whole w1 w.heap.size 35 [.int .i64 x.gen, .int .i64 x.epoch, .int .i64 x.recd, .slice D x.chests.length d] := by rw [hw1]; exact Whole.fresh w _ [_, _, _, _]
  have hput := pputS_any x hr hft (.slice D x.chests.length d) w1 (hv.next hb1)
  have hK : (soundS x ∧ (putSta x).2 = 0 ∧ decide (¬ soundS x) = false) ∨ (¬ soundS x ∧ (putSta x).2 = 2 ∧ decide (¬ soundS x) = true) := by
    unfold putSta
    by_cases hs : soundS x
    · rw [if_pos hs]; exact .inl ⟨hs, rfl, by simpa using hs⟩
    · rw [if_neg hs]; exact .inr ⟨hs, rfl, by simpa using hs⟩
  obtain ⟨K, hk⟩ : ∃ K, K = (putSta x).2 := ⟨_, rfl⟩
  obtain ⟨U, hu⟩ : ∃ U, U = decide (¬ soundS x) := ⟨_, rfl⟩
  rw [← hk, ← hu] at hK
  rw [← hk] at hput
  rw [← hu]
  unfold sval at hput ⊢
  have HP := Lib.hid hput
  have HB1 := Lib.hid hb1
  clear hput hb1 hT1 hk hu hv hr hft
  go_enter Try.func29, Try.ntmps29
  go_wp2_with fail
  rw [← hw1]
  clear hw1
  refine HP.out.mono ?_
  rintro e w2 ⟨v', rfl, -, hb2⟩
  have HB2 := Lib.hid (HB1.out.trans (hb2.mono HB1.out.size))
  clear hb2 HP
  rcases hK with ⟨-, rfl, rfl⟩ | ⟨-, rfl, rfl⟩
  all_goals
    go_wp2_with fail
    go_ret
    exact ⟨rfl, HB2.out⟩
end Go.Proofs.Ythoheikbpihflaa
namespace Go.Proofs.Ythoheikbpihflaa
open Go.RowKit
attribute [local go_sem] less_eq same_eq le_eq ge_eq gt_eq

set_option maxHeartbeats 8000000 in
set_option maxRecDepth 100000 in
theorem ckeep_any (base q p qb : Nat) (Gb G : Nat → Prop) (c : Co) (A : Option Addr) (n : Nat) (x : Vw) (B : Option Addr) (m : Nat) (w : World) (h : CoIs w base q p qb Gb G c A n) (hd : c.dead = false) (hs : soundV x) (hf : x.fits)
    (hu : OwnI w base (.slice B x.took.chests.length m) x.took.chests) (hug : ∀ g, Value.ownBlock (.slice B x.took.chests.length m) = some g → ¬ G g) :
    Calls Try.prog 28 #[.pointer (some ⟨q, 0, none⟩), vwv x (.slice B x.took.chests.length m)] w fun e w' => e = .returned (.int .i64 (c.keep x).1) ∧ ∃ G', CoAt w' base q p G' (c.keep x).2 ∧ (∀ i, G' i → G i ∨ Value.ownBlock (.slice B x.took.chests.length m) = some i ∨ w.heap.size ≤ i) ∧ Mv G w w' := by
  have hxl := sound_len hs
  obtain ⟨w1, hw1⟩ : ∃ w1, w1 = w.alloc (.cells #[.int .i64 x.prom.1, .int .i64 x.prom.2, .int .i64 x.at'.1, .int .i64 x.at'.2, .int .i64 x.took.gen, .int .i64 x.took.epoch, .int .i64 x.took.recd, .slice B x.took.chests.length m] 37) := ⟨_, rfl⟩
  have hb1 : Below w.heap.size w w1 := by rw [hw1]; exact (Below.refl _ w).alloc (Nat.le_refl _) _
  have hs1 : w1.heap.size = w.heap.size + 1 := by rw [hw1]; simp
  have hX1 : Whole w1 w.heap.size 37 [.int .i64 x.prom.1, .int .i64 x.prom.2, .int .i64 x.at'.1, .int .i64 x.at'.2, .int .i64 x.took.gen, .int .i64 x.took.epoch, .int .i64 x.took.recd, .slice B x.took.chests.length m] := by rw [hw1]; exact Whole.fresh w _ [_, _, _, _, _, _, _, _]
  have henc := vencodeO_any x (.slice B x.took.chests.length m) w1 ((OwnI.rdI hu).next hb1) (by omega) hf
  rw [encV_sound hs] at henc
  have hkr := Co.keep_reset hd h.ok hs hf
  have hko := Co.keep_ok h.ok hs hf
  have hGs : ∀ i, Gb i → i < w.heap.size := fun i hi => (h.low.2 i (h.gb i hi)).2
  have hqs : q < w.heap.size := h.at_.size
  have hbq : base ≤ q := (h.low.2 q h.gq).1
  have hbs : base ≤ w.heap.size := h.low.1
  obtain ⟨K, hK⟩ : ∃ K, K = c.keep x := ⟨_, rfl⟩
  rw [← hK] at hkr hko ⊢
  unfold Co.keep at hK
  have HKE := Lib.hid hK
  clear hK
  unfold vwv at henc ⊢
  simp only at henc
  have HE := Lib.hid henc
  have HH := Lib.hid h
  have HU := Lib.hid hu
  have HUG := Lib.hid hug
  have HKR := Lib.hid hkr
  have HKO := Lib.hid hko
  have HGS := Lib.hid hGs
  have HB1 := Lib.hid hb1
  have HX1 := Lib.hid hX1
  have HD := Lib.hid hd
  have HSV := Lib.hid hs
  have HKF := Lib.hid hf
  clear henc h hu hug hkr hko hGs hb1 hX1 hd hs hf
  go_enter Try.func28, Try.ntmps28
  go_wp2_with fail
  rw [← hw1]
  clear hw1
  refine HE.out.mono ?_
  rintro e w2 ⟨v', rfl, hob, hb2⟩
  have hbw2 : Below w.heap.size w w2 := HB1.out.trans (hb2.mono (by omega))
  obtain ⟨Ab, cb, rfl, -, -⟩ := hob.rdB.at
  have hrb : RdBG w2 w2.heap.size Gb (.slice Ab (vowB x).length cb) (vowB x) := by
    have hr := hob.rdB.at
    obtain ⟨A', c', e, hc, hi⟩ := hr
    injection e with e1 e2 e3
    subst e1 e3
    refine ⟨Ab, cb, rfl, hc, fun i hs => ?_⟩
    obtain ⟨b, o, hA, hB, hk⟩ := hi i hs
    refine ⟨b, o, hA, hB, fun hg => ?_, hk⟩
    have h1 := HGS.out b hg
    rcases hob.form with ⟨e, e0⟩ | ⟨g, cap, e, hg2, _, _⟩
    · rw [e0] at hs; simp at hs
    · rw [hA] at e
      injection e with e _ _
      injection e with e
      injection e with e _ _
      omega
  have hrow := RdRs.one hrb (fun i hi => Nat.lt_of_lt_of_le (HGS.out i hi) hbw2.size)
  have hb3 : Below w.heap.size w (w2.alloc (.cells #[.slice Ab (vowB x).length cb] 56)) := hbw2.alloc hbw2.size _
  have hbk3 := HH.out.bk.mv (Mv.of_new hb3 (fun _ => False)) (fun _ _ h => h)
  have hlen : (vowB x).length ≤ 140737488351232 := by have := vowB_len HSV.out (by exact HKF.out); omega
  obtain ⟨w3, hw3⟩ : ∃ w3, w3 = w2.alloc (.cells #[.slice Ab (vowB x).length cb] 56) := ⟨_, rfl⟩
  rw [← hw3] at hrow hb3 hbk3
  have hs3 : w3.heap.size = w2.heap.size + 1 := by rw [hw3]; simp
  have hrs := breset_any base qb p Gb c.b [⟨Ab, cb, vowB x⟩] (.slice (some ⟨w2.heap.size, 0, none⟩) 1 1) w3 hbk3 (by rw [hs3]; exact hrow) (by simp) (by simpa using hlen)
  rw [show texts [(⟨Ab, cb, vowB x⟩ : Row)] = [vowB x] from rfl, HKR.out] at hrs
  simp only at hrs
  have hX2 := HX1.out.below hb2 (by omega)
  have hq2 := HH.out.at_.below hbw2 hqs
  have HRS := Lib.hid hrs
  have HB3 := Lib.hid hb3
  have HX2 := Lib.hid hX2
  have q0 := hq2.cell 0 _ rfl
  clear hob hb2 hrb hrow hbk3 hlen hrs hb3 hX2 hq2 HE HX1 HB1
  go_wp2_with fail
  rw [← hw3]
  clear q0
  refine HRS.out.mono ?_
  rintro e w4 ⟨rfl, Gb', hbk4, hGb', hm4⟩
  have hX4 := hm4.whole ((HX2.out.below (show Below w2.heap.size w2 w3 from by rw [hw3]; exact (Below.refl _ w2).alloc (Nat.le_refl _) _) HX2.out.size)) (fun hg => by have := HGS.out _ hg; omega)
  have hQ4 := hm4.whole (HH.out.at_.below HB3.out hqs) HH.out.nq
  have hmb4 : Mv Gb w w4 := (Mv.of_new HB3.out Gb).trans hm4 (fun i _ hi => hi)
  have hs34 : w.heap.size ≤ w3.heap.size := HB3.out.size
  have hnq : ¬ Gb' q := fun hg => by
    rcases hGb' q hg with k | k
    · exact HH.out.nq k
    · omega
  have hu4 : OwnI w4 base (.slice B x.took.chests.length m) x.took.chests := OwnI.mv HU.out hmb4 (fun g hg hg2 => HUG.out g hg (HH.out.gb g hg2))
  have hnu : ∀ g, Value.ownBlock (.slice B x.took.chests.length m) = some g → ¬ Gb' g ∧ g ≠ q := fun g hg => ⟨fun hg2 => by
    rcases hGb' g hg2 with k | k
    · exact HUG.out g hg (HH.out.gb g k)
    · have := (OwnI.low HU.out hg).2; omega, fun e => HUG.out g hg (e ▸ HH.out.gq)⟩
  have HQ4 := Lib.hid hQ4
  have HX4 := Lib.hid hX4
  have HMB := Lib.hid hmb4
  have HBK := Lib.hid hbk4
  have HGB' := Lib.hid hGb'
  have HNQ := Lib.hid hnq
  have HU4 := Lib.hid hu4
  have HNU := Lib.hid hnu
  have hqx : q ≠ w.heap.size := by omega
  have hqx2 : w.heap.size ≠ q := Ne.symm hqx
  clear hQ4 hX4 hmb4 hbk4 hGb' hnq hu4 hnu hm4 hw3
  have hK := HKE.out
  clear HKE
  by_cases hl0 : c.left = 0
  · rw [if_pos hl0] at hK
    subst hK
    have y9 := HQ4.out.cell 9 _ rfl
    have f9 := HQ4.out.frozen 9
    clear hl0
    simp only at HBK HKO ⊢
    go_wp2_with fail
    go_ret
    have hm5 : Mv (fun i => i = q) w4 (w4.setCell ⟨q, 9, none⟩ (.bool true)) := (Mv.refl (fun i => i = q) w4).one 9 _
    have hq5 := HQ4.out.put 9 (.bool true)
    simp only [List.set] at hq5
    refine ⟨rfl, ?_⟩
    have hno : ∀ g, Value.ownBlock (.slice A c.v.took.chests.length n) = some g → ¬ Gb' g ∧ g ≠ q := fun g hg => ⟨fun hg2 => by
      rcases HGB'.out g hg2 with k | k
      · exact (HH.out.no g hg).1 k
      · have := (OwnI.low HH.out.own hg).2; omega, (HH.out.no g hg).2⟩
    obtain ⟨G', k1, k2, k3⟩ := CoIs.stored (c' := { c with dead := true }) HH.out HMB.out HBK.out HGB'.out hs34 hm5 hq5 (OwnI.mv HH.out.own HMB.out (fun g hg => (HH.out.no g hg).1)) hno HKO.out
    refine ⟨G', k1, fun i hi => ?_, k3⟩
    rcases k2 i hi with k | k | k
    · exact .inl k
    · exact .inl (HH.out.go i k)
    · exact .inr (.inr k)
  · rw [if_neg hl0] at hK
    obtain ⟨c', hc'⟩ : ∃ c' : Co, c' = { c with v := x, put := true, left := if 0 < c.left then c.left - 1 else c.left } := ⟨_, rfl⟩
    rw [← hc'] at hK
    subst hK
    have HC' := Lib.hid hc'
    have y1 := HQ4.out.cell 1 _ rfl
    have y2 := HQ4.out.cell 2 _ rfl
    have y3 := HQ4.out.cell 3 _ rfl
    have y4 := HQ4.out.cell 4 _ rfl
    have y5 := HQ4.out.cell 5 _ rfl
    have y6 := HQ4.out.cell 6 _ rfl
    have y7 := HQ4.out.cell 7 _ rfl
    have y8 := HQ4.out.cell 8 _ rfl
    have y9 := HQ4.out.cell 9 _ rfl
    have f1 := HQ4.out.frozen 1
    have f2 := HQ4.out.frozen 2
    have f3 := HQ4.out.frozen 3
    have f4 := HQ4.out.frozen 4
    have f5 := HQ4.out.frozen 5
    have f6 := HQ4.out.frozen 6
    have f7 := HQ4.out.frozen 7
    have f8 := HQ4.out.frozen 8
    have f9 := HQ4.out.frozen 9
    have z0 := HX4.out.cell 0 _ rfl
    have z1 := HX4.out.cell 1 _ rfl
    have z2 := HX4.out.cell 2 _ rfl
    have z3 := HX4.out.cell 3 _ rfl
    have z4 := HX4.out.cell 4 _ rfl
    have z5 := HX4.out.cell 5 _ rfl
    have z6 := HX4.out.cell 6 _ rfl
    have z7 := HX4.out.cell 7 _ rfl
    clear hl0 hc'
    simp only at HBK HKO ⊢
    go_wp2_with fail
    go_ret
    refine ⟨rfl, ?_⟩
    have hc' := HC'.out
    subst hc'
    have hm5 := (((((((((Mv.refl (fun i => i = q) w4).one 1 (.int .i64 x.prom.1)).one 2 (.int .i64 x.prom.2)).one 3 (.int .i64 x.at'.1)).one 4 (.int .i64 x.at'.2)).one 5 (.int .i64 x.took.gen)).one 6 (.int .i64 x.took.epoch)).one 7 (.int .i64 x.took.recd)).one 8 (.slice B x.took.chests.length m))
    have hq5 := ((((((((HQ4.out.put 1 (.int .i64 x.prom.1)).put 2 (.int .i64 x.prom.2)).put 3 (.int .i64 x.at'.1)).put 4 (.int .i64 x.at'.2)).put 5 (.int .i64 x.took.gen)).put 6 (.int .i64 x.took.epoch)).put 7 (.int .i64 x.took.recd)).put 8 (.slice B x.took.chests.length m))
    simp only [List.set] at hq5
    exact CoIs.stored (c' := { c with v := x, put := true, left := if 0 < c.left then c.left - 1 else c.left }) HH.out HMB.out HBK.out HGB'.out hs34 hm5 hq5 HU4.out HNU.out HKO.out
end Go.Proofs.Ythoheikbpihflaa
namespace Go.Proofs.Ythoheikbpihflaa
open Go.RowKit
attribute [local go_sem] less_eq same_eq le_eq ge_eq gt_eq

set_option maxHeartbeats 4000000 in
set_option maxRecDepth 100000 in
theorem cvow_any (base q p : Nat) (G : Nat → Prop) (c : Co) (w : World) (h : CoAt w base q p G c) :
    Calls Try.prog 12 #[.pointer (some ⟨q, 0, none⟩)] w fun e w' => ∃ v, e = .returned (vwv c.v v) ∧ NewV w w' G v c.v ∧ Below w.heap.size w w' := by
  obtain ⟨qb, Gb, A, n, h⟩ := h
  have hxl := sound_len h.ok.sound
  obtain ⟨w1, hw1⟩ : ∃ w1, w1 = w.alloc (.cells #[.int .i64 0, .int .i64 0, .int .i64 0, .int .i64 0, .int .i64 0, .int .i64 0, .int .i64 0, .slice none 0 0] 37) := ⟨_, rfl⟩
  have hs1 : w1.heap.size = w.heap.size + 1 := by rw [hw1]; simp
  have hb1 : Below w.heap.size w w1 := by rw [hw1]; exact (Below.refl _ w).alloc (Nat.le_refl _) _
  have hY : Whole w1 w.heap.size 37 [.int .i64 0, .int .i64 0, .int .i64 0, .int .i64 0, .int .i64 0, .int .i64 0, .int .i64 0, .slice none 0 0] := by rw [hw1]; exact Whole.fresh w _ [_, _, _, _, _, _, _, _]
  have hq1 := h.at_.below hb1 h.at_.size
  have HG := Lib.hid (fun i (hi : G i) => (h.low.2 i hi).2)
  have HC := Lib.hid (fun W (hb : Below w.heap.size w W) => cloneI_any c.v.took.chests (.slice A c.v.took.chests.length n) W ((OwnI.rdI h.own).next hb) (by omega))
  obtain ⟨w2, hw2⟩ : ∃ w2, w2 = w1.alloc (.cells #[.int .i64 c.v.prom.1, .int .i64 c.v.prom.2, .int .i64 c.v.at'.1, .int .i64 c.v.at'.2, .int .i64 c.v.took.gen, .int .i64 c.v.took.epoch, .int .i64 c.v.took.recd, .slice A c.v.took.chests.length n] 37) := ⟨_, rfl⟩
  have hs2 : w2.heap.size = w.heap.size + 1 + 1 := by rw [hw2, World.size_alloc, hs1]
  have hX : Whole w2 (w.heap.size + 1) 37 [.int .i64 c.v.prom.1, .int .i64 c.v.prom.2, .int .i64 c.v.at'.1, .int .i64 c.v.at'.2, .int .i64 c.v.took.gen, .int .i64 c.v.took.epoch, .int .i64 c.v.took.recd, .slice A c.v.took.chests.length n] := by rw [hw2, ← hs1]; exact Whole.fresh w1 _ [_, _, _, _, _, _, _, _]
  have hY2 : Whole w2 w.heap.size 37 [.int .i64 0, .int .i64 0, .int .i64 0, .int .i64 0, .int .i64 0, .int .i64 0, .int .i64 0, .slice none 0 0] := by rw [hw2]; exact hY.alloc _
  have hb2 : Below w.heap.size w w2 := by rw [hw2]; exact hb1.alloc hb1.size _
  unfold vwv
  have HB2 := Lib.hid hb2
  have HY := Lib.hid hY2
  have HX := Lib.hid hX
  have HS2 := Lib.hid hs2
  have q1 := hq1.cell 1 _ rfl
  have q2 := hq1.cell 2 _ rfl
  have q3 := hq1.cell 3 _ rfl
  have q4 := hq1.cell 4 _ rfl
  have q5 := hq1.cell 5 _ rfl
  have q6 := hq1.cell 6 _ rfl
  have q7 := hq1.cell 7 _ rfl
  have q8 := hq1.cell 8 _ rfl
  rw [hw1] at q1 q2 q3 q4 q5 q6 q7 q8
  clear hb1 hY hY2 hX hb2 hs1 hs2 hq1 h hxl
  go_enter Try.func12, Try.ntmps12
  go_wp2_with fail
  rw [← hw1, ← hw2]
  clear hw1 hw2 q1 q2 q3 q4 q5 q6 q7 q8
  refine (HC.out w2 HB2.out).mono ?_
  rintro e w3 ⟨B, m, rfl, ho, hb3⟩
  have hs2 := HS2.out
  have hX3 := HX.out.below hb3 (by omega)
  have hY3 := HY.out.below hb3 (by omega)
  have HB3 := Lib.hid (HB2.out.trans (hb3.mono (by omega)))
  have HO := Lib.hid ho
  have y0 := hX3.cell 0 _ rfl
  have y1 := hX3.cell 1 _ rfl
  have y2 := hX3.cell 2 _ rfl
  have y3 := hX3.cell 3 _ rfl
  have y4 := hX3.cell 4 _ rfl
  have y5 := hX3.cell 5 _ rfl
  have y6 := hX3.cell 6 _ rfl
  have y7 := hX3.cell 7 _ rfl
  have k7 := hX3.frozen 7
  have z0 := hY3.cell 0 _ rfl
  have z1 := hY3.cell 1 _ rfl
  have z2 := hY3.cell 2 _ rfl
  have z3 := hY3.cell 3 _ rfl
  have z4 := hY3.cell 4 _ rfl
  have z5 := hY3.cell 5 _ rfl
  have z6 := hY3.cell 6 _ rfl
  have z7 := hY3.cell 7 _ rfl
  have f0 := hY3.frozen 0
  have f1 := hY3.frozen 1
  have f2 := hY3.frozen 2
  have f3 := hY3.frozen 3
  have f4 := hY3.frozen 4
  have f5 := hY3.frozen 5
  have f6 := hY3.frozen 6
  have f7 := hY3.frozen 7
  have HY3 := Lib.hid hY3
  clear hX3 hY3 ho hb3 hs2
  go_wp2_with fail
  have hZ := (((((((((HY3.out.away (p := ⟨w.heap.size + 1, 7, none⟩) (by simp) (.slice B c.v.took.chests.length m)).put 0 (.int .i64 c.v.prom.1)).put 1 (.int .i64 c.v.prom.2)).put 2 (.int .i64 c.v.at'.1)).put 3 (.int .i64 c.v.at'.2)).put 4 (.int .i64 c.v.took.gen)).put 5 (.int .i64 c.v.took.epoch)).put 6 (.int .i64 c.v.took.recd)).put 7 (.slice B c.v.took.chests.length m))
  simp only [List.set] at hZ
  have R0 := hZ.cell 0 _ rfl
  have R1 := hZ.cell 1 _ rfl
  have R2 := hZ.cell 2 _ rfl
  have R3 := hZ.cell 3 _ rfl
  have R4 := hZ.cell 4 _ rfl
  have R5 := hZ.cell 5 _ rfl
  have R6 := hZ.cell 6 _ rfl
  have R7 := hZ.cell 7 _ rfl
  have hs2 := HS2.out
  have ho := (((((((((HO.out.off (p := ⟨w.heap.size + 1, 7, none⟩) (by simp; omega) (.slice B c.v.took.chests.length m)).off (p := ⟨w.heap.size, 0, none⟩) (by simp; omega) (.int .i64 c.v.prom.1)).off (p := ⟨w.heap.size, 1, none⟩) (by simp; omega) (.int .i64 c.v.prom.2)).off (p := ⟨w.heap.size, 2, none⟩) (by simp; omega) (.int .i64 c.v.at'.1)).off (p := ⟨w.heap.size, 3, none⟩) (by simp; omega) (.int .i64 c.v.at'.2)).off (p := ⟨w.heap.size, 4, none⟩) (by simp; omega) (.int .i64 c.v.took.gen)).off (p := ⟨w.heap.size, 5, none⟩) (by simp; omega) (.int .i64 c.v.took.epoch)).off (p := ⟨w.heap.size, 6, none⟩) (by simp; omega) (.int .i64 c.v.took.recd)).off (p := ⟨w.heap.size, 7, none⟩) (by simp; omega) (.slice B c.v.took.chests.length m))
  exact bodyPost_ret (v := .agg #[.int .i64 c.v.prom.1, .int .i64 c.v.prom.2, .int .i64 c.v.at'.1, .int .i64 c.v.at'.2, .int .i64 c.v.took.gen, .int .i64 c.v.took.epoch, .int .i64 c.v.took.recd, .slice B c.v.took.chests.length m]) (by simp [results, Try.results12, go_sem, R0, R1, R2, R3, R4, R5, R6, R7]) rfl ⟨_, rfl, NewV.own (ho.lower (base' := w.heap.size) (by omega)) (Nat.le_refl _) HG.out, by (repeat (refine Below.setCell ?_ (by simp; try omega) _)); exact HB3.out⟩
set_option maxHeartbeats 2000000 in
set_option maxRecDepth 100000 in
theorem cnone_vow (w : World) : Calls Try.prog 12 #[.pointer none] w fun e w' => ∃ c, e = .returned (vwv zeroV (.slice none 0 c)) ∧ Below w.heap.size w w' := by
  unfold vwv zeroV zeroS
  go_enter Try.func12, Try.ntmps12
  go_wp2_with fail
  exact bodyPost_ret (v := .agg #[.int .i64 0, .int .i64 0, .int .i64 0, .int .i64 0, .int .i64 0, .int .i64 0, .int .i64 0, .slice none 0 0]) (by simp [results, Try.results12, go_sem]) rfl ⟨0, rfl, (Below.refl _ w).alloc (Nat.le_refl _) _⟩
set_option maxHeartbeats 2000000 in
set_option maxRecDepth 100000 in
theorem cnone_prep (b : Bal) (w : World) : Calls Try.prog 14 #[.pointer none, blv b] w fun e w' => ∃ c, e = .returned (.tuple #[vwv zeroV (.slice none 0 c), .bool false, .int .i64 1]) ∧ Below w.heap.size w w' := by
  obtain ⟨w2, hw2⟩ : ∃ w2, w2 = (w.alloc (.cells #[.int .i64 b.1, .int .i64 b.2] 32)).alloc (.cells #[.int .i64 0, .int .i64 0, .int .i64 0, .int .i64 0, .int .i64 0, .int .i64 0, .int .i64 0, .slice none 0 0] 37) := ⟨_, rfl⟩
  have hb2 : Below w.heap.size w w2 := by rw [hw2]; exact ((Below.refl _ w).alloc (Nat.le_refl _) _).alloc (by simp) _
  have hs2 : w2.heap.size = w.heap.size + 1 + 1 := by rw [hw2]; simp
  have hY : Whole w2 (w.heap.size + 1) 37 [.int .i64 0, .int .i64 0, .int .i64 0, .int .i64 0, .int .i64 0, .int .i64 0, .int .i64 0, .slice none 0 0] := by
    have h := Whole.fresh (w.alloc (.cells #[.int .i64 b.1, .int .i64 b.2] 32)) 37 [.int .i64 0, .int .i64 0, .int .i64 0, .int .i64 0, .int .i64 0, .int .i64 0, .int .i64 0, .slice none 0 0]
    rw [World.size_alloc] at h
    rw [hw2]; exact h
  have hm := fun W => cmay_none b W
  unfold blv at hm
  have HM := Lib.hid hm
  have HB2 := Lib.hid hb2
  have HY := Lib.hid hY
  unfold vwv zeroV zeroS blv
  clear hm hb2 hY
  go_enter Try.func14, Try.ntmps14
  go_wp2_with fail
  rw [← hw2]
  clear hw2
  refine (HM.out w2).mono ?_
  rintro e w3 ⟨rfl, hb3⟩
  have HB3 := Lib.hid (HB2.out.trans (hb3.mono (by omega)))
  have hY3 := HY.out.below hb3 HY.out.size
  have HY3 := Lib.hid hY3
  have z0 := hY3.cell 0 _ rfl
  have z1 := hY3.cell 1 _ rfl
  have z2 := hY3.cell 2 _ rfl
  have z3 := hY3.cell 3 _ rfl
  have z4 := hY3.cell 4 _ rfl
  have z5 := hY3.cell 5 _ rfl
  have z6 := hY3.cell 6 _ rfl
  have z7 := hY3.cell 7 _ rfl
  have f0 := hY3.frozen 0
  have f1 := hY3.frozen 1
  have f2 := hY3.frozen 2
  have f3 := hY3.frozen 3
  have f4 := hY3.frozen 4
  have f5 := hY3.frozen 5
  have f6 := hY3.frozen 6
  have f7 := hY3.frozen 7
  clear hY3 hb3
  go_wp2_with fail
  have hY3 := HY3.out
  have hZ := ((((((((hY3.put 0 (.int .i64 0)).put 1 (.int .i64 0)).put 2 (.int .i64 0)).put 3 (.int .i64 0)).put 4 (.int .i64 0)).put 5 (.int .i64 0)).put 6 (.int .i64 0)).put 7 (.slice none 0 0))
  simp only [List.set] at hZ
  have R0 := hZ.cell 0 _ rfl
  have R1 := hZ.cell 1 _ rfl
  have R2 := hZ.cell 2 _ rfl
  have R3 := hZ.cell 3 _ rfl
  have R4 := hZ.cell 4 _ rfl
  have R5 := hZ.cell 5 _ rfl
  have R6 := hZ.cell 6 _ rfl
  have R7 := hZ.cell 7 _ rfl
  exact bodyPost_ret (v := .tuple #[.agg #[.int .i64 0, .int .i64 0, .int .i64 0, .int .i64 0, .int .i64 0, .int .i64 0, .int .i64 0, .slice none 0 0], .bool false, .int .i64 1]) (by simp [results, Try.results14, go_sem, R0, R1, R2, R3, R4, R5, R6, R7]) rfl ⟨0, rfl, by (repeat (refine Below.setCell ?_ (by simp; try omega) _)); exact HB3.out⟩
set_option maxHeartbeats 2000000 in
set_option maxRecDepth 100000 in
theorem cnone_acc (b : Bal) (s : Sta) (u : Value) (w : World) (hu : RdI w w.heap.size u s.chests) : Calls Try.prog 15 #[.pointer none, blv b, sval s u] w fun e w' => e = .returned (.tuple #[.bool false, .int .i64 1]) ∧ Below w.heap.size w w' := by
  obtain ⟨A, c, rfl, -, -⟩ := hu.at
  obtain ⟨w2, hw2⟩ : ∃ w2, w2 = (w.alloc (.cells #[.int .i64 b.1, .int .i64 b.2] 32)).alloc (.cells #[.int .i64 s.gen, .int .i64 s.epoch, .int .i64 s.recd, .slice A s.chests.length c] 35) := ⟨_, rfl⟩
  have hb2 : Below w.heap.size w w2 := by rw [hw2]; exact ((Below.refl _ w).alloc (Nat.le_refl _) _).alloc (by simp) _
  have hm := fun W => cmay_none b W
  unfold blv at hm
  have HM := Lib.hid hm
  have HB2 := Lib.hid hb2
  unfold blv sval
  clear hm hb2 hu
  go_enter Try.func15, Try.ntmps15
  go_wp2_with fail
  rw [← hw2]
  clear hw2
  refine (HM.out w2).mono ?_
  rintro e w3 ⟨rfl, hb3⟩
  have HB3 := Lib.hid (HB2.out.trans (hb3.mono HB2.out.size))
  clear hb3
  go_wp2_with fail
  go_ret2
  exact ⟨rfl, HB3.out⟩
end Go.Proofs.Ythoheikbpihflaa

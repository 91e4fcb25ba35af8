/- The reference of ballots: Decode. The program's ballots: Decode. The program's contracts of stage 13. What the law says of the simplest ballots; struct equality of ballots; two vows in a row. -/
import Derived.Test.YtjmojlhebjbgaaaFai
import Derived.Test.YtjmojlhebjbgaaaFaf
import Derived.Test.YtjmojlhebjbgaaaFaj
import Derived.Test.YtjmojlhebjbgaaaFag
namespace Go.Proofs.Ytjmojlhebjbgaaa
open Go.RowKit
attribute [local go_sem] less_eq same_eq le_eq ge_eq gt_eq

theorem getSta_fit (l : List UInt8) : (getSta l).1.chests.length < 4611686018427387904 := by
  unfold getSta
  split
  · have := rdList_len rdN 16 (rdN (rdN (rdN (some l)).2).2).2
    unfold rdSta; simp only; omega
  · simp [zeroS]

set_option maxHeartbeats 4000000 in
set_option maxRecDepth 100000 in
theorem rdecV_any (l : List UInt8) (v : Value) (w : World) (hv : RdB w w.heap.size v l) (hl : l.length < 4611686018427387904) :
    Calls Try.prog 23 #[v] w fun e w' => ∃ v', e = .returned (.tuple #[vwv (decV l).1 v', .int .i64 (decV l).2]) ∧ RdI w' w'.heap.size v' (decV l).1.took.chests ∧ Below w.heap.size w w' := by
  obtain ⟨A, c, rfl, _, _⟩ := hv.at
  obtain ⟨w1, hw1⟩ : ∃ w1, w1 = w.alloc (.cells #[.int .i64 0, .int .i64 0, .int .i64 0, .int .i64 0, .int .i64 0, .int .i64 0, .int .i64 0, .slice none 0 0] 31) := ⟨_, rfl⟩
  obtain ⟨w2, hw2⟩ : ∃ w2, w2 = w1.alloc (.cells #[.slice A l.length c, .bool false] 71) := ⟨_, rfl⟩
  obtain ⟨w3, hw3⟩ : ∃ w3, w3 = w2.alloc (.cells #[.int .i64 0, .int .i64 0, .int .i64 0, .int .i64 0, .int .i64 0, .int .i64 0, .int .i64 0, .slice none 0 0] 31) := ⟨_, rfl⟩
  have hs1 : w1.heap.size = w.heap.size + 1 := by rw [hw1]; simp
  have hs2 : w2.heap.size = w.heap.size + 1 + 1 := by rw [hw2, World.size_alloc, hs1]
  have hs3 : w3.heap.size = w.heap.size + 1 + 1 + 1 := by rw [hw3, World.size_alloc, hs2]
  obtain ⟨Z, hZe⟩ : ∃ Z, Z = w.heap.size := ⟨_, rfl⟩
  obtain ⟨p, hpe⟩ : ∃ p, p = w.heap.size + 1 := ⟨_, rfl⟩
  obtain ⟨X, hXe⟩ : ∃ X, X = w.heap.size + 1 + 1 := ⟨_, rfl⟩
  have hb3 : Below Z w w3 := by
    rw [hw3, hw2, hw1, hZe]; exact (((Below.refl _ w).alloc (Nat.le_refl _) _).alloc (by simp) _).alloc (by simp; omega) _
  have HZ3 := Lib.hid (show Whole w3 Z 31 [.int .i64 0, .int .i64 0, .int .i64 0, .int .i64 0, .int .i64 0, .int .i64 0, .int .i64 0, .slice none 0 0] from by rw [hw3, hw2, hw1, hZe]; exact ((Whole.fresh w _ [.int .i64 0, .int .i64 0, .int .i64 0, .int .i64 0, .int .i64 0, .int .i64 0, .int .i64 0, .slice none 0 0]).alloc _).alloc _)
  have hP : Whole w3 p 71 [.slice A l.length c, .bool false] := by rw [hw3, hw2, hpe, ← hs1]; exact (Whole.fresh w1 _ [_, _]).alloc _
  have HX3 := Lib.hid (show Whole w3 X 31 [.int .i64 0, .int .i64 0, .int .i64 0, .int .i64 0, .int .i64 0, .int .i64 0, .int .i64 0, .slice none 0 0] from by rw [hw3, hXe, ← hs2]; exact Whole.fresh w2 _ [.int .i64 0, .int .i64 0, .int .i64 0, .int .i64 0, .int .i64 0, .int .i64 0, .int .i64 0, .slice none 0 0])
  have HR3 := Lib.hid (show RR w3 Z p (some l) from ⟨A, c, l, hP, by have h := hv.below (by rw [← hZe]; exact hb3) (Nat.le_refl _); rw [← hZe] at h; exact h, by omega, hl, fun r hr => by injection hr with hr; exact hr.symm⟩)
  have HB3 := Lib.hid hb3
  have hs3X : X < w3.heap.size := by omega
  have hzp : Z < p := by omega
  have hpX : p < X := by omega
  obtain ⟨D, hD⟩ : ∃ D, D = decV l := ⟨_, rfl⟩
  rw [← hD]
  have hN1 := fun W base p h => rrnum_any (some l) base p W h
  generalize hr1 : rdN (some l) = r1 at hN1
  obtain ⟨n1, S1⟩ := r1
  have hN2 := fun W base p h => rrnum_any S1 base p W h
  generalize hr2 : rdN S1 = r2 at hN2
  obtain ⟨n2, S2⟩ := r2
  have hN3 := fun W base p h => rrnum_any S2 base p W h
  generalize hr3 : rdN S2 = r3 at hN3
  obtain ⟨n3, S3⟩ := r3
  have hN4 := fun W base p h => rrnum_any S3 base p W h
  generalize hr4 : rdN S3 = r4 at hN4
  obtain ⟨n4, S4⟩ := r4
  simp only at hN1 hN2 hN3 hN4
  have hrd : rd4 (some l) = ((n1, n2, n3, n4), S4) := by unfold rd4; simp only [hr1, hr2, hr3, hr4]
  have HBAD := Lib.hid (fun h : S4 = none => hD.trans (decV_bad (by rw [hrd]; exact h)))
  have HSOME := Lib.hid (fun (r : List UInt8) (h : S4 = some r) => hD.trans (decV_some (by rw [hrd, h])))
  have HN1 := Lib.hid hN1
  have HN2 := Lib.hid hN2
  have HN3 := Lib.hid hN3
  have HN4 := Lib.hid hN4
  have HZE := Lib.hid hZe
  clear hN1 hN2 hN3 hN4 hr1 hr2 hr3 hr4 hrd hD hP hv hb3
  go_enter Try.func23, Try.ntmps23
  go_wp2_with fail
  rw [← hw1, ← hw2, ← hw3, ← hXe, ← hpe, ← hZe]
  clear hw1 hw2 hw3 hs1 hs2 hs3 hpe hXe hZe
  refine (HN1.out _ _ _ HR3.out).mono ?_
  rintro e a4 ⟨rfl, hr, ho⟩
  have hXa := HX3.out.grown (row := some p) ho (fun e => by injection e with e; omega)
  have hZa := HZ3.out.grown (row := some p) ho (fun e => by injection e with e; omega)
  have hBa : Below Z w a4 := HB3.out.trans (ho.low (by omega) (by omega))
  have hsa : X < a4.heap.size := hXa.size
  have x0 := hXa.cell 0 _ rfl
  have f0 := hXa.frozen 0
  obtain ⟨w4, hw4⟩ : ∃ w4, w4 = a4.setCell ⟨X, 0, none⟩ (.int .i64 n1) := ⟨_, rfl⟩
  have HX4 := Lib.hid (show Whole w4 X 31 [.int .i64 n1, .int .i64 0, .int .i64 0, .int .i64 0, .int .i64 0, .int .i64 0, .int .i64 0, .slice none 0 0] from by rw [hw4]; exact hXa.put 0 (.int .i64 n1))
  have HZ4 := Lib.hid (show Whole w4 Z 31 [.int .i64 0, .int .i64 0, .int .i64 0, .int .i64 0, .int .i64 0, .int .i64 0, .int .i64 0, .slice none 0 0] from by rw [hw4]; exact hZa.away (p := ⟨X, 0, none⟩) (by show Z ≠ X; omega) _)
  have HB4 := Lib.hid (show Below Z w w4 from by rw [hw4]; exact hBa.setCell (p := ⟨X, 0, none⟩) (by show Z ≤ X; omega) _)
  have HR4 := Lib.hid (show RR w4 Z p S1 from by rw [hw4]; exact hr.set hpX 0 _)
  have hs4X : X < w4.heap.size := HX4.out.size
  clear hr ho hXa hZa hBa hsa hs3X
  go_wp2_with fail
  rw [← hw4]
  clear hw4 x0 f0
  refine (HN2.out _ _ _ HR4.out).mono ?_
  rintro e a5 ⟨rfl, hr, ho⟩
  have hXa := HX4.out.grown (row := some p) ho (fun e => by injection e with e; omega)
  have hZa := HZ4.out.grown (row := some p) ho (fun e => by injection e with e; omega)
  have hBa : Below Z w a5 := HB4.out.trans (ho.low (by omega) (by omega))
  have hsa : X < a5.heap.size := hXa.size
  have x1 := hXa.cell 1 _ rfl
  have f1 := hXa.frozen 1
  obtain ⟨w5, hw5⟩ : ∃ w5, w5 = a5.setCell ⟨X, 1, none⟩ (.int .i64 n2) := ⟨_, rfl⟩
  have HX5 := Lib.hid (show Whole w5 X 31 [.int .i64 n1, .int .i64 n2, .int .i64 0, .int .i64 0, .int .i64 0, .int .i64 0, .int .i64 0, .slice none 0 0] from by rw [hw5]; exact hXa.put 1 (.int .i64 n2))
  have HZ5 := Lib.hid (show Whole w5 Z 31 [.int .i64 0, .int .i64 0, .int .i64 0, .int .i64 0, .int .i64 0, .int .i64 0, .int .i64 0, .slice none 0 0] from by rw [hw5]; exact hZa.away (p := ⟨X, 1, none⟩) (by show Z ≠ X; omega) _)
  have HB5 := Lib.hid (show Below Z w w5 from by rw [hw5]; exact hBa.setCell (p := ⟨X, 1, none⟩) (by show Z ≤ X; omega) _)
  have HR5 := Lib.hid (show RR w5 Z p S2 from by rw [hw5]; exact hr.set hpX 1 _)
  have hs5X : X < w5.heap.size := HX5.out.size
  clear hr ho hXa hZa hBa hsa hs4X
  go_wp2_with fail
  rw [← hw5]
  clear hw5 x1 f1
  refine (HN3.out _ _ _ HR5.out).mono ?_
  rintro e a6 ⟨rfl, hr, ho⟩
  have hXa := HX5.out.grown (row := some p) ho (fun e => by injection e with e; omega)
  have hZa := HZ5.out.grown (row := some p) ho (fun e => by injection e with e; omega)
  have hBa : Below Z w a6 := HB5.out.trans (ho.low (by omega) (by omega))
  have hsa : X < a6.heap.size := hXa.size
  have x2 := hXa.cell 2 _ rfl
  have f2 := hXa.frozen 2
  obtain ⟨w6, hw6⟩ : ∃ w6, w6 = a6.setCell ⟨X, 2, none⟩ (.int .i64 n3) := ⟨_, rfl⟩
  have HX6 := Lib.hid (show Whole w6 X 31 [.int .i64 n1, .int .i64 n2, .int .i64 n3, .int .i64 0, .int .i64 0, .int .i64 0, .int .i64 0, .slice none 0 0] from by rw [hw6]; exact hXa.put 2 (.int .i64 n3))
  have HZ6 := Lib.hid (show Whole w6 Z 31 [.int .i64 0, .int .i64 0, .int .i64 0, .int .i64 0, .int .i64 0, .int .i64 0, .int .i64 0, .slice none 0 0] from by rw [hw6]; exact hZa.away (p := ⟨X, 2, none⟩) (by show Z ≠ X; omega) _)
  have HB6 := Lib.hid (show Below Z w w6 from by rw [hw6]; exact hBa.setCell (p := ⟨X, 2, none⟩) (by show Z ≤ X; omega) _)
  have HR6 := Lib.hid (show RR w6 Z p S3 from by rw [hw6]; exact hr.set hpX 2 _)
  have hs6X : X < w6.heap.size := HX6.out.size
  clear hr ho hXa hZa hBa hsa hs5X
  go_wp2_with fail
  rw [← hw6]
  clear hw6 x2 f2
  refine (HN4.out _ _ _ HR6.out).mono ?_
  rintro e a7 ⟨rfl, hr, ho⟩
  have hXa := HX6.out.grown (row := some p) ho (fun e => by injection e with e; omega)
  have hZa := HZ6.out.grown (row := some p) ho (fun e => by injection e with e; omega)
  have hBa : Below Z w a7 := HB6.out.trans (ho.low (by omega) (by omega))
  have hsa : X < a7.heap.size := hXa.size
  have x3 := hXa.cell 3 _ rfl
  have f3 := hXa.frozen 3
  obtain ⟨w7, hw7⟩ : ∃ w7, w7 = a7.setCell ⟨X, 3, none⟩ (.int .i64 n4) := ⟨_, rfl⟩
  have HX7 := Lib.hid (show Whole w7 X 31 [.int .i64 n1, .int .i64 n2, .int .i64 n3, .int .i64 n4, .int .i64 0, .int .i64 0, .int .i64 0, .slice none 0 0] from by rw [hw7]; exact hXa.put 3 (.int .i64 n4))
  have HZ7 := Lib.hid (show Whole w7 Z 31 [.int .i64 0, .int .i64 0, .int .i64 0, .int .i64 0, .int .i64 0, .int .i64 0, .int .i64 0, .slice none 0 0] from by rw [hw7]; exact hZa.away (p := ⟨X, 3, none⟩) (by show Z ≠ X; omega) _)
  have HB7 := Lib.hid (show Below Z w w7 from by rw [hw7]; exact hBa.setCell (p := ⟨X, 3, none⟩) (by show Z ≤ X; omega) _)
  have HR7 := Lib.hid (show RR w7 Z p S4 from by rw [hw7]; exact hr.set hpX 3 _)
  have hs7X : X < w7.heap.size := HX7.out.size
  clear hr ho hXa hZa hBa hsa hs6X
  have HW7 := Lib.hid hw7
  obtain ⟨Ar, cr, lr, hwr, hrr, _, hlr, hSr⟩ := HR7.out
  rw [hw7] at hwr
  have q0 := hwr.cell 0 _ rfl
  have q1 := hwr.cell 1 _ rfl
  clear hwr
  cases S4 with
  | none =>
    have HRE := Lib.hid (HBAD.out rfl)
    simp only [Option.isNone_none] at q1
    have hz7 := HZ7.out
    rw [HW7.out] at hz7
    have z0 := hz7.cell 0 _ rfl
    have z1 := hz7.cell 1 _ rfl
    have z2 := hz7.cell 2 _ rfl
    have z3 := hz7.cell 3 _ rfl
    have z4 := hz7.cell 4 _ rfl
    have z5 := hz7.cell 5 _ rfl
    have z6 := hz7.cell 6 _ rfl
    have z7 := hz7.cell 7 _ rfl
    have f0 := hz7.frozen 0
    have f1 := hz7.frozen 1
    have f2 := hz7.frozen 2
    have f3 := hz7.frozen 3
    have f4 := hz7.frozen 4
    have f5 := hz7.frozen 5
    have f6 := hz7.frozen 6
    have f7 := hz7.frozen 7
    clear hz7
    clear hrr hSr q0
    go_wp2_with fail
    rw [← HW7.out]
    have hZ8 := ((((((((HZ7.out.put 0 (.int .i64 0)).put 1 (.int .i64 0)).put 2 (.int .i64 0)).put 3 (.int .i64 0)).put 4 (.int .i64 0)).put 5 (.int .i64 0)).put 6 (.int .i64 0)).put 7 (.slice none 0 0))
    simp only [List.set] at hZ8
    have R0 := hZ8.cell 0 _ rfl
    have R1 := hZ8.cell 1 _ rfl
    have R2 := hZ8.cell 2 _ rfl
    have R3 := hZ8.cell 3 _ rfl
    have R4 := hZ8.cell 4 _ rfl
    have R5 := hZ8.cell 5 _ rfl
    have R6 := hZ8.cell 6 _ rfl
    have R7 := hZ8.cell 7 _ rfl
    refine bodyPost_ret (v := .tuple #[.agg #[.int .i64 0, .int .i64 0, .int .i64 0, .int .i64 0, .int .i64 0, .int .i64 0, .int .i64 0, .slice none 0 0], .int .i64 2]) (by simp [results, Try.results23, go_sem, R0, R1, R2, R3, R4, R5, R6, R7]) rfl ⟨.slice none 0 0, by rw [HRE.out]; rfl, by rw [HRE.out]; exact Rd.nil _ _, ?_⟩
    rw [← HZE.out]
    exact ((((((((HB7.out.setCell (p := ⟨Z, 0, none⟩) (Nat.le_refl _) (.int .i64 0)).setCell (p := ⟨Z, 1, none⟩) (Nat.le_refl _) (.int .i64 0)).setCell (p := ⟨Z, 2, none⟩) (Nat.le_refl _) (.int .i64 0)).setCell (p := ⟨Z, 3, none⟩) (Nat.le_refl _) (.int .i64 0)).setCell (p := ⟨Z, 4, none⟩) (Nat.le_refl _) (.int .i64 0)).setCell (p := ⟨Z, 5, none⟩) (Nat.le_refl _) (.int .i64 0)).setCell (p := ⟨Z, 6, none⟩) (Nat.le_refl _) (.int .i64 0)).setCell (p := ⟨Z, 7, none⟩) (Nat.le_refl _) (.slice none 0 0))
  | some r =>
    simp only [Option.isNone_some] at q1
    obtain rfl := hSr r rfl
    have hrd7 : RdB w7 w7.heap.size (.slice Ar r.length cr) r := hrr.mono (by omega)
    have hgs := rgetSO r (.slice Ar r.length cr) w7 hrd7 hlr
    have hre := HSOME.out r rfl
    have hlen := getSta_fit r
    generalize getSta r = G at hgs hre hlen
    obtain ⟨⟨sg, se, sr, sch⟩, q⟩ := G
    unfold sval at hgs
    simp only at hgs hre hlen
    have HLEN := Lib.hid hlen; clear hlen
    have HGS := Lib.hid hgs; clear hgs
    have HRE0 := Lib.hid hre; clear hre
    clear hrr hSr hrd7
    go_wp2_with fail
    rw [← HW7.out]
    refine HGS.out.mono ?_
    rintro e w8 ⟨v8, rfl, ho8, hb8⟩
    obtain ⟨A8, c8, h8⟩ : ∃ A8 c8, v8 = .slice A8 sch.length c8 := by
      rcases Own.form ho8 with ⟨h1, h2⟩ | ⟨g, cap, h1, _⟩
      · exact ⟨none, 0, by rw [h1, h2]; rfl⟩
      · exact ⟨_, _, h1⟩
    subst h8
    have hs8 := hb8.size
    obtain ⟨w9, hw9⟩ : ∃ w9, w9 = w8.alloc (.cells #[.int .i64 sg, .int .i64 se, .int .i64 sr, .slice A8 sch.length c8] 29) := ⟨_, rfl⟩
    have hb9 : Below w7.heap.size w7 w9 := by rw [hw9]; exact hb8.alloc hs8 _
    have hY9 : Whole w9 w8.heap.size 29 [.int .i64 sg, .int .i64 se, .int .i64 sr, .slice A8 sch.length c8] := by rw [hw9]; exact Whole.fresh w8 _ [_, _, _, _]
    have hX9 := HX7.out.below hb9 HX7.out.size
    have hO9 : OwnI w9 w7.heap.size (.slice A8 sch.length c8) sch := by rw [hw9]; exact ho8.alloc _
    have HZ9 := Lib.hid (HZ7.out.below hb9 HZ7.out.size)
    have HB9 := Lib.hid (HB7.out.trans (hb9.mono (by omega)))
    have y0 := hY9.cell 0 _ rfl
    have y1 := hY9.cell 1 _ rfl
    have y2 := hY9.cell 2 _ rfl
    have y3 := hY9.cell 3 _ rfl
    have x4 := hX9.cell 4 _ rfl
    have x5 := hX9.cell 5 _ rfl
    have x6 := hX9.cell 6 _ rfl
    have x7 := hX9.cell 7 _ rfl
    have f4 := hX9.frozen 4
    have f5 := hX9.frozen 5
    have f6 := hX9.frozen 6
    have f7 := hX9.frozen 7
    rw [hw9] at y0 y1 y2 y3 x4 x5 x6 x7 f4 f5 f6 f7
    have HX9 := Lib.hid hX9
    have HO9 := Lib.hid hO9
    have HW9 := Lib.hid hw9
    have hs9 : w7.heap.size ≤ w9.heap.size := hb9.size
    clear hX9 hY9 hO9 hb9 ho8 hb8 hw9 q0 q1
    obtain ⟨w10, hw10⟩ : ∃ w10, w10 = ((((w9.setCell ⟨X, 4, none⟩ (.int .i64 sg)).setCell ⟨X, 5, none⟩ (.int .i64 se)).setCell ⟨X, 6, none⟩ (.int .i64 sr)).setCell ⟨X, 7, none⟩ (.slice A8 sch.length c8)) := ⟨_, rfl⟩
    have hX10 := ((((HX9.out.put 4 (.int .i64 sg)).put 5 (.int .i64 se)).put 6 (.int .i64 sr)).put 7 (.slice A8 sch.length c8))
    simp only [List.set] at hX10
    have hZ10 := ((((HZ9.out.away (p := ⟨X, 4, none⟩) (by show Z ≠ X; omega) (.int .i64 sg)).away (p := ⟨X, 5, none⟩) (by show Z ≠ X; omega) (.int .i64 se)).away (p := ⟨X, 6, none⟩) (by show Z ≠ X; omega) (.int .i64 sr)).away (p := ⟨X, 7, none⟩) (by show Z ≠ X; omega) (.slice A8 sch.length c8))
    have hB10 := ((((HB9.out.setCell (p := ⟨X, 4, none⟩) (by show Z ≤ X; omega) (.int .i64 sg)).setCell (p := ⟨X, 5, none⟩) (by show Z ≤ X; omega) (.int .i64 se)).setCell (p := ⟨X, 6, none⟩) (by show Z ≤ X; omega) (.int .i64 sr)).setCell (p := ⟨X, 7, none⟩) (by show Z ≤ X; omega) (.slice A8 sch.length c8))
    have hO10 := ((((HO9.out.put HX9.out (by decide) 4 (.int .i64 sg)).put (HX9.out.put 4 (.int .i64 sg)) (by decide) 5 (.int .i64 se)).put ((HX9.out.put 4 (.int .i64 sg)).put 5 (.int .i64 se)) (by decide) 6 (.int .i64 sr)).put (((HX9.out.put 4 (.int .i64 sg)).put 5 (.int .i64 se)).put 6 (.int .i64 sr)) (by decide) 7 (.slice A8 sch.length c8))
    rw [← hw10] at hX10 hZ10 hB10 hO10
    have hs10 : w7.heap.size ≤ w10.heap.size := by rw [hw10]; simpa [World.setCell] using hs9
    have HX10 := Lib.hid hX10
    have HZ10 := Lib.hid hZ10
    have HB10 := Lib.hid hB10
    have HO10 := Lib.hid hO10
    have HW10 := Lib.hid hw10
    by_cases hq : q = 0
    case neg =>
      have hre := HRE0.out
      rw [if_neg (fun h => hq h.1)] at hre
      have HRE := Lib.hid hre; clear hre
      have z0 := hZ10.cell 0 _ rfl
      have z1 := hZ10.cell 1 _ rfl
      have z2 := hZ10.cell 2 _ rfl
      have z3 := hZ10.cell 3 _ rfl
      have z4 := hZ10.cell 4 _ rfl
      have z5 := hZ10.cell 5 _ rfl
      have z6 := hZ10.cell 6 _ rfl
      have z7 := hZ10.cell 7 _ rfl
      have g0 := hZ10.frozen 0
      have g1 := hZ10.frozen 1
      have g2 := hZ10.frozen 2
      have g3 := hZ10.frozen 3
      have g4 := hZ10.frozen 4
      have g5 := hZ10.frozen 5
      have g6 := hZ10.frozen 6
      have g7 := hZ10.frozen 7
      rw [hw10, HW9.out] at z0 g0 z1 g1 z2 g2 z3 g3 z4 g4 z5 g5 z6 g6 z7 g7
      clear hX10 hZ10 hB10 hO10 hw10
      go_wp2_with fail
      rw [← HW9.out, ← HW10.out]
      have hZ8 := ((((((((HZ10.out.put 0 (.int .i64 0)).put 1 (.int .i64 0)).put 2 (.int .i64 0)).put 3 (.int .i64 0)).put 4 (.int .i64 0)).put 5 (.int .i64 0)).put 6 (.int .i64 0)).put 7 (.slice none 0 0))
      simp only [List.set] at hZ8
      have R0 := hZ8.cell 0 _ rfl
      have R1 := hZ8.cell 1 _ rfl
      have R2 := hZ8.cell 2 _ rfl
      have R3 := hZ8.cell 3 _ rfl
      have R4 := hZ8.cell 4 _ rfl
      have R5 := hZ8.cell 5 _ rfl
      have R6 := hZ8.cell 6 _ rfl
      have R7 := hZ8.cell 7 _ rfl
      refine bodyPost_ret (v := .tuple #[.agg #[.int .i64 0, .int .i64 0, .int .i64 0, .int .i64 0, .int .i64 0, .int .i64 0, .int .i64 0, .slice none 0 0], .int .i64 2]) (by simp [results, Try.results23, go_sem, R0, R1, R2, R3, R4, R5, R6, R7]) rfl ⟨.slice none 0 0, by rw [HRE.out]; rfl, by rw [HRE.out]; exact Rd.nil _ _, ?_⟩
      rw [← HZE.out]
      exact ((((((((HB10.out.setCell (p := ⟨Z, 0, none⟩) (Nat.le_refl _) (.int .i64 0)).setCell (p := ⟨Z, 1, none⟩) (Nat.le_refl _) (.int .i64 0)).setCell (p := ⟨Z, 2, none⟩) (Nat.le_refl _) (.int .i64 0)).setCell (p := ⟨Z, 3, none⟩) (Nat.le_refl _) (.int .i64 0)).setCell (p := ⟨Z, 4, none⟩) (Nat.le_refl _) (.int .i64 0)).setCell (p := ⟨Z, 5, none⟩) (Nat.le_refl _) (.int .i64 0)).setCell (p := ⟨Z, 6, none⟩) (Nat.le_refl _) (.int .i64 0)).setCell (p := ⟨Z, 7, none⟩) (Nat.le_refl _) (.slice none 0 0))
    subst hq
    have hS := rsoundV_any ⟨(n1, n2), (n3, n4), ⟨sg, se, sr, sch⟩⟩ HLEN.out (.slice A8 sch.length c8) w10 (Own.rd encI_len hO10)
    unfold vwv at hS
    simp only at hS
    have hre := HRE0.out
    by_cases hsv : soundV ⟨(n1, n2), (n3, n4), ⟨sg, se, sr, sch⟩⟩
    case neg =>
      rw [decide_eq_false hsv] at hS
      rw [if_neg (fun h => hsv h.2)] at hre
      have HRE := Lib.hid hre; clear hre
      have HS := Lib.hid hS; clear hS hsv
      have u0 := hX10.cell 0 _ rfl
      have u1 := hX10.cell 1 _ rfl
      have u2 := hX10.cell 2 _ rfl
      have u3 := hX10.cell 3 _ rfl
      have u4 := hX10.cell 4 _ rfl
      have u5 := hX10.cell 5 _ rfl
      have u6 := hX10.cell 6 _ rfl
      have u7 := hX10.cell 7 _ rfl
      rw [hw10, HW9.out] at u0 u1 u2 u3 u4 u5 u6 u7
      clear hX10 hZ10 hB10 hO10 hw10
      go_wp2_with fail
      rw [← HW9.out, ← HW10.out]
      refine HS.out.mono ?_
      rintro e w11 ⟨rfl, hb11⟩
      have HZ11 := Lib.hid (HZ10.out.below hb11 HZ10.out.size)
      have HB11 := Lib.hid (HB10.out.trans (hb11.mono (by omega)))
      have z0 := HZ11.out.cell 0 _ rfl
      have z1 := HZ11.out.cell 1 _ rfl
      have z2 := HZ11.out.cell 2 _ rfl
      have z3 := HZ11.out.cell 3 _ rfl
      have z4 := HZ11.out.cell 4 _ rfl
      have z5 := HZ11.out.cell 5 _ rfl
      have z6 := HZ11.out.cell 6 _ rfl
      have z7 := HZ11.out.cell 7 _ rfl
      have g0 := HZ11.out.frozen 0
      have g1 := HZ11.out.frozen 1
      have g2 := HZ11.out.frozen 2
      have g3 := HZ11.out.frozen 3
      have g4 := HZ11.out.frozen 4
      have g5 := HZ11.out.frozen 5
      have g6 := HZ11.out.frozen 6
      have g7 := HZ11.out.frozen 7
      clear hb11 u0 u1 u2 u3 u4 u5 u6 u7
      go_wp2_with fail
      have hZ8 := ((((((((HZ11.out.put 0 (.int .i64 0)).put 1 (.int .i64 0)).put 2 (.int .i64 0)).put 3 (.int .i64 0)).put 4 (.int .i64 0)).put 5 (.int .i64 0)).put 6 (.int .i64 0)).put 7 (.slice none 0 0))
      simp only [List.set] at hZ8
      have R0 := hZ8.cell 0 _ rfl
      have R1 := hZ8.cell 1 _ rfl
      have R2 := hZ8.cell 2 _ rfl
      have R3 := hZ8.cell 3 _ rfl
      have R4 := hZ8.cell 4 _ rfl
      have R5 := hZ8.cell 5 _ rfl
      have R6 := hZ8.cell 6 _ rfl
      have R7 := hZ8.cell 7 _ rfl
      refine bodyPost_ret (v := .tuple #[.agg #[.int .i64 0, .int .i64 0, .int .i64 0, .int .i64 0, .int .i64 0, .int .i64 0, .int .i64 0, .slice none 0 0], .int .i64 2]) (by simp [results, Try.results23, go_sem, R0, R1, R2, R3, R4, R5, R6, R7]) rfl ⟨.slice none 0 0, by rw [HRE.out]; rfl, by rw [HRE.out]; exact Rd.nil _ _, ?_⟩
      rw [← HZE.out]
      exact ((((((((HB11.out.setCell (p := ⟨Z, 0, none⟩) (Nat.le_refl _) (.int .i64 0)).setCell (p := ⟨Z, 1, none⟩) (Nat.le_refl _) (.int .i64 0)).setCell (p := ⟨Z, 2, none⟩) (Nat.le_refl _) (.int .i64 0)).setCell (p := ⟨Z, 3, none⟩) (Nat.le_refl _) (.int .i64 0)).setCell (p := ⟨Z, 4, none⟩) (Nat.le_refl _) (.int .i64 0)).setCell (p := ⟨Z, 5, none⟩) (Nat.le_refl _) (.int .i64 0)).setCell (p := ⟨Z, 6, none⟩) (Nat.le_refl _) (.int .i64 0)).setCell (p := ⟨Z, 7, none⟩) (Nat.le_refl _) (.slice none 0 0))
    rw [decide_eq_true hsv] at hS
    rw [if_pos ⟨rfl, hsv⟩] at hre
    have HRE := Lib.hid hre; clear hre
    have HS := Lib.hid hS; clear hS hsv
    have u0 := hX10.cell 0 _ rfl
    have u1 := hX10.cell 1 _ rfl
    have u2 := hX10.cell 2 _ rfl
    have u3 := hX10.cell 3 _ rfl
    have u4 := hX10.cell 4 _ rfl
    have u5 := hX10.cell 5 _ rfl
    have u6 := hX10.cell 6 _ rfl
    have u7 := hX10.cell 7 _ rfl
    rw [hw10, HW9.out] at u0 u1 u2 u3 u4 u5 u6 u7
    clear hX10 hZ10 hB10 hO10 hw10
    go_wp2_with fail
    rw [← HW9.out, ← HW10.out]
    refine HS.out.mono ?_
    rintro e w11 ⟨rfl, hb11⟩
    have HZ11 := Lib.hid (HZ10.out.below hb11 HZ10.out.size)
    have hX11 := HX10.out.below hb11 HX10.out.size
    have HB11 := Lib.hid (HB10.out.trans (hb11.mono (by omega)))
    have HO11 := Lib.hid (HO10.out.below hb11 (Nat.le_refl _))
    have z0 := HZ11.out.cell 0 _ rfl
    have z1 := HZ11.out.cell 1 _ rfl
    have z2 := HZ11.out.cell 2 _ rfl
    have z3 := HZ11.out.cell 3 _ rfl
    have z4 := HZ11.out.cell 4 _ rfl
    have z5 := HZ11.out.cell 5 _ rfl
    have z6 := HZ11.out.cell 6 _ rfl
    have z7 := HZ11.out.cell 7 _ rfl
    have g0 := HZ11.out.frozen 0
    have g1 := HZ11.out.frozen 1
    have g2 := HZ11.out.frozen 2
    have g3 := HZ11.out.frozen 3
    have g4 := HZ11.out.frozen 4
    have g5 := HZ11.out.frozen 5
    have g6 := HZ11.out.frozen 6
    have g7 := HZ11.out.frozen 7
    clear u0 u1 u2 u3 u4 u5 u6 u7
    have u0 := hX11.cell 0 _ rfl
    have u1 := hX11.cell 1 _ rfl
    have u2 := hX11.cell 2 _ rfl
    have u3 := hX11.cell 3 _ rfl
    have u4 := hX11.cell 4 _ rfl
    have u5 := hX11.cell 5 _ rfl
    have u6 := hX11.cell 6 _ rfl
    have u7 := hX11.cell 7 _ rfl
    clear hb11 hX11
    go_wp2_with fail
    have hZ8 := ((((((((HZ11.out.put 0 (.int .i64 n1)).put 1 (.int .i64 n2)).put 2 (.int .i64 n3)).put 3 (.int .i64 n4)).put 4 (.int .i64 sg)).put 5 (.int .i64 se)).put 6 (.int .i64 sr)).put 7 (.slice A8 sch.length c8))
    simp only [List.set] at hZ8
    have R0 := hZ8.cell 0 _ rfl
    have R1 := hZ8.cell 1 _ rfl
    have R2 := hZ8.cell 2 _ rfl
    have R3 := hZ8.cell 3 _ rfl
    have R4 := hZ8.cell 4 _ rfl
    have R5 := hZ8.cell 5 _ rfl
    have R6 := hZ8.cell 6 _ rfl
    have R7 := hZ8.cell 7 _ rfl
    refine bodyPost_ret (v := .tuple #[.agg #[.int .i64 n1, .int .i64 n2, .int .i64 n3, .int .i64 n4, .int .i64 sg, .int .i64 se, .int .i64 sr, .slice A8 sch.length c8], .int .i64 0]) (by simp [results, Try.results23, go_sem, R0, R1, R2, R3, R4, R5, R6, R7]) rfl ⟨.slice A8 sch.length c8, by rw [HRE.out]; rfl, by rw [HRE.out]; exact Own.rd encI_len ((((((((HO11.out.put HZ11.out (by decide) 0 (.int .i64 n1)).put (HZ11.out.put 0 (.int .i64 n1)) (by decide) 1 (.int .i64 n2)).put ((HZ11.out.put 0 (.int .i64 n1)).put 1 (.int .i64 n2)) (by decide) 2 (.int .i64 n3)).put (((HZ11.out.put 0 (.int .i64 n1)).put 1 (.int .i64 n2)).put 2 (.int .i64 n3)) (by decide) 3 (.int .i64 n4)).put ((((HZ11.out.put 0 (.int .i64 n1)).put 1 (.int .i64 n2)).put 2 (.int .i64 n3)).put 3 (.int .i64 n4)) (by decide) 4 (.int .i64 sg)).put (((((HZ11.out.put 0 (.int .i64 n1)).put 1 (.int .i64 n2)).put 2 (.int .i64 n3)).put 3 (.int .i64 n4)).put 4 (.int .i64 sg)) (by decide) 5 (.int .i64 se)).put ((((((HZ11.out.put 0 (.int .i64 n1)).put 1 (.int .i64 n2)).put 2 (.int .i64 n3)).put 3 (.int .i64 n4)).put 4 (.int .i64 sg)).put 5 (.int .i64 se)) (by decide) 6 (.int .i64 sr)).put (((((((HZ11.out.put 0 (.int .i64 n1)).put 1 (.int .i64 n2)).put 2 (.int .i64 n3)).put 3 (.int .i64 n4)).put 4 (.int .i64 sg)).put 5 (.int .i64 se)).put 6 (.int .i64 sr)) (by decide) 7 (.slice A8 sch.length c8)), ?_⟩
    rw [← HZE.out]
    exact ((((((((HB11.out.setCell (p := ⟨Z, 0, none⟩) (Nat.le_refl _) (.int .i64 n1)).setCell (p := ⟨Z, 1, none⟩) (Nat.le_refl _) (.int .i64 n2)).setCell (p := ⟨Z, 2, none⟩) (Nat.le_refl _) (.int .i64 n3)).setCell (p := ⟨Z, 3, none⟩) (Nat.le_refl _) (.int .i64 n4)).setCell (p := ⟨Z, 4, none⟩) (Nat.le_refl _) (.int .i64 sg)).setCell (p := ⟨Z, 5, none⟩) (Nat.le_refl _) (.int .i64 se)).setCell (p := ⟨Z, 6, none⟩) (Nat.le_refl _) (.int .i64 sr)).setCell (p := ⟨Z, 7, none⟩) (Nat.le_refl _) (.slice A8 sch.length c8))
end Go.Proofs.Ytjmojlhebjbgaaa
namespace Go.Proofs.Ytjmojlhebjbgaaa
open Go.RowKit
attribute [local go_sem] less_eq same_eq le_eq ge_eq gt_eq

theorem stn_lt (l : List UInt8) (k : Nat) : 0 ≤ stn l k ∧ stn l k < 9223372036854775808 := rdN_lt _
theorem getSta_sound {r : List UInt8} (h : (getSta r).2 = 0) : soundS (getSta r).1 := by
  unfold getSta at h ⊢
  split at h
  · rename_i hs
    rw [if_pos hs]
    exact hs.2
  · exact absurd h (by decide)
theorem stc_zero (l : List UInt8) (j : Nat) : stc l 0 j = .int .i64 0 := by unfold stc; rw [if_neg (by omega)]
theorem stc_four (l : List UInt8) (j : Nat) (h : j < 4) : stc l 4 j = .int .i64 (stn l j) := by unfold stc; rw [if_pos h]
/-- what Decode answers, by what it finds -/
theorem decV_none {l : List UInt8} (h : stg l 4 = none) : decV l = (zeroV, 2) := decV_bad (by rw [rd4_stg]; exact h)
theorem decV_got {l r : List UInt8} (h : stg l 4 = some r) : ((getSta r).2 ≠ 0 ∧ decV l = (zeroV, 2)) ∨ ((getSta r).2 = 0 ∧ lessB (stn l 0, stn l 1) (stn l 2, stn l 3) = true ∧ decV l = (zeroV, 2)) ∨
    ((getSta r).2 = 0 ∧ lessB (stn l 0, stn l 1) (stn l 2, stn l 3) = false ∧ decV l = (⟨(stn l 0, stn l 1), (stn l 2, stn l 3), (getSta r).1⟩, 0)) := by
  have hd := decV_some (l := l) (r := r) (a := stn l 0) (b := stn l 1) (c := stn l 2) (d := stn l 3) (by rw [rd4_stg, h])
  rw [hd]
  by_cases h2 : (getSta r).2 = 0
  · cases hL : lessB (stn l 0, stn l 1) (stn l 2, stn l 3) with
    | true =>
      refine .inr (.inl ⟨h2, rfl, ?_⟩)
      rw [if_neg]
      rintro ⟨_, _, _, h⟩
      simp only at h
      rw [h] at hL
      cases hL
    | false =>
      refine .inr (.inr ⟨h2, rfl, ?_⟩)
      rw [if_pos ⟨h2, ⟨(stn_lt l 0).1, (stn_lt l 1).1, (stn_lt l 2).1, (stn_lt l 3).1⟩, getSta_sound h2, hL⟩]
  · exact .inl ⟨h2, by rw [if_neg fun h => h2 h.1]⟩

set_option maxHeartbeats 8000000 in
set_option maxRecDepth 100000 in
theorem vdecode_any (l : List UInt8) (v : Value) (w : World) (hv : RdB w w.heap.size v l) (hl : l.length < 4611686018427387904) :
    Calls Try.prog 22 #[v] w fun e w' => ∃ v', e = .returned (.tuple #[vwv (decV l).1 v', .int .i64 (decV l).2]) ∧ RdI w' w'.heap.size v' (decV l).1.took.chests ∧ Below w.heap.size w w' := by
  obtain ⟨A0, c0, rfl, -, -⟩ := hv.at
  obtain ⟨D, hD⟩ : ∃ D, D = decV l := ⟨_, rfl⟩
  have hnn := fun h => hD.trans (decV_none (l := l) h)
  have hgt := fun r h => decV_got (l := l) (r := r) h
  rw [← hD] at hgt ⊢
  have HNN := Lib.hid hnn
  have HGT := Lib.hid hgt
  clear hnn hgt hD
  have HL := Lib.hid (fun a b W => pless_any a b W)
  obtain ⟨g, hg⟩ : ∃ g, g = w.heap.size := ⟨_, rfl⟩
  obtain ⟨w1, hw1⟩ : ∃ w1, w1 = w.alloc (.cells #[.int .i64 0, .int .i64 0, .int .i64 0, .int .i64 0, .int .i64 0, .int .i64 0, .int .i64 0, .slice none 0 0] 31) := ⟨_, rfl⟩
  obtain ⟨w2, hw2⟩ : ∃ w2, w2 = w1.alloc (.cells #[.int .i64 0, .int .i64 0] 23) := ⟨_, rfl⟩
  obtain ⟨w3, hw3⟩ : ∃ w3, w3 = w2.alloc (.cells #[.int .i64 0, .int .i64 0] 23) := ⟨_, rfl⟩
  obtain ⟨w4, hw4⟩ : ∃ w4, w4 = w3.alloc (.cells #[.pointer (some ⟨g + 1, 0, none⟩), .pointer (some ⟨g + 1 + 1, 0, none⟩)] 66) := ⟨_, rfl⟩
  have hs1 : w1.heap.size = g + 1 := by rw [hw1, hg]; simp
  have hs2 : w2.heap.size = g + 1 + 1 := by rw [hw2, World.size_alloc, hs1]
  have hs3 : w3.heap.size = g + 1 + 2 := by rw [hw3, World.size_alloc, hs2]
  have hs4 : w4.heap.size = g + 1 + 3 := by rw [hw4, World.size_alloc, hs3]
  have hZ : Whole w4 g 31 [.int .i64 0, .int .i64 0, .int .i64 0, .int .i64 0, .int .i64 0, .int .i64 0, .int .i64 0, .slice none 0 0] := by
    rw [hw4, hw3, hw2, hw1, hg]; exact (((Whole.fresh w _ [.int .i64 0, .int .i64 0, .int .i64 0, .int .i64 0, .int .i64 0, .int .i64 0, .int .i64 0, .slice none 0 0]).alloc _).alloc _).alloc _
  have hb4 : Below g w w4 := by
    rw [hw4]; refine Below.alloc ?_ (by omega) _; rw [hw3]; refine Below.alloc ?_ (by omega) _; rw [hw2]; refine Below.alloc ?_ (by omega) _; rw [hw1]; exact (Below.refl _ w).alloc (by omega) _
  have hG : GbAt l (g + 1) w4 0 w4 l A0 c0 := by
    refine ⟨rfl, (hv.below (by rw [← hg]; exact hb4) (Nat.le_refl _)).mono (by omega), hl, ?_, ?_, ?_, Mv.refl _ _, by omega⟩
    · rw [stc_zero, stc_zero, hw4, hw3, hw2, ← hs1]; exact ((Whole.fresh w1 _ [_, _]).alloc _).alloc _
    · rw [stc_zero, stc_zero, hw4, hw3, ← hs2]; exact (Whole.fresh w2 _ [_, _]).alloc _
    · rw [hw4, ← hs3]; exact Whole.fresh w3 _ [_, _]
  have HC := Lib.hid (getBallots_any l (g + 1) A0 c0 w4 hG)
  have HZ := Lib.hid hZ
  have HB4 := Lib.hid hb4
  have HS4 := Lib.hid hs4
  have HG := Lib.hid hg
  clear hZ hb4 hG hs1 hs2 hs3 hs4 hv
  go_enter Try.func22, Try.ntmps22
  go_wp2_with fail
  rw [← hg, ← hw1, ← hw2, ← hw3, ← hw4]
  clear hw1 hw2 hw3 hw4 hg
  refine HC.out.mono ?_
  rintro e w5 ⟨hm5, hz5, hcase⟩
  have hZ5 := hm5.whole HZ.out (by omega)
  have HB5 := Lib.hid (show Below g w w5 from HB4.out.trans (hm5.below (by have := HS4.out; omega) (by intro i hi; omega)))
  clear HC HB4
  rcases hcase with ⟨hn, x, hx, rfl⟩ | ⟨r, A, c, rfl, hA⟩
  · have HE := Lib.hid (HNN.out hn)
    have z0 := hZ5.cell 0 _ rfl
    have f0 := hZ5.frozen 0
    have z1 := hZ5.cell 1 _ rfl
    have f1 := hZ5.frozen 1
    have z2 := hZ5.cell 2 _ rfl
    have f2 := hZ5.frozen 2
    have z3 := hZ5.cell 3 _ rfl
    have f3 := hZ5.frozen 3
    have z4 := hZ5.cell 4 _ rfl
    have f4 := hZ5.frozen 4
    have z5 := hZ5.cell 5 _ rfl
    have f5 := hZ5.frozen 5
    have z6 := hZ5.cell 6 _ rfl
    have f6 := hZ5.frozen 6
    have z7 := hZ5.cell 7 _ rfl
    have f7 := hZ5.frozen 7
    have HZ5 := Lib.hid hZ5
    clear hZ5 hm5
    go_wp2_with fail
    have hZ8 := ((((((((HZ5.out.put 0 (.int .i64 0)).put 1 (.int .i64 0)).put 2 (.int .i64 0)).put 3 (.int .i64 0)).put 4 (.int .i64 0)).put 5 (.int .i64 0)).put 6 (.int .i64 0)).put 7 (.slice none 0 0))
    simp only [List.set] at hZ8
    have R0 := hZ8.cell 0 _ rfl
    have R1 := hZ8.cell 1 _ rfl
    have R2 := hZ8.cell 2 _ rfl
    have R3 := hZ8.cell 3 _ rfl
    have R4 := hZ8.cell 4 _ rfl
    have R5 := hZ8.cell 5 _ rfl
    have R6 := hZ8.cell 6 _ rfl
    have R7 := hZ8.cell 7 _ rfl
    have hb8 := ((((((((HB5.out.setCell (p := ⟨g, 0, none⟩) (Nat.le_refl _) (.int .i64 0)).setCell (p := ⟨g, 1, none⟩) (Nat.le_refl _) (.int .i64 0)).setCell (p := ⟨g, 2, none⟩) (Nat.le_refl _) (.int .i64 0)).setCell (p := ⟨g, 3, none⟩) (Nat.le_refl _) (.int .i64 0)).setCell (p := ⟨g, 4, none⟩) (Nat.le_refl _) (.int .i64 0)).setCell (p := ⟨g, 5, none⟩) (Nat.le_refl _) (.int .i64 0)).setCell (p := ⟨g, 6, none⟩) (Nat.le_refl _) (.int .i64 0)).setCell (p := ⟨g, 7, none⟩) (Nat.le_refl _) (.slice none 0 0))
    exact bodyPost_ret (v := .tuple #[.agg #[.int .i64 0, .int .i64 0, .int .i64 0, .int .i64 0, .int .i64 0, .int .i64 0, .int .i64 0, .slice none 0 0], .int .i64 2]) (by simp [results, Try.results22, go_sem, R0, R1, R2, R3, R4, R5, R6, R7]) rfl ⟨.slice none 0 0, by rw [HE.out]; rfl, by rw [HE.out]; exact Rd.nil _ _, by rw [← HG.out]; exact hb8⟩
  · have HGA := Lib.hid hA
    have HZ5 := Lib.hid hZ5
    have HGS := Lib.hid (pgetSO r (.slice A r.length c) w5 (hA.rd.mono (by have := hA.sz; omega)) hA.len)
    have hcs := HGT.out r hA.st
    have hfit : (getSta r).1.chests.length < 4611686018427387904 := getSta_fit r
    clear hA hZ5 hm5
    generalize getSta r = S at HGS hcs hfit
    obtain ⟨⟨s1, s2, s3, sh⟩, s⟩ := S
    unfold sval at HGS
    simp only at HGS hcs hfit
    have HCS := Lib.hid hcs
    clear hcs
    go_wp2_with fail
    refine HGS.out.mono ?_
    rintro e w6 ⟨v6, rfl, ho6, hb6⟩
    obtain ⟨A6, c6, rfl, -, -⟩ := (OwnI.rdI ho6).at
    obtain ⟨w7, hw7⟩ : ∃ w7, w7 = w6.alloc (.cells #[.int .i64 s1, .int .i64 s2, .int .i64 s3, .slice A6 sh.length c6] 29) := ⟨_, rfl⟩
    have hb7 : Below w5.heap.size w5 w7 := by rw [hw7]; exact hb6.alloc hb6.size _
    have hU7 : Whole w7 w6.heap.size 29 [.int .i64 s1, .int .i64 s2, .int .i64 s3, .slice A6 sh.length c6] := by rw [hw7]; exact Whole.fresh w6 _ [_, _, _, _]
    have HU7 := Lib.hid hU7
    have HZ7 := Lib.hid (HZ5.out.below hb7 HZ5.out.size)
    have HB7 := Lib.hid (HB5.out.trans (hb7.mono (by have := HZ5.out.size; omega)))
    have hP7 := HGA.out.p.below hb7 HGA.out.p.size
    have hQ7 := HGA.out.q.below hb7 HGA.out.q.size
    rw [stc_four l _ (by omega), stc_four l _ (by omega)] at hP7 hQ7
    have hll := HL.out (stn l 0, stn l 1) (stn l 2, stn l 3)
    unfold blv at hll
    simp only at hll
    have HLL := Lib.hid hll
    clear hll
    generalize stn l 0 = n0 at hP7 hQ7 HCS HLL
    generalize stn l 1 = n1 at hP7 hQ7 HCS HLL
    generalize stn l 2 = n2 at hP7 hQ7 HCS HLL
    generalize stn l 3 = n3 at hP7 hQ7 HCS HLL
    generalize lessB (n0, n1) (n2, n3) = q at HCS HLL
    have HP7 := Lib.hid hP7
    have HQ7 := Lib.hid hQ7
    have HSZ := Lib.hid (show w6.heap.size < w7.heap.size from hU7.size)
    have HG5 := Lib.hid (HZ5.out.size)
    have HS56 := Lib.hid hb6.size
    clear hP7 hQ7
    have HO7 := Lib.hid (show OwnI w7 w5.heap.size (.slice A6 sh.length c6) sh from by rw [hw7]; exact ho6.alloc _)
    have HG5 := Lib.hid HZ5.out.size
    obtain ⟨t, ht⟩ : ∃ t, t = w6.heap.size := ⟨_, rfl⟩
    have HT := Lib.hid ht
    have hw7' := hw7.symm
    clear hb7 hU7 ho6 hb6 hw7
    rcases HCS.out with ⟨hs, hE⟩ | ⟨hs, hlt, hE⟩ | ⟨hs, hlt, hE⟩
    · have HE := Lib.hid hE
      clear hE HCS
      have z0 := HZ7.out.cell 0 _ rfl
      have f0 := HZ7.out.frozen 0
      have z1 := HZ7.out.cell 1 _ rfl
      have f1 := HZ7.out.frozen 1
      have z2 := HZ7.out.cell 2 _ rfl
      have f2 := HZ7.out.frozen 2
      have z3 := HZ7.out.cell 3 _ rfl
      have f3 := HZ7.out.frozen 3
      have z4 := HZ7.out.cell 4 _ rfl
      have f4 := HZ7.out.frozen 4
      have z5 := HZ7.out.cell 5 _ rfl
      have f5 := HZ7.out.frozen 5
      have z6 := HZ7.out.cell 6 _ rfl
      have f6 := HZ7.out.frozen 6
      have z7 := HZ7.out.cell 7 _ rfl
      have f7 := HZ7.out.frozen 7
      go_wp2_with fail
      have hZ8 := ((((((((HZ7.out.put 0 (.int .i64 0)).put 1 (.int .i64 0)).put 2 (.int .i64 0)).put 3 (.int .i64 0)).put 4 (.int .i64 0)).put 5 (.int .i64 0)).put 6 (.int .i64 0)).put 7 (.slice none 0 0))
      simp only [List.set] at hZ8
      have R0 := hZ8.cell 0 _ rfl
      have R1 := hZ8.cell 1 _ rfl
      have R2 := hZ8.cell 2 _ rfl
      have R3 := hZ8.cell 3 _ rfl
      have R4 := hZ8.cell 4 _ rfl
      have R5 := hZ8.cell 5 _ rfl
      have R6 := hZ8.cell 6 _ rfl
      have R7 := hZ8.cell 7 _ rfl
      have hb8 := ((((((((HB7.out.setCell (p := ⟨g, 0, none⟩) (Nat.le_refl _) (.int .i64 0)).setCell (p := ⟨g, 1, none⟩) (Nat.le_refl _) (.int .i64 0)).setCell (p := ⟨g, 2, none⟩) (Nat.le_refl _) (.int .i64 0)).setCell (p := ⟨g, 3, none⟩) (Nat.le_refl _) (.int .i64 0)).setCell (p := ⟨g, 4, none⟩) (Nat.le_refl _) (.int .i64 0)).setCell (p := ⟨g, 5, none⟩) (Nat.le_refl _) (.int .i64 0)).setCell (p := ⟨g, 6, none⟩) (Nat.le_refl _) (.int .i64 0)).setCell (p := ⟨g, 7, none⟩) (Nat.le_refl _) (.slice none 0 0))
      exact bodyPost_ret (v := .tuple #[.agg #[.int .i64 0, .int .i64 0, .int .i64 0, .int .i64 0, .int .i64 0, .int .i64 0, .int .i64 0, .slice none 0 0], .int .i64 2]) (by simp [results, Try.results22, go_sem, R0, R1, R2, R3, R4, R5, R6, R7]) rfl ⟨.slice none 0 0, by rw [HE.out]; rfl, by rw [HE.out]; exact Rd.nil _ _, by rw [← HG.out]; exact hb8⟩
    · have HE := Lib.hid hE
      subst hs hlt
      clear hE HCS
      have p0 := HP7.out.cell 0 _ rfl
      have p1 := HP7.out.cell 1 _ rfl
      have q0 := HQ7.out.cell 0 _ rfl
      have q1 := HQ7.out.cell 1 _ rfl
      go_wp2_with fail
      refine (HLL.out w7).mono ?_
      rintro e w8 ⟨rfl, hb8⟩
      have hsz := HSZ.out
      have hg5 := HG5.out
      have hs56 := HS56.out
      have HZ8 := Lib.hid (HZ7.out.below hb8 (by omega))
      have HB8 := Lib.hid (HB7.out.trans (hb8.mono (by omega)))
      clear hb8 p0 p1 q0 q1 hsz hg5 hs56
      have z0 := HZ8.out.cell 0 _ rfl
      have f0 := HZ8.out.frozen 0
      have z1 := HZ8.out.cell 1 _ rfl
      have f1 := HZ8.out.frozen 1
      have z2 := HZ8.out.cell 2 _ rfl
      have f2 := HZ8.out.frozen 2
      have z3 := HZ8.out.cell 3 _ rfl
      have f3 := HZ8.out.frozen 3
      have z4 := HZ8.out.cell 4 _ rfl
      have f4 := HZ8.out.frozen 4
      have z5 := HZ8.out.cell 5 _ rfl
      have f5 := HZ8.out.frozen 5
      have z6 := HZ8.out.cell 6 _ rfl
      have f6 := HZ8.out.frozen 6
      have z7 := HZ8.out.cell 7 _ rfl
      have f7 := HZ8.out.frozen 7
      go_wp2_with fail
      have hZ8 := ((((((((HZ8.out.put 0 (.int .i64 0)).put 1 (.int .i64 0)).put 2 (.int .i64 0)).put 3 (.int .i64 0)).put 4 (.int .i64 0)).put 5 (.int .i64 0)).put 6 (.int .i64 0)).put 7 (.slice none 0 0))
      simp only [List.set] at hZ8
      have R0 := hZ8.cell 0 _ rfl
      have R1 := hZ8.cell 1 _ rfl
      have R2 := hZ8.cell 2 _ rfl
      have R3 := hZ8.cell 3 _ rfl
      have R4 := hZ8.cell 4 _ rfl
      have R5 := hZ8.cell 5 _ rfl
      have R6 := hZ8.cell 6 _ rfl
      have R7 := hZ8.cell 7 _ rfl
      have hb8 := ((((((((HB8.out.setCell (p := ⟨g, 0, none⟩) (Nat.le_refl _) (.int .i64 0)).setCell (p := ⟨g, 1, none⟩) (Nat.le_refl _) (.int .i64 0)).setCell (p := ⟨g, 2, none⟩) (Nat.le_refl _) (.int .i64 0)).setCell (p := ⟨g, 3, none⟩) (Nat.le_refl _) (.int .i64 0)).setCell (p := ⟨g, 4, none⟩) (Nat.le_refl _) (.int .i64 0)).setCell (p := ⟨g, 5, none⟩) (Nat.le_refl _) (.int .i64 0)).setCell (p := ⟨g, 6, none⟩) (Nat.le_refl _) (.int .i64 0)).setCell (p := ⟨g, 7, none⟩) (Nat.le_refl _) (.slice none 0 0))
      exact bodyPost_ret (v := .tuple #[.agg #[.int .i64 0, .int .i64 0, .int .i64 0, .int .i64 0, .int .i64 0, .int .i64 0, .int .i64 0, .slice none 0 0], .int .i64 2]) (by simp [results, Try.results22, go_sem, R0, R1, R2, R3, R4, R5, R6, R7]) rfl ⟨.slice none 0 0, by rw [HE.out]; rfl, by rw [HE.out]; exact Rd.nil _ _, by rw [← HG.out]; exact hb8⟩
    · have HE := Lib.hid hE
      subst hs hlt
      clear hE HCS
      have p0 := HP7.out.cell 0 _ rfl
      have p1 := HP7.out.cell 1 _ rfl
      have q0 := HQ7.out.cell 0 _ rfl
      have q1 := HQ7.out.cell 1 _ rfl
      go_wp2_with fail
      refine (HLL.out w7).mono ?_
      rintro e w8 ⟨rfl, hb8⟩
      have hsz := HSZ.out
      have hg5 := HG5.out
      have hs56 := HS56.out
      have HZ8 := Lib.hid (HZ7.out.below hb8 (by omega))
      have HB8 := Lib.hid (HB7.out.trans (hb8.mono (by omega)))
      have hP8 := HP7.out.below hb8 HP7.out.size
      have hQ8 := HQ7.out.below hb8 HQ7.out.size
      have hU8 := HU7.out.below hb8 HU7.out.size
      have HO8 := Lib.hid (HO7.out.below hb8 (Nat.le_refl _))
      clear hb8 p0 p1 q0 q1 hsz hg5 hs56
      have p0 := hP8.cell 0 _ rfl
      have p1 := hP8.cell 1 _ rfl
      have q0 := hQ8.cell 0 _ rfl
      have q1 := hQ8.cell 1 _ rfl
      have u0 := hU8.cell 0 _ rfl
      have u1 := hU8.cell 1 _ rfl
      have u2 := hU8.cell 2 _ rfl
      have u3 := hU8.cell 3 _ rfl
      clear hP8 hQ8 hU8
      have z0 := HZ8.out.cell 0 _ rfl
      have f0 := HZ8.out.frozen 0
      have z1 := HZ8.out.cell 1 _ rfl
      have f1 := HZ8.out.frozen 1
      have z2 := HZ8.out.cell 2 _ rfl
      have f2 := HZ8.out.frozen 2
      have z3 := HZ8.out.cell 3 _ rfl
      have f3 := HZ8.out.frozen 3
      have z4 := HZ8.out.cell 4 _ rfl
      have f4 := HZ8.out.frozen 4
      have z5 := HZ8.out.cell 5 _ rfl
      have f5 := HZ8.out.frozen 5
      have z6 := HZ8.out.cell 6 _ rfl
      have f6 := HZ8.out.frozen 6
      have z7 := HZ8.out.cell 7 _ rfl
      have f7 := HZ8.out.frozen 7
      go_wp2_with fail
      have hZ8 := ((((((((HZ8.out.put 0 (.int .i64 n0)).put 1 (.int .i64 n1)).put 2 (.int .i64 n2)).put 3 (.int .i64 n3)).put 4 (.int .i64 s1)).put 5 (.int .i64 s2)).put 6 (.int .i64 s3)).put 7 (.slice A6 sh.length c6))
      simp only [List.set] at hZ8
      have R0 := hZ8.cell 0 _ rfl
      have R1 := hZ8.cell 1 _ rfl
      have R2 := hZ8.cell 2 _ rfl
      have R3 := hZ8.cell 3 _ rfl
      have R4 := hZ8.cell 4 _ rfl
      have R5 := hZ8.cell 5 _ rfl
      have R6 := hZ8.cell 6 _ rfl
      have R7 := hZ8.cell 7 _ rfl
      have hb8 := ((((((((HB8.out.setCell (p := ⟨g, 0, none⟩) (Nat.le_refl _) (.int .i64 n0)).setCell (p := ⟨g, 1, none⟩) (Nat.le_refl _) (.int .i64 n1)).setCell (p := ⟨g, 2, none⟩) (Nat.le_refl _) (.int .i64 n2)).setCell (p := ⟨g, 3, none⟩) (Nat.le_refl _) (.int .i64 n3)).setCell (p := ⟨g, 4, none⟩) (Nat.le_refl _) (.int .i64 s1)).setCell (p := ⟨g, 5, none⟩) (Nat.le_refl _) (.int .i64 s2)).setCell (p := ⟨g, 6, none⟩) (Nat.le_refl _) (.int .i64 s3)).setCell (p := ⟨g, 7, none⟩) (Nat.le_refl _) (.slice A6 sh.length c6))
      exact bodyPost_ret (v := .tuple #[.agg #[.int .i64 n0, .int .i64 n1, .int .i64 n2, .int .i64 n3, .int .i64 s1, .int .i64 s2, .int .i64 s3, .slice A6 sh.length c6], .int .i64 0]) (by simp [results, Try.results22, go_sem, R0, R1, R2, R3, R4, R5, R6, R7]) rfl ⟨.slice A6 sh.length c6, by rw [HE.out]; rfl, by rw [HE.out]; exact OwnI.rdI ((((((((HO8.out.off (p := ⟨g, 0, none⟩) (by have := HG5.out; show g < w5.heap.size; omega) (.int .i64 n0)).off (p := ⟨g, 1, none⟩) (by have := HG5.out; show g < w5.heap.size; omega) (.int .i64 n1)).off (p := ⟨g, 2, none⟩) (by have := HG5.out; show g < w5.heap.size; omega) (.int .i64 n2)).off (p := ⟨g, 3, none⟩) (by have := HG5.out; show g < w5.heap.size; omega) (.int .i64 n3)).off (p := ⟨g, 4, none⟩) (by have := HG5.out; show g < w5.heap.size; omega) (.int .i64 s1)).off (p := ⟨g, 5, none⟩) (by have := HG5.out; show g < w5.heap.size; omega) (.int .i64 s2)).off (p := ⟨g, 6, none⟩) (by have := HG5.out; show g < w5.heap.size; omega) (.int .i64 s3)).off (p := ⟨g, 7, none⟩) (by have := HG5.out; show g < w5.heap.size; omega) (.slice A6 sh.length c6)), by rw [← HG.out]; exact hb8⟩
end Go.Proofs.Ytjmojlhebjbgaaa

namespace Go.Proofs.Ytjmojlhebjbgaaa
open Go.RowKit
attribute [local go_sem] less_eq same_eq le_eq ge_eq gt_eq

theorem bal_guard : True := trivial
set_option maxRecDepth 100000 in
theorem eql_ball (a b c d : Int) (W : World) : (binOp .eql 23 (.agg #[.int .i64 a, .int .i64 b]) (.agg #[.int .i64 c, .int .i64 d])).run Try.prog W = .ok (.bool (decide (a = c) && decide (b = d))) W := by
  have hS : Try.prog.underlying 23 = some (.struct (Try.prog.fieldsOf 23)) := by kernel_rfl
  have hp : Try.prog.stoodInHeld 23 = false := by kernel_rfl
  have u0 := Try.underlying3
  have ag0 := Try.isAgg3
  have sz0 := Try.sizeOf3
  rw [run_eql_struct, show (10000 : Nat) = 9999 + 1 from rfl, run_equalIn_agg W 9999 23 _ _ hS hp]
  simp only [Program.fieldsOf, Try.underlying23]
  go_simp
  by_cases h1 : a = c <;> by_cases h2 : b = d <;> simp [h1, h2]
set_option maxRecDepth 100000 in
theorem neq_ball (a b c d : Int) (W : World) : (binOp .neq 23 (.agg #[.int .i64 a, .int .i64 b]) (.agg #[.int .i64 c, .int .i64 d])).run Try.prog W = .ok (.bool (!(decide (a = c) && decide (b = d)))) W := by
  have h := eql_ball a b c d W
  rw [run_eql_struct] at h
  rw [run_neq_struct]
  cases hr : (Op.equalIn 10000 23 (.agg #[.int .i64 a, .int .i64 b]) (.agg #[.int .i64 c, .int .i64 d])).run Try.prog W with
  | ok x w' => rw [hr] at h; simp only [Result.andThen] at h ⊢; injection h with h1 h2; subst h2; injection h1 with h1; rw [h1]
  | halt x w' => rw [hr] at h; simp [Result.andThen] at h
set_option maxRecDepth 100000 in
theorem field_gen (g e r : Int) (v : Value) (W : World) : (Instr.field 29 (.agg #[.int .i64 g, .int .i64 e, .int .i64 r, v]) 0).run Try.prog W = .ok (.int .i64 g) W := by
  kernel_rfl
theorem RdEw.two (w : World) (x y : Ew) : RdEw (w.alloc (.cells (encEw x ++ encEw y).toArray 31)) (w.heap.size + 1) (.slice (some ⟨w.heap.size, 0, none⟩) 2 2) [x, y] := by
  refine ⟨_, 2, rfl, Nat.le_refl _, fun i hi => ⟨w.heap.size, 0, rfl, Nat.lt_succ_self _, fun j u hu => ?_⟩⟩
  have h := (Whole.fresh w 31 (encEw x ++ encEw y)).cell (i * 8 + j) u
  have e : 0 + i * 8 + j = i * 8 + j := by omega
  rw [e]
  have hj : j < 8 := by
    rcases Nat.lt_or_ge j 8 with h | h
    · exact h
    · rw [List.getElem?_eq_none (by rw [encEw_len]; exact h)] at hu; cases hu
  match i, hi with
  | 0, _ =>
    refine h ?_
    rw [List.getElem?_append_left (by rw [encEw_len]; omega), Nat.zero_mul, Nat.zero_add]
    exact hu
  | 1, _ =>
    refine h ?_
    rw [List.getElem?_append_right (by rw [encEw_len]; omega), encEw_len, show 1 * 8 + j - 8 = j by omega]
    exact hu
/-- the answers told with their slices spelled -/
theorem ppromise_at (x : Vw) (b : Bal) (A : Option Addr) (c : Nat) (w : World) (hv : RdI w w.heap.size (.slice A x.took.chests.length c) x.took.chests) (hl : x.took.chests.length ≤ 17592186043904) :
    Calls Try.prog 12 #[vwv x (.slice A x.took.chests.length c), blv b] w fun e w' => ∃ A' c', e = .returned (.tuple #[vwv (promV x b) (.slice A' (promV x b).took.chests.length c'), .bool (lessB x.prom b)]) ∧ RdI w' w'.heap.size (.slice A' (promV x b).took.chests.length c') (promV x b).took.chests ∧ Below w.heap.size w w' := by
  refine (ppromise_any x b _ w hv hl).mono ?_
  rintro e w' ⟨v', rfl, hr, hb⟩
  obtain ⟨A', c', rfl, _, _⟩ := hr.at
  exact ⟨A', c', rfl, hr, hb⟩
theorem ptake_at (x : Vw) (b : Bal) (s : Sta) (A : Option Addr) (c : Nat) (B : Option Addr) (d : Nat) (w : World) (hv : RdI w w.heap.size (.slice A x.took.chests.length c) x.took.chests) (hu : RdI w w.heap.size (.slice B s.chests.length d) s.chests) (hl : x.took.chests.length ≤ 17592186043904) (hm : s.chests.length ≤ 17592186043904) :
    Calls Try.prog 14 #[vwv x (.slice A x.took.chests.length c), blv b, sval s (.slice B s.chests.length d)] w fun e w' => ∃ A' c', e = .returned (.tuple #[vwv (takeV x b s) (.slice A' (takeV x b s).took.chests.length c'), .bool (!lessB b x.prom)]) ∧ RdI w' w'.heap.size (.slice A' (takeV x b s).took.chests.length c') (takeV x b s).took.chests ∧ Below w.heap.size w w' := by
  refine (ptake_any x b s _ _ w hv hu hl hm).mono ?_
  rintro e w' ⟨v', rfl, hr, hb⟩
  obtain ⟨A', c', rfl, _, _⟩ := hr.at
  exact ⟨A', c', rfl, hr, hb⟩
theorem pbest_at (l : List Ew) (v : Value) (w : World) (hv : RdEw w w.heap.size v l) (hr : ∀ e ∈ l, RdI w w.heap.size e.v e.x.took.chests) (hl : l.length < 4611686018427387904) (hm : ∀ e ∈ l, e.x.took.chests.length ≤ 17592186043904) (s : Sta) (hs : (bestV zeroV (l.map (·.x))).took = s) :
    Calls Try.prog 18 #[v] w fun e w' => ∃ A' c', e = .returned (sval s (.slice A' s.chests.length c')) ∧ RdI w' w'.heap.size (.slice A' s.chests.length c') s.chests ∧ Below w.heap.size w w' := by
  refine (pbest_any l v w hv hr hl hm).mono ?_
  rintro e w' ⟨v', rfl, hr, hb⟩
  rw [hs] at hr ⊢
  obtain ⟨A', c', rfl, _, _⟩ := hr.at
  exact ⟨A', c', rfl, hr, hb⟩

set_option maxHeartbeats 4000000 in
set_option maxRecDepth 100000 in
theorem awakeV_any (w : World) : Calls Try.prog 10 #[] w fun e w' => e = .returned (.bool true) ∧ Below w.heap.size w w' := by
  have HB_0 := Lib.hid (Below.refl w.heap.size w)
  have HP := Lib.hid (fun W => ppromise_at zeroV (1, 0) none 0 W (Rd.nil _ _) (by simp [zeroV, zeroS]))
  have HT := Lib.hid (fun A c W (h : RdI W W.heap.size (.slice A 0 c) []) => ptake_at ⟨(1, 0), (0, 0), zeroS⟩ (1, 0) ⟨3, 0, 0, []⟩ A c none 0 W h (Rd.nil _ _) (by simp [zeroS]) (by simp))
  have HBE := Lib.hid (fun A c A2 c2 v W (h : RdEw W W.heap.size v [⟨⟨(1, 0), (0, 0), zeroS⟩, A, c⟩, ⟨⟨(1, 0), (1, 0), ⟨3, 0, 0, []⟩⟩, A2, c2⟩]) (h1 : RdI W W.heap.size (.slice A 0 c) []) (h2 : RdI W W.heap.size (.slice A2 0 c2) []) => pbest_at _ v W h (fun e he => by
    rcases List.mem_cons.1 he with rfl | he
    · exact h1
    · obtain rfl := List.mem_singleton.1 he
      exact h2) (by simp) (fun e he => by
    rcases List.mem_cons.1 he with rfl | he
    · exact Nat.zero_le _
    · obtain rfl := List.mem_singleton.1 he
      exact Nat.zero_le _) ⟨3, 0, 0, []⟩ rfl)
  unfold vwv blv at HP HT
  unfold sval at HT HBE
  have e1 : promV zeroV (1, 0) = ⟨(1, 0), (0, 0), zeroS⟩ := rfl
  have e2 : takeV ⟨(1, 0), (0, 0), zeroS⟩ (1, 0) ⟨3, 0, 0, []⟩ = ⟨(1, 0), (1, 0), ⟨3, 0, 0, []⟩⟩ := rfl
  have e3 : lessB zeroV.prom (1, 0) = true := rfl
  have e4 : lessB (1, 0) (1, 0) = false := rfl
  simp only [e1, e2, e3, e4] at HP HT
  simp only [zeroV, zeroS, List.length_nil] at HP HT HBE
  clear e1 e2 e3 e4
  go_enter Try.func10, Try.ntmps10
  go_wp2_with fail
  refine (HP.out w).mono ?_
  rintro e w1 ⟨A1, c1, rfl, hr1, hb⟩
  have HLO_1 := Lib.hid (HB_0.out.trans (hb.mono HB_0.out.size))
  clear HB_0
  clear hb
  have HRa_a1 := Lib.hid hr1
  clear hr1
  obtain ⟨w2, hw2⟩ : ∃ w2, w2 = w1.alloc (.cells #[.int .i64 1, .int .i64 0, .int .i64 0, .int .i64 0, .int .i64 0, .int .i64 0, .int .i64 0, .slice A1 0 c1] 31) := ⟨_, rfl⟩
  have hb : Below w1.heap.size w1 w2 := by rw [hw2]; exact (Below.refl _ _).alloc (Nat.le_refl _) _
  have hz : w2.heap.size = w1.heap.size + 1 := by rw [hw2, World.size_alloc]
  have HX_f := Lib.hid (show Whole w2 (w1.heap.size) 31 [.int .i64 1, .int .i64 0, .int .i64 0, .int .i64 0, .int .i64 0, .int .i64 0, .int .i64 0, .slice A1 0 c1] from by have h := Whole.fresh w1 31 [.int .i64 1, .int .i64 0, .int .i64 0, .int .i64 0, .int .i64 0, .int .i64 0, .int .i64 0, .slice A1 0 c1]; rw [hw2]; exact h)
  have HRa_2 := Lib.hid (HRa_a1.out.next hb)
  have HLO_2 := Lib.hid (HLO_1.out.trans (hb.mono HLO_1.out.size))
  clear HRa_a1 HLO_1
  have HWw2 := Lib.hid hw2
  have HZw2 := Lib.hid hz
  clear hb hw2 hz
  have kX0 := HX_f.out.cell 0 _ rfl
  have kX1 := HX_f.out.cell 1 _ rfl
  have kX2 := HX_f.out.cell 2 _ rfl
  have kX3 := HX_f.out.cell 3 _ rfl
  have kX4 := HX_f.out.cell 4 _ rfl
  have kX5 := HX_f.out.cell 5 _ rfl
  have kX6 := HX_f.out.cell 6 _ rfl
  have kX7 := HX_f.out.cell 7 _ rfl
  rw [HWw2.out] at kX0 kX1 kX2 kX3 kX4 kX5 kX6 kX7
  go_wp2_with fail
  (try rw [← HWw2.out])
  refine (HT.out _ _ w2 HRa_2.out).mono ?_
  rintro e w3 ⟨A2, c2, rfl, hr2, hb⟩
  clear kX0 kX1 kX2 kX3 kX4 kX5 kX6 kX7
  have HX_3 := Lib.hid (HX_f.out.below hb HX_f.out.size)
  have HRa_3 := Lib.hid (HRa_2.out.next hb)
  have HLO_3 := Lib.hid (HLO_2.out.trans (hb.mono HLO_2.out.size))
  clear HX_f HRa_2 HLO_2
  clear hb
  have HRb_a3 := Lib.hid hr2
  clear hr2
  obtain ⟨w4, hw4⟩ : ∃ w4, w4 = w3.alloc (.cells #[.int .i64 1, .int .i64 0, .int .i64 1, .int .i64 0, .int .i64 3, .int .i64 0, .int .i64 0, .slice A2 0 c2] 31) := ⟨_, rfl⟩
  have hb : Below w3.heap.size w3 w4 := by rw [hw4]; exact (Below.refl _ _).alloc (Nat.le_refl _) _
  have hz : w4.heap.size = w3.heap.size + 1 := by rw [hw4, World.size_alloc]
  have HY_f := Lib.hid (show Whole w4 (w3.heap.size) 31 [.int .i64 1, .int .i64 0, .int .i64 1, .int .i64 0, .int .i64 3, .int .i64 0, .int .i64 0, .slice A2 0 c2] from by have h := Whole.fresh w3 31 [.int .i64 1, .int .i64 0, .int .i64 1, .int .i64 0, .int .i64 3, .int .i64 0, .int .i64 0, .slice A2 0 c2]; rw [hw4]; exact h)
  have HX_4 := Lib.hid (HX_3.out.below hb HX_3.out.size)
  have HRa_4 := Lib.hid (HRa_3.out.next hb)
  have HRb_4 := Lib.hid (HRb_a3.out.next hb)
  have HLO_4 := Lib.hid (HLO_3.out.trans (hb.mono HLO_3.out.size))
  clear HX_3 HRa_3 HRb_a3 HLO_3
  have HWw4 := Lib.hid hw4
  have HZw4 := Lib.hid hz
  clear hb hw4 hz
  have kX0 := HX_4.out.cell 0 _ rfl
  have kX1 := HX_4.out.cell 1 _ rfl
  have kX2 := HX_4.out.cell 2 _ rfl
  have kX3 := HX_4.out.cell 3 _ rfl
  have kX4 := HX_4.out.cell 4 _ rfl
  have kX5 := HX_4.out.cell 5 _ rfl
  have kX6 := HX_4.out.cell 6 _ rfl
  have kX7 := HX_4.out.cell 7 _ rfl
  have kY0 := HY_f.out.cell 0 _ rfl
  have kY1 := HY_f.out.cell 1 _ rfl
  have kY2 := HY_f.out.cell 2 _ rfl
  have kY3 := HY_f.out.cell 3 _ rfl
  have kY4 := HY_f.out.cell 4 _ rfl
  have kY5 := HY_f.out.cell 5 _ rfl
  have kY6 := HY_f.out.cell 6 _ rfl
  have kY7 := HY_f.out.cell 7 _ rfl
  rw [HWw4.out] at kX0 kX1 kX2 kX3 kX4 kX5 kX6 kX7 kY0 kY1 kY2 kY3 kY4 kY5 kY6 kY7
  go_wp2_with fail
  (try rw [← HWw4.out])
  clear kX0 kX1 kX2 kX3 kX4 kX5 kX6 kX7 kY0 kY1 kY2 kY3 kY4 kY5 kY6 kY7
  obtain ⟨w5, hw5⟩ : ∃ w5, w5 = w4.alloc (.cells #[.int .i64 1, .int .i64 0, .int .i64 0, .int .i64 0, .int .i64 0, .int .i64 0, .int .i64 0, .slice A1 0 c1, .int .i64 1, .int .i64 0, .int .i64 1, .int .i64 0, .int .i64 3, .int .i64 0, .int .i64 0, .slice A2 0 c2] 31) := ⟨_, rfl⟩
  have hb : Below w4.heap.size w4 w5 := by rw [hw5]; exact (Below.refl _ _).alloc (Nat.le_refl _) _
  have hz : w5.heap.size = w3.heap.size + 1 + 1 := by rw [hw5, World.size_alloc, HZw4.out]
  have HX_5 := Lib.hid (HX_4.out.below hb HX_4.out.size)
  have HY_5 := Lib.hid (HY_f.out.below hb HY_f.out.size)
  have HRa_5 := Lib.hid (HRa_4.out.next hb)
  have HRb_5 := Lib.hid (HRb_4.out.next hb)
  have HLO_5 := Lib.hid (HLO_4.out.trans (hb.mono HLO_4.out.size))
  clear HX_4 HY_f HRa_4 HRb_4 HLO_4
  have HWw5 := Lib.hid hw5
  have HZw5 := Lib.hid hz
  clear hb hw5 hz
  have hr9 : RdEw w5 w5.heap.size (.slice (some ⟨w3.heap.size + 1, 0, none⟩) 2 2) [⟨⟨(1, 0), (0, 0), ⟨0, 0, 0, []⟩⟩, A1, c1⟩, ⟨⟨(1, 0), (1, 0), ⟨3, 0, 0, []⟩⟩, A2, c2⟩] := by rw [HZw5.out, HWw5.out, ← HZw4.out]; exact RdEw.two _ _ _
  rw [← HWw5.out]
  refine (HBE.out _ _ _ _ _ w5 hr9 HRa_5.out HRb_5.out).mono ?_
  rintro e w10 ⟨A3, c3, rfl, _, hb2⟩
  have HBF := Lib.hid (HLO_5.out.trans (hb2.mono HLO_5.out.size))
  have hfg := field_gen 3 0 0 (.slice A3 0 c3) w10
  clear hb2 hr9
  go_wp2_with fail
  go_ret
  exact ⟨rfl, HBF.out⟩
end Go.Proofs.Ytjmojlhebjbgaaa

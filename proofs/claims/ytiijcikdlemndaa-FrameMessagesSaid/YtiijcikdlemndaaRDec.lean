/- The reference's Decode. -/
import Derived.Test.YtiijcikdlemndaaRMsg
namespace Go.Proofs.Ytiijcikdlemndaa
open Go.RowKit
attribute [local go_sem] less_eq same_eq le_eq ge_eq gt_eq

theorem openAns_ok {l inner : List UInt8} (h : openAns l = (inner, 0)) : l = sealed inner := by
  unfold openAns at h
  split at h
  · simp at h
  · rename_i h4
    split at h
    · rename_i hv
      simp only [Prod.mk.injEq, and_true] at h
      subst h
      have := (sealed_eq (p := l.take 4) (r := l.drop 4) (by simp; omega)).2 hv
      rw [this, List.take_append_drop]
    · simp at h
theorem sealed_inj {a b : List UInt8} (h : sealed a = sealed b) : a = b := by
  have e : ∀ x, (sealed x).drop 4 = x := fun x => rfl
  rw [← e a, h, e]
theorem rencode_any (m : Msg) (hf : fitsM m) (v : Value) (w : World) (hv : RdB w w.heap.size v m.body) :
    Calls Try.prog 10 #[mval m v] w fun e w' => ∃ v' l er, e = .returned (.tuple #[v', .int .i64 er]) ∧ RdB w' w'.heap.size v' l ∧ Below w.heap.size w w' ∧ ((er = 0 ∧ soundM m ∧ l = sealed (msgIn m)) ∨ (er = 2 ∧ ¬ soundM m)) := by
  by_cases hs : soundM m
  · refine (rencode_ok m hs hf v w hv).mono ?_
    rintro e w' ⟨v', he, hr, hb⟩
    exact ⟨v', _, 0, he, hr, hb, .inl ⟨rfl, hs, rfl⟩⟩
  · refine (rencode_bad m hs v w hv).mono ?_
    rintro e w' ⟨he, hb⟩
    exact ⟨_, [], 2, he, Rd.nil _ _, hb, .inr ⟨rfl, hs⟩⟩

set_option maxHeartbeats 16000000 in
set_option maxRecDepth 100000 in
theorem rdecode_any (l : List UInt8) (v : Value) (w : World) (hv : RdB w w.heap.size v l) (hl : l.length ≤ 140737488351232) :
    Calls Try.prog 12 #[v] w fun e w' => ∃ v', e = .returned (.tuple #[mval (decodeAns l).1 v', .int .i64 (decodeAns l).2]) ∧ RdB w' w'.heap.size v' (decodeAns l).1.body ∧ Below w.heap.size w w' := by
  obtain ⟨w1, hw1⟩ : ∃ w1, w1 = w.alloc (.cells #[.int .i64 0, .int .i64 0, .int .i64 0, .int .i64 0, .int .i64 0, .int .i64 0, .int .i64 0, .slice none 0 0] 24) := ⟨_, rfl⟩
  have hb1 : Below w.heap.size w w1 := by rw [hw1]; exact (Below.refl _ _).alloc (Nat.le_refl _) _
  have hV1 : Whole w1 w.heap.size 24 [.int .i64 0, .int .i64 0, .int .i64 0, .int .i64 0, .int .i64 0, .int .i64 0, .int .i64 0, .slice none 0 0] := by rw [hw1]; exact Whole.fresh _ _ _
  have hop := ropen_any l v w1 (hv.next hb1) (by omega)
  obtain ⟨R, hD⟩ : ∃ R, R = decodeAns l := ⟨_, rfl⟩
  rw [← hD]
  unfold decodeAns at hD
  have hil : (openAns l).1.length ≤ l.length := by
    unfold openAns
    split
    · simp
    · split <;> simp
  have hse := fun inner (h : openAns l = (inner, 0)) => openAns_ok h
  generalize openAns l = x at hop hD hil hse
  obtain ⟨inner, err⟩ := x
  simp only at hop hD hil
  obtain ⟨A0, c0, hvv, _, _⟩ := hv.at
  subst hvv
  have HV := Lib.hid hv; clear hv
  have HOP := Lib.hid hop; clear hop
  have HW1 := Lib.hid hw1; clear hw1
  have HB1 := Lib.hid hb1; clear hb1
  have HV1 := Lib.hid hV1; clear hV1
  have hwlt : w.heap.size < w1.heap.size := HV1.out.size
  by_cases herr : err = 0
  · subst herr
    have hli := hse inner rfl
    have hone := fun (mm : Msg) (Rr : List UInt8) (h : rdMsg (some inner) = (mm, some Rr)) => rdMsg_once h
    obtain ⟨MM, hM⟩ : ∃ MM, MM = rdMsg (some inner) := ⟨_, rfl⟩
    rw [← hM] at hD hone
    unfold rdMsg at hM
    simp only at hM
    have hN1 := fun W base p h => rrnum_any (some inner) base p W h
    have hlt1 := rdN_lt (some inner)
    generalize rdN (some inner) = r1 at hN1 hlt1 hM
    obtain ⟨n1, S1⟩ := r1
    simp only at hN1 hlt1 hM
    have hN2 := fun W base p h => rrnum_any S1 base p W h
    have hlt2 := rdN_lt S1
    generalize rdN S1 = r2 at hN2 hlt2 hM
    obtain ⟨n2, S2⟩ := r2
    simp only at hN2 hlt2 hM
    have hN3 := fun W base p h => rrnum_any S2 base p W h
    have hlt3 := rdN_lt S2
    generalize rdN S2 = r3 at hN3 hlt3 hM
    obtain ⟨n3, S3⟩ := r3
    simp only at hN3 hlt3 hM
    have hN4 := fun W base p h => rrnum_any S3 base p W h
    have hlt4 := rdN_lt S3
    generalize rdN S3 = r4 at hN4 hlt4 hM
    obtain ⟨n4, S4⟩ := r4
    simp only at hN4 hlt4 hM
    have hN5 := fun W base p h => rrnum_any S4 base p W h
    have hlt5 := rdN_lt S4
    generalize rdN S4 = r5 at hN5 hlt5 hM
    obtain ⟨n5, S5⟩ := r5
    simp only at hN5 hlt5 hM
    have hN6 := fun W base p h => rrnum_any S5 base p W h
    have hlt6 := rdN_lt S5
    generalize rdN S5 = r6 at hN6 hlt6 hM
    obtain ⟨n6, S6⟩ := r6
    simp only at hN6 hlt6 hM
    have hN7 := fun W base p h => rrnum_any S6 base p W h
    have hlt7 := rdN_lt S6
    generalize rdN S6 = r7 at hN7 hlt7 hM
    obtain ⟨n7, S7⟩ := r7
    simp only at hN7 hlt7 hM
    have hT := fun W base p h => rrtext_any S7 base p W h
    generalize rdT S7 = r8 at hT hM
    obtain ⟨tx, S8⟩ := r8
    simp only at hT hM
    subst hM
    simp only at hD hone
    have hyes : S8 = some [] → soundM ⟨n1, n2, n3, n4, n5, n6, n7, tx⟩ → R = (⟨n1, n2, n3, n4, n5, n6, n7, tx⟩, 0) := fun h1 h2 => by rw [hD, if_pos ⟨trivial, h1, h2⟩]
    have hno : ¬ (S8 = some [] ∧ soundM ⟨n1, n2, n3, n4, n5, n6, n7, tx⟩) → R = (zeroM, 2) := fun h => by rw [hD, if_neg fun h' => h ⟨h'.2.1, h'.2.2⟩]
    have hrest : ∀ Rr, S8 = some Rr → l = sealed (msgIn ⟨n1, n2, n3, n4, n5, n6, n7, tx⟩ ++ Rr) := fun Rr h => by rw [hli, ← (hone _ Rr (by rw [h])).1]
    have hen := fun (W : World) (v : Value) (h : RdB W W.heap.size v tx) => rencode_any ⟨n1, n2, n3, n4, n5, n6, n7, tx⟩ (by unfold fitsM; simp only; omega) v W h
    simp only [mval] at hen
    have HYES := Lib.hid hyes
    have HNO := Lib.hid hno
    have HREST := Lib.hid hrest
    have HEN := Lib.hid hen
    have HT := Lib.hid hT
    have HN1 := Lib.hid hN1
    have HN2 := Lib.hid hN2
    have HN3 := Lib.hid hN3
    have HN4 := Lib.hid hN4
    have HN5 := Lib.hid hN5
    have HN6 := Lib.hid hN6
    have HN7 := Lib.hid hN7
    clear hyes hno hrest hen hT hD hone hli hse hN1 hlt1 hN2 hlt2 hN3 hlt3 hN4 hlt4 hN5 hlt5 hN6 hlt6 hN7 hlt7
    go_enter Try.func12, Try.ntmps12
    go_wp2_with fail
    rw [← HW1.out]
    refine HOP.out.mono ?_
    rintro e w2 ⟨vi, rfl, hri, hb2⟩
    obtain ⟨Ai, ci, hvi, _, _⟩ := hri.at
    subst hvi
    obtain ⟨w3, hw3⟩ : ∃ w3, w3 = (w2.alloc (.cells #[.slice Ai inner.length ci, .bool false] 78)).alloc (.cells #[.int .i64 0, .int .i64 0, .int .i64 0, .int .i64 0, .int .i64 0, .int .i64 0, .int .i64 0, .slice none 0 0] 24) := ⟨_, rfl⟩
    have hb3 : Below w2.heap.size w2 w3 := by rw [hw3]; exact ((Below.refl _ _).alloc (Nat.le_refl _) _).alloc (by simp) _
    have hR3 : RR w3 w2.heap.size w2.heap.size (some inner) := ⟨Ai, ci, inner, by rw [hw3]; exact (Whole.fresh _ _ [_, _]).alloc _, hri.below hb3 (Nat.le_refl _), Nat.le_refl _, by omega, fun r hr => by injection hr with hr; exact hr.symm⟩
    obtain ⟨p, hp⟩ : ∃ p, p = w2.heap.size := ⟨_, rfl⟩
    obtain ⟨G, hG⟩ : ∃ G, G = p + 1 := ⟨_, rfl⟩
    have hM3 : Whole w3 G 24 [.int .i64 0, .int .i64 0, .int .i64 0, .int .i64 0, .int .i64 0, .int .i64 0, .int .i64 0, .slice none 0 0] := by
      have h := Whole.fresh (w2.alloc (.cells #[.slice Ai inner.length ci, .bool false] 78)) 24 [.int .i64 0, .int .i64 0, .int .i64 0, .int .i64 0, .int .i64 0, .int .i64 0, .int .i64 0, .slice none 0 0]
      rw [World.size_alloc] at h
      rw [hG, hp, hw3]; exact h
    have HV3 := Lib.hid ((HV1.out.below hb2 HV1.out.size).below hb3 (by have := hb2.size; omega))
    have HB3 := Lib.hid ((HB1.out.trans (hb2.mono (by omega))).trans (hb3.mono (by have := hb2.size; omega)))
    have hwp : w.heap.size < p := by have := hb2.size; omega
    have hpG : p < G := by omega
    have hne : w.heap.size ≠ G := by omega
    have HM3 := Lib.hid hM3
    rw [← hp] at hR3
    have HR3 := Lib.hid hR3
    have HW3 := Lib.hid hw3
    have hG2 : G = w2.heap.size + 1 := by omega
    have HP := Lib.hid hp
    have HGG := Lib.hid hG2
    have HGP := Lib.hid hG
    clear hri hb2 hb3 hR3 hM3 hw3 hp hG hG2
    go_wp2_with fail
    rw [← HW3.out, ← HP.out, ← HGP.out]
    refine (HN1.out _ _ _ HR3.out).mono ?_
    rintro e a1 ⟨rfl, hr, ho⟩
    have hbo : Below p w3 a1 := ho.low (Nat.le_refl _) (by have := HR3.out.size; omega)
    have hMa := HM3.out.grown (row := some p) ho (fun e => by injection e with e; omega)
    have hVa := HV3.out.below hbo hwp
    have hBa := HB3.out.trans (hbo.mono (by omega))
    have q0 := hMa.cell 0 _ rfl
    have g0 := hMa.frozen 0
    obtain ⟨w4, hw4⟩ : ∃ W, W = a1.setCell ⟨G, 0, none⟩ (.int .i64 n1) := ⟨_, rfl⟩
    have HM4 := Lib.hid (show Whole w4 G 24 _ from by rw [hw4]; exact hMa.put 0 (.int .i64 n1))
    have HV4 := Lib.hid (show Whole w4 w.heap.size 24 [.int .i64 0, .int .i64 0, .int .i64 0, .int .i64 0, .int .i64 0, .int .i64 0, .int .i64 0, .slice none 0 0] from by rw [hw4]; exact hVa.away (p := ⟨G, 0, none⟩) hne _)
    have HB4 := Lib.hid (show Below w.heap.size w w4 from by rw [hw4]; exact hBa.setCell (p := ⟨G, 0, none⟩) (by show w.heap.size ≤ G; omega) _)
    have HR4 := Lib.hid (show RR w4 p p S1 from by rw [hw4]; exact hr.set hpG 0 _)
    have HWW := Lib.hid hw4
    clear hr ho hbo hMa hVa hBa hw4
    go_wp2_with fail
    rw [← HWW.out]
    clear q0 g0 HWW
    refine (HN2.out _ _ _ HR4.out).mono ?_
    rintro e a2 ⟨rfl, hr, ho⟩
    have hbo : Below p w4 a2 := ho.low (Nat.le_refl _) (by have := HR4.out.size; omega)
    have hMa := HM4.out.grown (row := some p) ho (fun e => by injection e with e; omega)
    have hVa := HV4.out.below hbo hwp
    have hBa := HB4.out.trans (hbo.mono (by omega))
    have q0 := hMa.cell 1 _ rfl
    have g0 := hMa.frozen 1
    obtain ⟨w5, hw5⟩ : ∃ W, W = a2.setCell ⟨G, 1, none⟩ (.int .i64 n2) := ⟨_, rfl⟩
    have HM5 := Lib.hid (show Whole w5 G 24 _ from by rw [hw5]; exact hMa.put 1 (.int .i64 n2))
    have HV5 := Lib.hid (show Whole w5 w.heap.size 24 [.int .i64 0, .int .i64 0, .int .i64 0, .int .i64 0, .int .i64 0, .int .i64 0, .int .i64 0, .slice none 0 0] from by rw [hw5]; exact hVa.away (p := ⟨G, 1, none⟩) hne _)
    have HB5 := Lib.hid (show Below w.heap.size w w5 from by rw [hw5]; exact hBa.setCell (p := ⟨G, 1, none⟩) (by show w.heap.size ≤ G; omega) _)
    have HR5 := Lib.hid (show RR w5 p p S2 from by rw [hw5]; exact hr.set hpG 1 _)
    have HWW := Lib.hid hw5
    clear hr ho hbo hMa hVa hBa hw5
    go_wp2_with fail
    rw [← HWW.out]
    clear q0 g0 HWW
    refine (HN3.out _ _ _ HR5.out).mono ?_
    rintro e a3 ⟨rfl, hr, ho⟩
    have hbo : Below p w5 a3 := ho.low (Nat.le_refl _) (by have := HR5.out.size; omega)
    have hMa := HM5.out.grown (row := some p) ho (fun e => by injection e with e; omega)
    have hVa := HV5.out.below hbo hwp
    have hBa := HB5.out.trans (hbo.mono (by omega))
    have q0 := hMa.cell 2 _ rfl
    have g0 := hMa.frozen 2
    obtain ⟨w6, hw6⟩ : ∃ W, W = a3.setCell ⟨G, 2, none⟩ (.int .i64 n3) := ⟨_, rfl⟩
    have HM6 := Lib.hid (show Whole w6 G 24 _ from by rw [hw6]; exact hMa.put 2 (.int .i64 n3))
    have HV6 := Lib.hid (show Whole w6 w.heap.size 24 [.int .i64 0, .int .i64 0, .int .i64 0, .int .i64 0, .int .i64 0, .int .i64 0, .int .i64 0, .slice none 0 0] from by rw [hw6]; exact hVa.away (p := ⟨G, 2, none⟩) hne _)
    have HB6 := Lib.hid (show Below w.heap.size w w6 from by rw [hw6]; exact hBa.setCell (p := ⟨G, 2, none⟩) (by show w.heap.size ≤ G; omega) _)
    have HR6 := Lib.hid (show RR w6 p p S3 from by rw [hw6]; exact hr.set hpG 2 _)
    have HWW := Lib.hid hw6
    clear hr ho hbo hMa hVa hBa hw6
    go_wp2_with fail
    rw [← HWW.out]
    clear q0 g0 HWW
    refine (HN4.out _ _ _ HR6.out).mono ?_
    rintro e a4 ⟨rfl, hr, ho⟩
    have hbo : Below p w6 a4 := ho.low (Nat.le_refl _) (by have := HR6.out.size; omega)
    have hMa := HM6.out.grown (row := some p) ho (fun e => by injection e with e; omega)
    have hVa := HV6.out.below hbo hwp
    have hBa := HB6.out.trans (hbo.mono (by omega))
    have q0 := hMa.cell 3 _ rfl
    have g0 := hMa.frozen 3
    obtain ⟨w7, hw7⟩ : ∃ W, W = a4.setCell ⟨G, 3, none⟩ (.int .i64 n4) := ⟨_, rfl⟩
    have HM7 := Lib.hid (show Whole w7 G 24 _ from by rw [hw7]; exact hMa.put 3 (.int .i64 n4))
    have HV7 := Lib.hid (show Whole w7 w.heap.size 24 [.int .i64 0, .int .i64 0, .int .i64 0, .int .i64 0, .int .i64 0, .int .i64 0, .int .i64 0, .slice none 0 0] from by rw [hw7]; exact hVa.away (p := ⟨G, 3, none⟩) hne _)
    have HB7 := Lib.hid (show Below w.heap.size w w7 from by rw [hw7]; exact hBa.setCell (p := ⟨G, 3, none⟩) (by show w.heap.size ≤ G; omega) _)
    have HR7 := Lib.hid (show RR w7 p p S4 from by rw [hw7]; exact hr.set hpG 3 _)
    have HWW := Lib.hid hw7
    clear hr ho hbo hMa hVa hBa hw7
    go_wp2_with fail
    rw [← HWW.out]
    clear q0 g0 HWW
    refine (HN5.out _ _ _ HR7.out).mono ?_
    rintro e a5 ⟨rfl, hr, ho⟩
    have hbo : Below p w7 a5 := ho.low (Nat.le_refl _) (by have := HR7.out.size; omega)
    have hMa := HM7.out.grown (row := some p) ho (fun e => by injection e with e; omega)
    have hVa := HV7.out.below hbo hwp
    have hBa := HB7.out.trans (hbo.mono (by omega))
    have q0 := hMa.cell 4 _ rfl
    have g0 := hMa.frozen 4
    obtain ⟨w8, hw8⟩ : ∃ W, W = a5.setCell ⟨G, 4, none⟩ (.int .i64 n5) := ⟨_, rfl⟩
    have HM8 := Lib.hid (show Whole w8 G 24 _ from by rw [hw8]; exact hMa.put 4 (.int .i64 n5))
    have HV8 := Lib.hid (show Whole w8 w.heap.size 24 [.int .i64 0, .int .i64 0, .int .i64 0, .int .i64 0, .int .i64 0, .int .i64 0, .int .i64 0, .slice none 0 0] from by rw [hw8]; exact hVa.away (p := ⟨G, 4, none⟩) hne _)
    have HB8 := Lib.hid (show Below w.heap.size w w8 from by rw [hw8]; exact hBa.setCell (p := ⟨G, 4, none⟩) (by show w.heap.size ≤ G; omega) _)
    have HR8 := Lib.hid (show RR w8 p p S5 from by rw [hw8]; exact hr.set hpG 4 _)
    have HWW := Lib.hid hw8
    clear hr ho hbo hMa hVa hBa hw8
    go_wp2_with fail
    rw [← HWW.out]
    clear q0 g0 HWW
    refine (HN6.out _ _ _ HR8.out).mono ?_
    rintro e a6 ⟨rfl, hr, ho⟩
    have hbo : Below p w8 a6 := ho.low (Nat.le_refl _) (by have := HR8.out.size; omega)
    have hMa := HM8.out.grown (row := some p) ho (fun e => by injection e with e; omega)
    have hVa := HV8.out.below hbo hwp
    have hBa := HB8.out.trans (hbo.mono (by omega))
    have q0 := hMa.cell 5 _ rfl
    have g0 := hMa.frozen 5
    obtain ⟨w9, hw9⟩ : ∃ W, W = a6.setCell ⟨G, 5, none⟩ (.int .i64 n6) := ⟨_, rfl⟩
    have HM9 := Lib.hid (show Whole w9 G 24 _ from by rw [hw9]; exact hMa.put 5 (.int .i64 n6))
    have HV9 := Lib.hid (show Whole w9 w.heap.size 24 [.int .i64 0, .int .i64 0, .int .i64 0, .int .i64 0, .int .i64 0, .int .i64 0, .int .i64 0, .slice none 0 0] from by rw [hw9]; exact hVa.away (p := ⟨G, 5, none⟩) hne _)
    have HB9 := Lib.hid (show Below w.heap.size w w9 from by rw [hw9]; exact hBa.setCell (p := ⟨G, 5, none⟩) (by show w.heap.size ≤ G; omega) _)
    have HR9 := Lib.hid (show RR w9 p p S6 from by rw [hw9]; exact hr.set hpG 5 _)
    have HWW := Lib.hid hw9
    clear hr ho hbo hMa hVa hBa hw9
    go_wp2_with fail
    rw [← HWW.out]
    clear q0 g0 HWW
    refine (HN7.out _ _ _ HR9.out).mono ?_
    rintro e a7 ⟨rfl, hr, ho⟩
    have hbo : Below p w9 a7 := ho.low (Nat.le_refl _) (by have := HR9.out.size; omega)
    have hMa := HM9.out.grown (row := some p) ho (fun e => by injection e with e; omega)
    have hVa := HV9.out.below hbo hwp
    have hBa := HB9.out.trans (hbo.mono (by omega))
    have q0 := hMa.cell 6 _ rfl
    have g0 := hMa.frozen 6
    obtain ⟨w10, hw10⟩ : ∃ W, W = a7.setCell ⟨G, 6, none⟩ (.int .i64 n7) := ⟨_, rfl⟩
    have HM10 := Lib.hid (show Whole w10 G 24 _ from by rw [hw10]; exact hMa.put 6 (.int .i64 n7))
    have HV10 := Lib.hid (show Whole w10 w.heap.size 24 [.int .i64 0, .int .i64 0, .int .i64 0, .int .i64 0, .int .i64 0, .int .i64 0, .int .i64 0, .slice none 0 0] from by rw [hw10]; exact hVa.away (p := ⟨G, 6, none⟩) hne _)
    have HB10 := Lib.hid (show Below w.heap.size w w10 from by rw [hw10]; exact hBa.setCell (p := ⟨G, 6, none⟩) (by show w.heap.size ≤ G; omega) _)
    have HR10 := Lib.hid (show RR w10 p p S7 from by rw [hw10]; exact hr.set hpG 6 _)
    have HWW := Lib.hid hw10
    clear hr ho hbo hMa hVa hBa hw10
    go_wp2_with fail
    rw [← HWW.out]
    clear q0 g0 HWW
    refine (HT.out _ _ _ HR10.out).mono ?_
    rintro e a8 ⟨rfl, hr, ho⟩
    have hbo : Below p w10 a8 := ho.low (Nat.le_refl _) (by have := HR10.out.size; omega)
    have hMa := HM10.out.grown (row := some p) ho (fun e => by injection e with e; omega)
    have hVa := HV10.out.below hbo hwp
    have hBa := HB10.out.trans (hbo.mono (by omega))
    obtain ⟨c, w11, hkc, hr11, hb11, hlt11⟩ := conv_any a8 tx
    have hM11 := hMa.below hb11 hMa.size
    have hV11 := hVa.below hb11 hVa.size
    have hB11 := hBa.trans (hb11.mono (by have := hVa.size; omega))
    have hR11 := hr.more hb11
    obtain ⟨g11, hg11⟩ : ∃ g, g = a8.heap.size := ⟨_, rfl⟩
    rw [← hg11] at hkc hr11
    have hGg : G < g11 := by rw [hg11]; exact hMa.size
    have q0 := hM11.cell 7 _ rfl
    have g0 := hM11.frozen 7
    obtain ⟨w12, hw12⟩ : ∃ W, W = w11.setCell ⟨G, 7, none⟩ (.slice (some ⟨g11, 0, none⟩) tx.length c) := ⟨_, rfl⟩
    have hM12 : Whole w12 G 24 [.int .i64 n1, .int .i64 n2, .int .i64 n3, .int .i64 n4, .int .i64 n5, .int .i64 n6, .int .i64 n7, .slice (some ⟨g11, 0, none⟩) tx.length c] := by rw [hw12]; exact hM11.put 7 (.slice (some ⟨g11, 0, none⟩) tx.length c)
    have HV12 := Lib.hid (show Whole w12 w.heap.size 24 [.int .i64 0, .int .i64 0, .int .i64 0, .int .i64 0, .int .i64 0, .int .i64 0, .int .i64 0, .slice none 0 0] from by rw [hw12]; exact hV11.away (p := ⟨G, 7, none⟩) hne _)
    have HB12 := Lib.hid (show Below w.heap.size w w12 from by rw [hw12]; exact hB11.setCell (p := ⟨G, 7, none⟩) (by show w.heap.size ≤ G; omega) _)
    have HR12 := Lib.hid (show RR w12 p p S8 from by rw [hw12]; exact hR11.set hpG 7 _)
    have hX12 : RdB w12 w12.heap.size (.slice (some ⟨g11, 0, none⟩) tx.length c) tx := by
      rw [hw12]
      have h := hr11.put (g := G) (by omega) 7 (.slice (some ⟨g11, 0, none⟩) tx.length c)
      exact h.mono (by simp [World.setCell])
    have HX12 := Lib.hid hX12
    have HM12 := Lib.hid hM12
    have HE12 := Lib.hid (HEN.out w12 _ hX12)
    have HWW := Lib.hid hw12
    have hk0 := hM12.cell 0 _ rfl
    have hk1 := hM12.cell 1 _ rfl
    have hk2 := hM12.cell 2 _ rfl
    have hk3 := hM12.cell 3 _ rfl
    have hk4 := hM12.cell 4 _ rfl
    have hk5 := hM12.cell 5 _ rfl
    have hk6 := hM12.cell 6 _ rfl
    have hk7 := hM12.cell 7 _ rfl
    have hk : w12.cell? ⟨G, 0, none⟩ = some (.int .i64 n1) ∧ w12.cell? ⟨G, 1, none⟩ = some (.int .i64 n2) ∧ w12.cell? ⟨G, 2, none⟩ = some (.int .i64 n3) ∧ w12.cell? ⟨G, 3, none⟩ = some (.int .i64 n4) ∧ w12.cell? ⟨G, 4, none⟩ = some (.int .i64 n5) ∧ w12.cell? ⟨G, 5, none⟩ = some (.int .i64 n6) ∧ w12.cell? ⟨G, 6, none⟩ = some (.int .i64 n7) ∧ w12.cell? ⟨G, 7, none⟩ = some (.slice (some ⟨g11, 0, none⟩) tx.length c) := ⟨hk0, hk1, hk2, hk3, hk4, hk5, hk6, hk7⟩
    rw [hw12] at hk
    obtain ⟨k0, k1, k2, k3, k4, k5, k6, k7⟩ := hk
    have HG11 := Lib.hid hg11
    clear hr ho hbo hMa hVa hBa hr11 hb11 hM11 hV11 hB11 hR11 hw12 hM12 hX12 hk0 hk1 hk2 hk3 hk4 hk5 hk6 hk7 hg11
    go_wp2_with fail
    (try rw [← HWW.out])
    clear q0 g0 k0 k1 k2 k3 k4 k5 k6 k7 hkc
    refine HE12.out.mono ?_
    rintro e w13 ⟨va, la, er, rfl, hra, hb13, hcase⟩
    obtain ⟨Aa, ca, hva, _, _⟩ := hra.at
    subst hva
    have HV13 := Lib.hid (HV12.out.below hb13 HV12.out.size)
    have HB13 := Lib.hid (HB12.out.trans (hb13.mono (by have := HV12.out.size; omega)))
    have HM13 := Lib.hid (HM12.out.below hb13 HM12.out.size)
    have HX13 := Lib.hid (HX12.out.next hb13)
    have hR13 := HR12.out.more hb13
    have b1 : w13.cell? ⟨p, 1, none⟩ = some (.bool S8.isNone) := by obtain ⟨_, _, _, hw, _⟩ := hR13; exact hw.cell 1 _ rfl
    have hca := run_convB hra
    have hcb := run_convB (HV.out.below HB13.out (Nat.le_refl _))
    clear hra hb13 hR13
    cases S8 with
    | none =>
      have HRE := Lib.hid (HNO.out (fun h => by cases h.1))
      simp only [Option.isNone_none] at b1
      have q0 := HV13.out.cell 0 _ rfl
      have g0 := HV13.out.frozen 0
      have q1 := HV13.out.cell 1 _ rfl
      have g1 := HV13.out.frozen 1
      have q2 := HV13.out.cell 2 _ rfl
      have g2 := HV13.out.frozen 2
      have q3 := HV13.out.cell 3 _ rfl
      have g3 := HV13.out.frozen 3
      have q4 := HV13.out.cell 4 _ rfl
      have g4 := HV13.out.frozen 4
      have q5 := HV13.out.cell 5 _ rfl
      have g5 := HV13.out.frozen 5
      have q6 := HV13.out.cell 6 _ rfl
      have g6 := HV13.out.frozen 6
      have q7 := HV13.out.cell 7 _ rfl
      have g7 := HV13.out.frozen 7
      go_wp2_with fail
      have hVZ := ((((((((HV13.out.put 0 (.int .i64 0)).put 1 (.int .i64 0)).put 2 (.int .i64 0)).put 3 (.int .i64 0)).put 4 (.int .i64 0)).put 5 (.int .i64 0)).put 6 (.int .i64 0)).put 7 (.slice none 0 0))
      have j0 := hVZ.cell 0 _ rfl
      have j1 := hVZ.cell 1 _ rfl
      have j2 := hVZ.cell 2 _ rfl
      have j3 := hVZ.cell 3 _ rfl
      have j4 := hVZ.cell 4 _ rfl
      have j5 := hVZ.cell 5 _ rfl
      have j6 := hVZ.cell 6 _ rfl
      have j7 := hVZ.cell 7 _ rfl
      rw [HRE.out]
      refine bodyPost_ret (v := .tuple #[.agg #[.int .i64 0, .int .i64 0, .int .i64 0, .int .i64 0, .int .i64 0, .int .i64 0, .int .i64 0, .slice none 0 0], .int .i64 2]) (by simp [results, Try.results12, go_sem, j0, j1, j2, j3, j4, j5, j6, j7]) rfl ⟨_, rfl, Rd.nil _ _, ((((((((HB13.out.setCell (Nat.le_refl _) _).setCell (Nat.le_refl _) _).setCell (Nat.le_refl _) _).setCell (Nat.le_refl _) _).setCell (Nat.le_refl _) _).setCell (Nat.le_refl _) _).setCell (Nat.le_refl _) _).setCell (Nat.le_refl _) _)⟩
    | some Rr =>
      simp only [Option.isNone_some] at b1
      rcases hcase with ⟨rfl, hso, rfl⟩ | ⟨rfl, hso⟩
      · have hl2 := HREST.out Rr rfl
        by_cases hRr : Rr = []
        · subst hRr
          rw [List.append_nil] at hl2
          have HRE := Lib.hid (HYES.out rfl hso)
          have hsame : strB (sealed (msgIn ⟨n1, n2, n3, n4, n5, n6, n7, tx⟩)) = strB l := by rw [hl2]
          rw [hsame] at hca
          generalize (sealed (msgIn ⟨n1, n2, n3, n4, n5, n6, n7, tx⟩)).length = ln at hca ⊢
          clear hl2 hso hsame
          have kk0 := HM13.out.cell 0 _ rfl
          have kk1 := HM13.out.cell 1 _ rfl
          have kk2 := HM13.out.cell 2 _ rfl
          have kk3 := HM13.out.cell 3 _ rfl
          have kk4 := HM13.out.cell 4 _ rfl
          have kk5 := HM13.out.cell 5 _ rfl
          have kk6 := HM13.out.cell 6 _ rfl
          have kk7 := HM13.out.cell 7 _ rfl
          have q0 := HV13.out.cell 0 _ rfl
          have g0 := HV13.out.frozen 0
          have q1 := HV13.out.cell 1 _ rfl
          have g1 := HV13.out.frozen 1
          have q2 := HV13.out.cell 2 _ rfl
          have g2 := HV13.out.frozen 2
          have q3 := HV13.out.cell 3 _ rfl
          have g3 := HV13.out.frozen 3
          have q4 := HV13.out.cell 4 _ rfl
          have g4 := HV13.out.frozen 4
          have q5 := HV13.out.cell 5 _ rfl
          have g5 := HV13.out.frozen 5
          have q6 := HV13.out.cell 6 _ rfl
          have g6 := HV13.out.frozen 6
          have q7 := HV13.out.cell 7 _ rfl
          have g7 := HV13.out.frozen 7
          go_wp2_with fail
          have hVZ := ((((((((HV13.out.put 0 (.int .i64 n1)).put 1 (.int .i64 n2)).put 2 (.int .i64 n3)).put 3 (.int .i64 n4)).put 4 (.int .i64 n5)).put 5 (.int .i64 n6)).put 6 (.int .i64 n7)).put 7 (.slice (some ⟨g11, 0, none⟩) tx.length c))
          have j0 := hVZ.cell 0 _ rfl
          have j1 := hVZ.cell 1 _ rfl
          have j2 := hVZ.cell 2 _ rfl
          have j3 := hVZ.cell 3 _ rfl
          have j4 := hVZ.cell 4 _ rfl
          have j5 := hVZ.cell 5 _ rfl
          have j6 := hVZ.cell 6 _ rfl
          have j7 := hVZ.cell 7 _ rfl
          rw [HRE.out]
          refine bodyPost_ret (v := .tuple #[.agg #[.int .i64 n1, .int .i64 n2, .int .i64 n3, .int .i64 n4, .int .i64 n5, .int .i64 n6, .int .i64 n7, .slice (some ⟨g11, 0, none⟩) tx.length c], .int .i64 0]) (by simp [results, Try.results12, go_sem, j0, j1, j2, j3, j4, j5, j6, j7]) rfl ⟨_, rfl, ((((((((HX13.out.put (by omega) 0 _).put (by omega) 1 _).put (by omega) 2 _).put (by omega) 3 _).put (by omega) 4 _).put (by omega) 5 _).put (by omega) 6 _).put (by omega) 7 _).mono (by simp [World.setCell]), ((((((((HB13.out.setCell (Nat.le_refl _) _).setCell (Nat.le_refl _) _).setCell (Nat.le_refl _) _).setCell (Nat.le_refl _) _).setCell (Nat.le_refl _) _).setCell (Nat.le_refl _) _).setCell (Nat.le_refl _) _).setCell (Nat.le_refl _) _)⟩
        · have HRE := Lib.hid (HNO.out (fun h => hRr (by have := h.1; injection this)))
          have hdiff : ¬ strB (sealed (msgIn ⟨n1, n2, n3, n4, n5, n6, n7, tx⟩)) = strB l := fun h => hRr (by
            have h2 := sealed_inj ((strB_inj h).trans hl2)
            have h3 := congrArg List.length h2
            simp at h3
            exact h3)
          generalize sealed (msgIn ⟨n1, n2, n3, n4, n5, n6, n7, tx⟩) = la at hca hdiff ⊢
          generalize la.length = ln at hca ⊢
          generalize strB la = sa at hca hdiff
          generalize strB l = sb at hcb hdiff
          clear hl2 hso
          have q0 := HV13.out.cell 0 _ rfl
          have g0 := HV13.out.frozen 0
          have q1 := HV13.out.cell 1 _ rfl
          have g1 := HV13.out.frozen 1
          have q2 := HV13.out.cell 2 _ rfl
          have g2 := HV13.out.frozen 2
          have q3 := HV13.out.cell 3 _ rfl
          have g3 := HV13.out.frozen 3
          have q4 := HV13.out.cell 4 _ rfl
          have g4 := HV13.out.frozen 4
          have q5 := HV13.out.cell 5 _ rfl
          have g5 := HV13.out.frozen 5
          have q6 := HV13.out.cell 6 _ rfl
          have g6 := HV13.out.frozen 6
          have q7 := HV13.out.cell 7 _ rfl
          have g7 := HV13.out.frozen 7
          go_wp2_with fail
          have hVZ := ((((((((HV13.out.put 0 (.int .i64 0)).put 1 (.int .i64 0)).put 2 (.int .i64 0)).put 3 (.int .i64 0)).put 4 (.int .i64 0)).put 5 (.int .i64 0)).put 6 (.int .i64 0)).put 7 (.slice none 0 0))
          have j0 := hVZ.cell 0 _ rfl
          have j1 := hVZ.cell 1 _ rfl
          have j2 := hVZ.cell 2 _ rfl
          have j3 := hVZ.cell 3 _ rfl
          have j4 := hVZ.cell 4 _ rfl
          have j5 := hVZ.cell 5 _ rfl
          have j6 := hVZ.cell 6 _ rfl
          have j7 := hVZ.cell 7 _ rfl
          rw [HRE.out]
          refine bodyPost_ret (v := .tuple #[.agg #[.int .i64 0, .int .i64 0, .int .i64 0, .int .i64 0, .int .i64 0, .int .i64 0, .int .i64 0, .slice none 0 0], .int .i64 2]) (by simp [results, Try.results12, go_sem, j0, j1, j2, j3, j4, j5, j6, j7]) rfl ⟨_, rfl, Rd.nil _ _, ((((((((HB13.out.setCell (Nat.le_refl _) _).setCell (Nat.le_refl _) _).setCell (Nat.le_refl _) _).setCell (Nat.le_refl _) _).setCell (Nat.le_refl _) _).setCell (Nat.le_refl _) _).setCell (Nat.le_refl _) _).setCell (Nat.le_refl _) _)⟩
      · have HRE := Lib.hid (HNO.out (fun h => hso h.2))
        clear hso hca
        have q0 := HV13.out.cell 0 _ rfl
        have g0 := HV13.out.frozen 0
        have q1 := HV13.out.cell 1 _ rfl
        have g1 := HV13.out.frozen 1
        have q2 := HV13.out.cell 2 _ rfl
        have g2 := HV13.out.frozen 2
        have q3 := HV13.out.cell 3 _ rfl
        have g3 := HV13.out.frozen 3
        have q4 := HV13.out.cell 4 _ rfl
        have g4 := HV13.out.frozen 4
        have q5 := HV13.out.cell 5 _ rfl
        have g5 := HV13.out.frozen 5
        have q6 := HV13.out.cell 6 _ rfl
        have g6 := HV13.out.frozen 6
        have q7 := HV13.out.cell 7 _ rfl
        have g7 := HV13.out.frozen 7
        go_wp2_with fail
        have hVZ := ((((((((HV13.out.put 0 (.int .i64 0)).put 1 (.int .i64 0)).put 2 (.int .i64 0)).put 3 (.int .i64 0)).put 4 (.int .i64 0)).put 5 (.int .i64 0)).put 6 (.int .i64 0)).put 7 (.slice none 0 0))
        have j0 := hVZ.cell 0 _ rfl
        have j1 := hVZ.cell 1 _ rfl
        have j2 := hVZ.cell 2 _ rfl
        have j3 := hVZ.cell 3 _ rfl
        have j4 := hVZ.cell 4 _ rfl
        have j5 := hVZ.cell 5 _ rfl
        have j6 := hVZ.cell 6 _ rfl
        have j7 := hVZ.cell 7 _ rfl
        rw [HRE.out]
        refine bodyPost_ret (v := .tuple #[.agg #[.int .i64 0, .int .i64 0, .int .i64 0, .int .i64 0, .int .i64 0, .int .i64 0, .int .i64 0, .slice none 0 0], .int .i64 2]) (by simp [results, Try.results12, go_sem, j0, j1, j2, j3, j4, j5, j6, j7]) rfl ⟨_, rfl, Rd.nil _ _, ((((((((HB13.out.setCell (Nat.le_refl _) _).setCell (Nat.le_refl _) _).setCell (Nat.le_refl _) _).setCell (Nat.le_refl _) _).setCell (Nat.le_refl _) _).setCell (Nat.le_refl _) _).setCell (Nat.le_refl _) _).setCell (Nat.le_refl _) _)⟩
  · have hr : R = (zeroM, 2) := by rw [hD]; exact if_neg fun h => herr h.1
    have HRE := Lib.hid hr; clear hr hD
    go_enter Try.func12, Try.ntmps12
    go_wp2_with fail
    rw [← HW1.out]
    refine HOP.out.mono ?_
    rintro e w2 ⟨vi, rfl, hri, hb2⟩
    have HV13 := Lib.hid (HV1.out.below hb2 HV1.out.size)
    have HB13 := Lib.hid (HB1.out.trans (hb2.mono (by omega)))
    clear hri hb2
    have q0 := HV13.out.cell 0 _ rfl
    have g0 := HV13.out.frozen 0
    have q1 := HV13.out.cell 1 _ rfl
    have g1 := HV13.out.frozen 1
    have q2 := HV13.out.cell 2 _ rfl
    have g2 := HV13.out.frozen 2
    have q3 := HV13.out.cell 3 _ rfl
    have g3 := HV13.out.frozen 3
    have q4 := HV13.out.cell 4 _ rfl
    have g4 := HV13.out.frozen 4
    have q5 := HV13.out.cell 5 _ rfl
    have g5 := HV13.out.frozen 5
    have q6 := HV13.out.cell 6 _ rfl
    have g6 := HV13.out.frozen 6
    have q7 := HV13.out.cell 7 _ rfl
    have g7 := HV13.out.frozen 7
    go_wp2_with fail
    have hVZ := ((((((((HV13.out.put 0 (.int .i64 0)).put 1 (.int .i64 0)).put 2 (.int .i64 0)).put 3 (.int .i64 0)).put 4 (.int .i64 0)).put 5 (.int .i64 0)).put 6 (.int .i64 0)).put 7 (.slice none 0 0))
    have j0 := hVZ.cell 0 _ rfl
    have j1 := hVZ.cell 1 _ rfl
    have j2 := hVZ.cell 2 _ rfl
    have j3 := hVZ.cell 3 _ rfl
    have j4 := hVZ.cell 4 _ rfl
    have j5 := hVZ.cell 5 _ rfl
    have j6 := hVZ.cell 6 _ rfl
    have j7 := hVZ.cell 7 _ rfl
    rw [HRE.out]
    refine bodyPost_ret (v := .tuple #[.agg #[.int .i64 0, .int .i64 0, .int .i64 0, .int .i64 0, .int .i64 0, .int .i64 0, .int .i64 0, .slice none 0 0], .int .i64 2]) (by simp [results, Try.results12, go_sem, j0, j1, j2, j3, j4, j5, j6, j7]) rfl ⟨_, rfl, Rd.nil _ _, ((((((((HB13.out.setCell (Nat.le_refl _) _).setCell (Nat.le_refl _) _).setCell (Nat.le_refl _) _).setCell (Nat.le_refl _) _).setCell (Nat.le_refl _) _).setCell (Nat.le_refl _) _).setCell (Nat.le_refl _) _).setCell (Nat.le_refl _) _)⟩
end Go.Proofs.Ytiijcikdlemndaa

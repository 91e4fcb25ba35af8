/- The program's Decode. -/
import Derived.Test.YtiijcikdlemndaaPPut
import Derived.Lib.ConvBytes
namespace Go.Proofs.Ytiijcikdlemndaa
open Go.RowKit
attribute [local go_sem] less_eq same_eq le_eq ge_eq gt_eq

theorem Rd.put {α : Type} {enc : α → List Value} {k : Nat} {w : World} {B b o n c : Nat} {l : List α} (h : Rd enc k w B (.slice (some ⟨b, o, none⟩) n c) l) {g : Nat} (hg : b ≠ g) (i : Nat) (u : Value) : Rd enc k (w.setCell ⟨g, i, none⟩ u) B (.slice (some ⟨b, o, none⟩) n c) l := by
  obtain ⟨A, c', hv, hc, hi⟩ := h
  refine ⟨A, c', hv, hc, fun j hj => ?_⟩
  obtain ⟨b', o', hA, hB, h1⟩ := hi j hj
  refine ⟨b', o', hA, hB, fun q u' hu => ?_⟩
  have e : b' = b := by
    injection hv with e1
    rw [hA] at e1
    simp only [Option.some.injEq, Addr.mk.injEq] at e1
    exact e1.1.symm
  exact (World.cell?_setCell_other w ⟨g, i, none⟩ ⟨b', _, none⟩ u (by simp; try omega)).trans (h1 q u' hu)
theorem Rd.nilput {α : Type} {enc : α → List Value} {k : Nat} (w : World) (B : Nat) : Rd enc k w B (.slice none 0 0) [] := Rd.nil _ _

/-- a text as bytes, in memory of its own -/
theorem conv_any (w : World) (t : List UInt8) : ∃ c w', (convert 9 22 (.string (strB t))).run Try.prog w = .ok (.slice (some ⟨w.heap.size, 0, none⟩) t.length c) w' ∧ RdB w' w'.heap.size (.slice (some ⟨w.heap.size, 0, none⟩) t.length c) t ∧ Below w.heap.size w w' ∧ w.heap.size < w'.heap.size := by
  have h := Lib.run_convert_string_bytes (P := Try.prog) w 9 22 5 (strB t) Try.underlying9 Try.underlying22 Try.underlying5
  have hsz : (strB t).size = t.length := by simp [strB, ByteArray.size]
  rw [hsz] at h
  have h2 := Lib.bytesWorld_size w 5 (strB t)
  refine ⟨_, _, h, ⟨_, _, rfl, grownCap_ge _ _ _ _, fun i hi => ⟨w.heap.size, 0, rfl, by omega, fun j u hu => ?_⟩⟩, ⟨rfl, ?_, rfl, by omega, fun j hj => Lib.bytesWorld_at_old w _ _ j hj⟩, by omega⟩
  · match j, hu with
    | 0, hu =>
      simp only [byteEnc, List.getElem?_cons_zero, Option.some.injEq] at hu
      subst hu
      have := Lib.bytesWorld_cell w 5 (strB t) i (by rw [hsz]; exact hi)
      rw [Nat.zero_add, Nat.mul_one, Nat.add_zero, this]
      simp [strB, List.getD, hi]
    | j + 1, hu => simp [byteEnc] at hu
  · rfl

set_option maxHeartbeats 8000000 in
set_option maxRecDepth 100000 in
theorem pdecode_any (l : List UInt8) (v : Value) (w : World) (hv : RdB w w.heap.size v l) (hl : l.length ≤ 140737488351232) :
    Calls Try.prog 11 #[v] w fun e w' => ∃ v', e = .returned (.tuple #[mval (decodeAns l).1 v', .int .i64 (decodeAns l).2]) ∧ RdB w' w'.heap.size v' (decodeAns l).1.body ∧ Below w.heap.size w w' := by
  obtain ⟨w1, hw1⟩ : ∃ w1, w1 = w.alloc (.cells #[.int .i64 0, .int .i64 0, .int .i64 0, .int .i64 0, .int .i64 0, .int .i64 0, .int .i64 0, .slice none 0 0] 24) := ⟨_, rfl⟩
  have hb1 : Below w.heap.size w w1 := by rw [hw1]; exact (Below.refl _ _).alloc (Nat.le_refl _) _
  have hV1 : Whole w1 w.heap.size 24 [.int .i64 0, .int .i64 0, .int .i64 0, .int .i64 0, .int .i64 0, .int .i64 0, .int .i64 0, .slice none 0 0] := by rw [hw1]; exact Whole.fresh _ _ _
  have hop := open_any l v w1 (hv.next hb1) (by omega)
  obtain ⟨R, hD⟩ : ∃ R, R = decodeAns l := ⟨_, rfl⟩
  rw [← hD]
  unfold decodeAns at hD
  have hil : (openAns l).1.length ≤ l.length := by
    unfold openAns
    split
    · simp
    · split <;> simp
  generalize openAns l = x at hop hD hil
  obtain ⟨inner, err⟩ := x
  simp only at hop hD hil
  obtain ⟨A0, c0, hvv, _, _⟩ := hv.at
  subst hvv
  have HOP := Lib.hid hop; clear hop
  have HW1 := Lib.hid hw1; clear hw1
  have HB1 := Lib.hid hb1; clear hb1
  have HV1 := Lib.hid hV1; clear hV1
  clear hv
  have hwlt : w.heap.size < w1.heap.size := HV1.out.size
  by_cases herr : err = 0
  · subst herr
    unfold rdMsg at hD
    simp only at hD
    have hN1 := fun W base p h => fnum_any (some inner) base p W h
    generalize rdN (some inner) = r1 at hN1 hD
    obtain ⟨n1, S1⟩ := r1
    simp only at hN1 hD
    have hN2 := fun W base p h => fnum_any S1 base p W h
    generalize rdN S1 = r2 at hN2 hD
    obtain ⟨n2, S2⟩ := r2
    simp only at hN2 hD
    have hN3 := fun W base p h => fnum_any S2 base p W h
    generalize rdN S2 = r3 at hN3 hD
    obtain ⟨n3, S3⟩ := r3
    simp only at hN3 hD
    have hN4 := fun W base p h => fnum_any S3 base p W h
    generalize rdN S3 = r4 at hN4 hD
    obtain ⟨n4, S4⟩ := r4
    simp only at hN4 hD
    have hN5 := fun W base p h => fnum_any S4 base p W h
    generalize rdN S4 = r5 at hN5 hD
    obtain ⟨n5, S5⟩ := r5
    simp only at hN5 hD
    have hN6 := fun W base p h => fnum_any S5 base p W h
    generalize rdN S5 = r6 at hN6 hD
    obtain ⟨n6, S6⟩ := r6
    simp only at hN6 hD
    have hN7 := fun W base p h => fnum_any S6 base p W h
    generalize rdN S6 = r7 at hN7 hD
    obtain ⟨n7, S7⟩ := r7
    simp only at hN7 hD
    have hT := fun W base p h => ftext_any S7 base p W h
    have htl := rdT_len S7
    generalize rdT S7 = r8 at hT hD htl
    obtain ⟨tx, S8⟩ := r8
    simp only at hT hD htl
    have hsd := fun (W : World) (v : Value) (B : Nat) (h : RdB W B v tx) => soundM_any ⟨n1, n2, n3, n4, n5, n6, n7, tx⟩ v W B h (by simp only; omega)
    have hwh := fun W base p h => fwhole_any S8 base p W h
    obtain ⟨D1, hD1⟩ : ∃ D1, D1 = decide (S8 = some []) := ⟨_, rfl⟩
    obtain ⟨D2, hD2⟩ : ∃ D2, D2 = decide (soundM ⟨n1, n2, n3, n4, n5, n6, n7, tx⟩) := ⟨_, rfl⟩
    rw [← hD1] at hwh
    rw [← hD2] at hsd
    have hyes : D1 = true → D2 = true → R = (⟨n1, n2, n3, n4, n5, n6, n7, tx⟩, 0) := fun h1 h2 => by
      rw [hD, if_pos ⟨trivial, of_decide_eq_true (hD1 ▸ h1), of_decide_eq_true (hD2 ▸ h2)⟩]
    have hno : ¬ (D1 = true ∧ D2 = true) → R = (zeroM, 2) := fun h => by
      rw [hD, if_neg fun h' => h ⟨by rw [hD1]; exact decide_eq_true h'.2.1, by rw [hD2]; exact decide_eq_true h'.2.2⟩]
    have HYES := Lib.hid hyes
    have HNO := Lib.hid hno
    have HSD := Lib.hid hsd
    have HWH := Lib.hid hwh
    have HT := Lib.hid hT
    have HN1 := Lib.hid hN1
    have HN2 := Lib.hid hN2
    have HN3 := Lib.hid hN3
    have HN4 := Lib.hid hN4
    have HN5 := Lib.hid hN5
    have HN6 := Lib.hid hN6
    have HN7 := Lib.hid hN7
    clear hyes hno hsd hwh hT hD hD1 hD2 htl hN1 hN2 hN3 hN4 hN5 hN6 hN7
    go_enter Try.func11, Try.ntmps11
    go_wp2_with fail
    rw [← HW1.out]
    refine HOP.out.mono ?_
    rintro e w2 ⟨vi, rfl, hri, hb2⟩
    have hV2 := HV1.out.below hb2 HV1.out.size
    have HV2 := Lib.hid hV2; clear hV2
    have HB2 := Lib.hid (HB1.out.trans (hb2.mono (by omega)))
    have hwlt2 : w.heap.size < w2.heap.size := HV2.out.size
    have HFR := Lib.hid (ffrom_any inner vi w2 hri (by omega))
    clear hri hb2
    go_wp2_with fail
    refine HFR.out.mono ?_
    rintro e w3 ⟨p, rfl, hf3, hb3, hp⟩
    obtain ⟨base, hbase⟩ : ∃ base, base = w2.heap.size := ⟨_, rfl⟩
    rw [← hbase] at hf3 hb3 hp
    subst hp
    have HF3 := Lib.hid hf3
    have HO3 := Lib.hid (show Only p w2 w3 from (Only.refl _ _).below (by rw [← hbase]; exact hb3))
    have HBASE := Lib.hid hbase
    clear hf3 hb3 hbase
    go_wp2_with fail
    refine (HN1.out _ _ _ HF3.out).mono ?_
    rintro e w4 ⟨rfl, hf4, ho4⟩
    have HF4 := Lib.hid hf4
    have HO4 := Lib.hid (HO3.out.trans ho4)
    clear hf4 ho4
    go_wp2_with fail
    refine (HN2.out _ _ _ HF4.out).mono ?_
    rintro e w5 ⟨rfl, hf5, ho5⟩
    have HF5 := Lib.hid hf5
    have HO5 := Lib.hid (HO4.out.trans ho5)
    clear hf5 ho5
    go_wp2_with fail
    refine (HN3.out _ _ _ HF5.out).mono ?_
    rintro e w6 ⟨rfl, hf6, ho6⟩
    have HF6 := Lib.hid hf6
    have HO6 := Lib.hid (HO5.out.trans ho6)
    clear hf6 ho6
    go_wp2_with fail
    refine (HN4.out _ _ _ HF6.out).mono ?_
    rintro e w7 ⟨rfl, hf7, ho7⟩
    have HF7 := Lib.hid hf7
    have HO7 := Lib.hid (HO6.out.trans ho7)
    clear hf7 ho7
    go_wp2_with fail
    refine (HN5.out _ _ _ HF7.out).mono ?_
    rintro e w8 ⟨rfl, hf8, ho8⟩
    have HF8 := Lib.hid hf8
    have HO8 := Lib.hid (HO7.out.trans ho8)
    clear hf8 ho8
    go_wp2_with fail
    refine (HN6.out _ _ _ HF8.out).mono ?_
    rintro e w9 ⟨rfl, hf9, ho9⟩
    have HF9 := Lib.hid hf9
    have HO9 := Lib.hid (HO8.out.trans ho9)
    clear hf9 ho9
    go_wp2_with fail
    refine (HN7.out _ _ _ HF9.out).mono ?_
    rintro e w10 ⟨rfl, hf10, ho10⟩
    have HF10 := Lib.hid hf10
    have HO10 := Lib.hid (HO9.out.trans ho10)
    clear hf10 ho10
    go_wp2_with fail
    refine (HT.out _ _ _ HF10.out).mono ?_
    rintro e w11 ⟨rfl, hf11, ho11⟩
    have HO11 := Lib.hid (HO10.out.trans ho11)
    have hbl : Below w2.heap.size w2 w11 := HO11.out.low (by rw [HBASE.out]; exact Nat.le_refl _) (Nat.le_refl _)
    have hV11 := HV2.out.below hbl hwlt2
    obtain ⟨c, w12, hkc, hr12, hb12, hlt12⟩ := conv_any w11 tx
    have HR12 := Lib.hid hr12
    have HV12 := Lib.hid (hV11.below hb12 hV11.size)
    have HB12 := Lib.hid (show Below w.heap.size w w12 from (HB2.out.trans (hbl.mono (by omega))).trans (hb12.mono (by have := hV11.size; omega)))
    have HF12 := Lib.hid (hf11.more hb12)
    have hwlt11 : w.heap.size < w11.heap.size := hV11.size
    clear hf11 ho11 hbl hV11 hr12 hb12
    go_wp2_with fail
    obtain ⟨w13, hw13⟩ : ∃ w13, w13 = w12.alloc (.cells #[.int .i64 n1, .int .i64 n2, .int .i64 n3, .int .i64 n4, .int .i64 n5, .int .i64 n6, .int .i64 n7, .slice (some ⟨w11.heap.size, 0, none⟩) tx.length c] 24) := ⟨_, rfl⟩
    have hb13 : Below w12.heap.size w12 w13 := by rw [hw13]; exact (Below.refl _ _).alloc (Nat.le_refl _) _
    have hM13 : Whole w13 w12.heap.size 24 [.int .i64 n1, .int .i64 n2, .int .i64 n3, .int .i64 n4, .int .i64 n5, .int .i64 n6, .int .i64 n7, .slice (some ⟨w11.heap.size, 0, none⟩) tx.length c] := by rw [hw13]; exact Whole.fresh _ _ _
    rw [← hw13]
    have HV13 := Lib.hid (HV12.out.below hb13 HV12.out.size)
    have HR13 := Lib.hid (HR12.out.below hb13 (Nat.le_refl _))
    have HB13 := Lib.hid (HB12.out.trans (hb13.mono (by have := HV12.out.size; omega)))
    have HWC := Lib.hid (HWH.out _ _ _ (HF12.out.more hb13))
    obtain ⟨G, hG⟩ : ∃ G, G = w12.heap.size := ⟨_, rfl⟩
    rw [← hG] at hM13 ⊢
    have hGs : w11.heap.size < G := by omega
    have HGG := Lib.hid hG
    have HM13 := Lib.hid hM13
    clear hw13 hb13 hM13 hkc hG
    refine HWC.out.mono ?_
    rintro e w14 ⟨rfl, rfl⟩
    cases D1 with
    | false =>
      have hr := HNO.out (by simp)
      have HRE := Lib.hid hr; clear hr
      have q0 := HV13.out.cell 0 _ rfl
      have g0 := HV13.out.frozen 0
      have q1 := HV13.out.cell 1 _ rfl
      have g1 := HV13.out.frozen 1
      have q2 := HV13.out.cell 2 _ rfl
      have g2 := HV13.out.frozen 2
      have q3 := HV13.out.cell 3 _ rfl
      have g3 := HV13.out.frozen 3
      have q4 := HV13.out.cell 4 _ rfl
      have g4 := HV13.out.frozen 4
      have q5 := HV13.out.cell 5 _ rfl
      have g5 := HV13.out.frozen 5
      have q6 := HV13.out.cell 6 _ rfl
      have g6 := HV13.out.frozen 6
      have q7 := HV13.out.cell 7 _ rfl
      have g7 := HV13.out.frozen 7
      go_wp2_with fail
      have hVZ := ((((((((HV13.out.put 0 (.int .i64 0)).put 1 (.int .i64 0)).put 2 (.int .i64 0)).put 3 (.int .i64 0)).put 4 (.int .i64 0)).put 5 (.int .i64 0)).put 6 (.int .i64 0)).put 7 (.slice none 0 0))
      have j0 := hVZ.cell 0 _ rfl
      have j1 := hVZ.cell 1 _ rfl
      have j2 := hVZ.cell 2 _ rfl
      have j3 := hVZ.cell 3 _ rfl
      have j4 := hVZ.cell 4 _ rfl
      have j5 := hVZ.cell 5 _ rfl
      have j6 := hVZ.cell 6 _ rfl
      have j7 := hVZ.cell 7 _ rfl
      rw [HRE.out]
      refine bodyPost_ret (v := .tuple #[.agg #[.int .i64 0, .int .i64 0, .int .i64 0, .int .i64 0, .int .i64 0, .int .i64 0, .int .i64 0, .slice none 0 0], .int .i64 2]) (by simp [results, Try.results11, go_sem, j0, j1, j2, j3, j4, j5, j6, j7]) rfl ⟨_, rfl, Rd.nil _ _, ((((((((HB13.out.setCell (Nat.le_refl _) _).setCell (Nat.le_refl _) _).setCell (Nat.le_refl _) _).setCell (Nat.le_refl _) _).setCell (Nat.le_refl _) _).setCell (Nat.le_refl _) _).setCell (Nat.le_refl _) _).setCell (Nat.le_refl _) _)⟩
    | true =>
      have kk0 := HM13.out.cell 0 _ rfl
      have kk1 := HM13.out.cell 1 _ rfl
      have kk2 := HM13.out.cell 2 _ rfl
      have kk3 := HM13.out.cell 3 _ rfl
      have kk4 := HM13.out.cell 4 _ rfl
      have kk5 := HM13.out.cell 5 _ rfl
      have kk6 := HM13.out.cell 6 _ rfl
      have kk7 := HM13.out.cell 7 _ rfl
      have hsc := HSD.out w14 _ _ HR13.out
      simp only [mval] at hsc
      have HSC := Lib.hid hsc; clear hsc
      go_wp2_with fail
      refine HSC.out.mono ?_
      rintro e w15 ⟨rfl, hb15⟩
      have HV15 := Lib.hid (HV13.out.below hb15 HV13.out.size)
      have HM15 := Lib.hid (HM13.out.below hb15 HM13.out.size)
      have HR15 := Lib.hid (HR13.out.below hb15 (by have := HM13.out.size; have := HGG.out; omega))
      have HB15 := Lib.hid (HB13.out.trans (hb15.mono (by have := HV13.out.size; omega)))
      clear kk0 kk1 kk2 kk3 kk4 kk5 kk6 kk7 hb15
      cases D2 with
      | false =>
        have hr := HNO.out (by simp)
        have HRE := Lib.hid hr; clear hr
        have q0 := HV15.out.cell 0 _ rfl
        have g0 := HV15.out.frozen 0
        have q1 := HV15.out.cell 1 _ rfl
        have g1 := HV15.out.frozen 1
        have q2 := HV15.out.cell 2 _ rfl
        have g2 := HV15.out.frozen 2
        have q3 := HV15.out.cell 3 _ rfl
        have g3 := HV15.out.frozen 3
        have q4 := HV15.out.cell 4 _ rfl
        have g4 := HV15.out.frozen 4
        have q5 := HV15.out.cell 5 _ rfl
        have g5 := HV15.out.frozen 5
        have q6 := HV15.out.cell 6 _ rfl
        have g6 := HV15.out.frozen 6
        have q7 := HV15.out.cell 7 _ rfl
        have g7 := HV15.out.frozen 7
        go_wp2_with fail
        have hVZ := ((((((((HV15.out.put 0 (.int .i64 0)).put 1 (.int .i64 0)).put 2 (.int .i64 0)).put 3 (.int .i64 0)).put 4 (.int .i64 0)).put 5 (.int .i64 0)).put 6 (.int .i64 0)).put 7 (.slice none 0 0))
        have j0 := hVZ.cell 0 _ rfl
        have j1 := hVZ.cell 1 _ rfl
        have j2 := hVZ.cell 2 _ rfl
        have j3 := hVZ.cell 3 _ rfl
        have j4 := hVZ.cell 4 _ rfl
        have j5 := hVZ.cell 5 _ rfl
        have j6 := hVZ.cell 6 _ rfl
        have j7 := hVZ.cell 7 _ rfl
        rw [HRE.out]
        refine bodyPost_ret (v := .tuple #[.agg #[.int .i64 0, .int .i64 0, .int .i64 0, .int .i64 0, .int .i64 0, .int .i64 0, .int .i64 0, .slice none 0 0], .int .i64 2]) (by simp [results, Try.results11, go_sem, j0, j1, j2, j3, j4, j5, j6, j7]) rfl ⟨_, rfl, Rd.nil _ _, ((((((((HB15.out.setCell (Nat.le_refl _) _).setCell (Nat.le_refl _) _).setCell (Nat.le_refl _) _).setCell (Nat.le_refl _) _).setCell (Nat.le_refl _) _).setCell (Nat.le_refl _) _).setCell (Nat.le_refl _) _).setCell (Nat.le_refl _) _)⟩
      | true =>
        have hr := HYES.out (by simp) (by simp)
        have HRE := Lib.hid hr; clear hr
        have hsz15 : w12.heap.size ≤ w15.heap.size := Nat.le_trans (Nat.le_of_eq HGG.out.symm) (HM15.out.size |> Nat.le_of_lt)
        have q0 := HV15.out.cell 0 _ rfl
        have g0 := HV15.out.frozen 0
        have q1 := HV15.out.cell 1 _ rfl
        have g1 := HV15.out.frozen 1
        have q2 := HV15.out.cell 2 _ rfl
        have g2 := HV15.out.frozen 2
        have q3 := HV15.out.cell 3 _ rfl
        have g3 := HV15.out.frozen 3
        have q4 := HV15.out.cell 4 _ rfl
        have g4 := HV15.out.frozen 4
        have q5 := HV15.out.cell 5 _ rfl
        have g5 := HV15.out.frozen 5
        have q6 := HV15.out.cell 6 _ rfl
        have g6 := HV15.out.frozen 6
        have q7 := HV15.out.cell 7 _ rfl
        have g7 := HV15.out.frozen 7
        have kk0 := HM15.out.cell 0 _ rfl
        have kk1 := HM15.out.cell 1 _ rfl
        have kk2 := HM15.out.cell 2 _ rfl
        have kk3 := HM15.out.cell 3 _ rfl
        have kk4 := HM15.out.cell 4 _ rfl
        have kk5 := HM15.out.cell 5 _ rfl
        have kk6 := HM15.out.cell 6 _ rfl
        have kk7 := HM15.out.cell 7 _ rfl
        go_wp2_with fail
        have hVZ := ((((((((HV15.out.put 0 (.int .i64 n1)).put 1 (.int .i64 n2)).put 2 (.int .i64 n3)).put 3 (.int .i64 n4)).put 4 (.int .i64 n5)).put 5 (.int .i64 n6)).put 6 (.int .i64 n7)).put 7 (.slice (some ⟨w11.heap.size, 0, none⟩) tx.length c))
        have j0 := hVZ.cell 0 _ rfl
        have j1 := hVZ.cell 1 _ rfl
        have j2 := hVZ.cell 2 _ rfl
        have j3 := hVZ.cell 3 _ rfl
        have j4 := hVZ.cell 4 _ rfl
        have j5 := hVZ.cell 5 _ rfl
        have j6 := hVZ.cell 6 _ rfl
        have j7 := hVZ.cell 7 _ rfl
        rw [HRE.out]
        refine bodyPost_ret (v := .tuple #[.agg #[.int .i64 n1, .int .i64 n2, .int .i64 n3, .int .i64 n4, .int .i64 n5, .int .i64 n6, .int .i64 n7, .slice (some ⟨w11.heap.size, 0, none⟩) tx.length c], .int .i64 0]) (by simp [results, Try.results11, go_sem, j0, j1, j2, j3, j4, j5, j6, j7]) rfl ⟨_, rfl, ((((((((HR15.out.put (by omega) 0 _).put (by omega) 1 _).put (by omega) 2 _).put (by omega) 3 _).put (by omega) 4 _).put (by omega) 5 _).put (by omega) 6 _).put (by omega) 7 _).mono (by simp [World.setCell]; omega), ((((((((HB15.out.setCell (Nat.le_refl _) _).setCell (Nat.le_refl _) _).setCell (Nat.le_refl _) _).setCell (Nat.le_refl _) _).setCell (Nat.le_refl _) _).setCell (Nat.le_refl _) _).setCell (Nat.le_refl _) _).setCell (Nat.le_refl _) _)⟩
  · have hr : R = (zeroM, 2) := by rw [hD]; exact if_neg fun h => herr h.1
    have HRE := Lib.hid hr; clear hr hD
    go_enter Try.func11, Try.ntmps11
    go_wp2_with fail
    rw [← HW1.out]
    refine HOP.out.mono ?_
    rintro e w2 ⟨vi, rfl, hri, hb2⟩
    have HV13 := Lib.hid (HV1.out.below hb2 HV1.out.size)
    have HB13 := Lib.hid (HB1.out.trans (hb2.mono (by omega)))
    clear hri hb2
    have q0 := HV13.out.cell 0 _ rfl
    have g0 := HV13.out.frozen 0
    have q1 := HV13.out.cell 1 _ rfl
    have g1 := HV13.out.frozen 1
    have q2 := HV13.out.cell 2 _ rfl
    have g2 := HV13.out.frozen 2
    have q3 := HV13.out.cell 3 _ rfl
    have g3 := HV13.out.frozen 3
    have q4 := HV13.out.cell 4 _ rfl
    have g4 := HV13.out.frozen 4
    have q5 := HV13.out.cell 5 _ rfl
    have g5 := HV13.out.frozen 5
    have q6 := HV13.out.cell 6 _ rfl
    have g6 := HV13.out.frozen 6
    have q7 := HV13.out.cell 7 _ rfl
    have g7 := HV13.out.frozen 7
    go_wp2_with fail
    have hVZ := ((((((((HV13.out.put 0 (.int .i64 0)).put 1 (.int .i64 0)).put 2 (.int .i64 0)).put 3 (.int .i64 0)).put 4 (.int .i64 0)).put 5 (.int .i64 0)).put 6 (.int .i64 0)).put 7 (.slice none 0 0))
    have j0 := hVZ.cell 0 _ rfl
    have j1 := hVZ.cell 1 _ rfl
    have j2 := hVZ.cell 2 _ rfl
    have j3 := hVZ.cell 3 _ rfl
    have j4 := hVZ.cell 4 _ rfl
    have j5 := hVZ.cell 5 _ rfl
    have j6 := hVZ.cell 6 _ rfl
    have j7 := hVZ.cell 7 _ rfl
    rw [HRE.out]
    refine bodyPost_ret (v := .tuple #[.agg #[.int .i64 0, .int .i64 0, .int .i64 0, .int .i64 0, .int .i64 0, .int .i64 0, .int .i64 0, .slice none 0 0], .int .i64 2]) (by simp [results, Try.results11, go_sem, j0, j1, j2, j3, j4, j5, j6, j7]) rfl ⟨_, rfl, Rd.nil _ _, ((((((((HB13.out.setCell (Nat.le_refl _) _).setCell (Nat.le_refl _) _).setCell (Nat.le_refl _) _).setCell (Nat.le_refl _) _).setCell (Nat.le_refl _) _).setCell (Nat.le_refl _) _).setCell (Nat.le_refl _) _).setCell (Nat.le_refl _) _)⟩
end Go.Proofs.Ytiijcikdlemndaa

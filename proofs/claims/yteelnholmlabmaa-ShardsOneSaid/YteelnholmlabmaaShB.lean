/- The program's pieces: the span of a piece. -/
import Derived.Test.YteelnholmlabmaaShA
import Derived.Test.YteelnholmlabmaaShT
namespace Go.Proofs.Yteelnholmlabmaa
open Go.RowKit
attribute [local go_sem] less_eq same_eq le_eq ge_eq gt_eq

set_option maxHeartbeats 400000 in
theorem ptop_any (w : World) : Calls Try.prog 40 #[] w fun e w' => e = .returned (.string topK) ∧ Below w.heap.size w w' := by
  have HT := Lib.hid (prepeat_any w)
  go_enter Try.func40, Try.ntmps40
  go_wp2_with fail
  refine HT.out.mono ?_
  rintro e w1 ⟨rfl, hb1⟩
  go_wp2_with fail
  go_ret
  exact ⟨rfl, hb1⟩

set_option maxHeartbeats 4000000 in
set_option maxRecDepth 100000 in
theorem ppc_any (l : List K) (n : Nat) (v : Value) (w : World) (hv : RdK w w.heap.size v l) (hn : n ≤ l.length) (hl : l.length ≤ 140737488351232) :
    Calls Try.prog 29 #[v, .int .i64 (n : Int)] w fun e w' => e = .returned (.agg #[.string (pieceB l n).1, .string (pieceB l n).2]) ∧ Below w.heap.size w w' := by
  obtain ⟨A, c, rfl, hc, hi⟩ := hv.at
  have HI := Lib.hid hi
  clear hi hv
  have hE : (pieceB l n).2 = (if h : n < l.length then l[n] else topK) := by
    unfold pieceB
    simp only
    split
    · rename_i h; rw [List.getElem?_eq_getElem h]; rfl
    · rename_i h; rw [List.getElem?_eq_none (by omega)]; rfl
  have hF : (pieceB l n).1 = (if h : n = 0 then ⟨#[]⟩ else l[n - 1]'(by omega)) := by
    unfold pieceB
    simp only
    by_cases h : n = 0
    · simp [h]
    · rw [if_neg h, dif_neg h, List.getElem?_eq_getElem (by omega)]; rfl
  rw [hE, hF]
  clear hE hF
  have HT := Lib.hid ptop_any
  generalize topK = tk at HT ⊢
  have ht0 := HT.out (w.alloc (.cells #[.string ⟨#[]⟩, .string ⟨#[]⟩] 31))
  have HT0 := Lib.hid ht0; clear ht0
  have HX0 := Lib.hid (Whole.fresh w 31 [.string ⟨#[]⟩, .string ⟨#[]⟩])
  have HB0 := Lib.hid (show Below w.heap.size w (w.alloc (.cells #[.string ⟨#[]⟩, .string ⟨#[]⟩] 31)) from (Below.refl _ w).alloc (Nat.le_refl _) _)
  clear HT
  by_cases h0 : n = 0
  · by_cases h1 : n < l.length
    · rw [dif_pos h0, dif_pos h1]
      subst h0
      obtain ⟨b, o, rfl, hB, k0⟩ := HI.out 0 h1
      simp only [Nat.add_zero] at k0
      generalize l[0] = x at k0 ⊢
      have h2 : (0 : Int) < (l.length : Int) := by omega
      clear HI h1 hn
      go_enter Try.func29, Try.ntmps29
      go_wp2_with fail
      refine HT0.out.mono ?_
      rintro e w1 ⟨rfl, hb1⟩
      have hX1 := HX0.out.below hb1 (by simp)
      have hb01 := HB0.out.trans (hb1.mono (by simp))
      have hs1 : w.heap.size < w1.heap.size := by have := hb1.size; simp at this; omega
      have k_0 := (World.cell?_alloc_old w1 (.cells #[.string ⟨#[]⟩, .string tk] 31) ⟨b, o, none⟩ (show b ≠ w1.heap.size by omega)).trans ((hb01.cell (p := ⟨b, o, none⟩) hB).trans k0)
      have y0 := hX1.cell 0 _ rfl
      have y1 := hX1.cell 1 _ rfl
      have f0 := hX1.frozen 0
      have f1 := hX1.frozen 1
      have HBB := Lib.hid hb01
      have hX2 := (hX1.put 0 (.string ⟨#[]⟩)).put 1 (.string x)
      simp only [List.set] at hX2
      have z0 := hX2.cell 0 _ rfl
      have z1 := hX2.cell 1 _ rfl
      have hne : w.heap.size ≠ w1.heap.size := by omega
      have r0 := fun ob => (World.cell?_alloc_old ((w1.setCell ⟨w.heap.size, 0, none⟩ (.string ⟨#[]⟩)).setCell ⟨w.heap.size, 1, none⟩ (.string x)) ob ⟨w.heap.size, 0, none⟩ (by simpa [World.setCell] using hne)).trans z0
      have r1 := fun ob => (World.cell?_alloc_old ((w1.setCell ⟨w.heap.size, 0, none⟩ (.string ⟨#[]⟩)).setCell ⟨w.heap.size, 1, none⟩ (.string x)) ob ⟨w.heap.size, 1, none⟩ (by simpa [World.setCell] using hne)).trans z1
      have R0 := Lib.hid r0
      have R1 := Lib.hid r1
      have hs2 := Nat.le_of_lt hs1
      clear hb1 hb01 hX1 hX2 z0 z1 r0 r1
      go_wp2_with fail
      refine bodyPost_ret (v := .agg #[.string ⟨#[]⟩, .string x]) (by simp [results, Try.results29, go_sem, R0.out, R1.out]) rfl ⟨rfl, ?_⟩
      exact ((HBB.out.setCell (p := ⟨w.heap.size, 0, none⟩) (Nat.le_refl _) _).setCell (p := ⟨w.heap.size, 1, none⟩) (Nat.le_refl _) _).alloc (by simpa [World.setCell] using hs2) _
    · rw [dif_pos h0, dif_neg h1]
      subst h0
      have h2 : ¬ (0 : Int) < (l.length : Int) := by omega
      clear HI h1 hn
      go_enter Try.func29, Try.ntmps29
      go_wp2_with fail
      refine HT0.out.mono ?_
      rintro e w1 ⟨rfl, hb1⟩
      have hX1 := HX0.out.below hb1 (by simp)
      have hb01 := HB0.out.trans (hb1.mono (by simp))
      have hs1 : w.heap.size < w1.heap.size := by have := hb1.size; simp at this; omega
      have y0 := hX1.cell 0 _ rfl
      have y1 := hX1.cell 1 _ rfl
      have f0 := hX1.frozen 0
      have f1 := hX1.frozen 1
      have HBB := Lib.hid hb01
      have hX2 := (hX1.put 0 (.string ⟨#[]⟩)).put 1 (.string tk)
      simp only [List.set] at hX2
      have z0 := hX2.cell 0 _ rfl
      have z1 := hX2.cell 1 _ rfl
      have hne : w.heap.size ≠ w1.heap.size := by omega
      have r0 := fun ob => (World.cell?_alloc_old ((w1.setCell ⟨w.heap.size, 0, none⟩ (.string ⟨#[]⟩)).setCell ⟨w.heap.size, 1, none⟩ (.string tk)) ob ⟨w.heap.size, 0, none⟩ (by simpa [World.setCell] using hne)).trans z0
      have r1 := fun ob => (World.cell?_alloc_old ((w1.setCell ⟨w.heap.size, 0, none⟩ (.string ⟨#[]⟩)).setCell ⟨w.heap.size, 1, none⟩ (.string tk)) ob ⟨w.heap.size, 1, none⟩ (by simpa [World.setCell] using hne)).trans z1
      have R0 := Lib.hid r0
      have R1 := Lib.hid r1
      have hs2 := Nat.le_of_lt hs1
      clear hb1 hb01 hX1 hX2 z0 z1 r0 r1
      go_wp2_with fail
      refine bodyPost_ret (v := .agg #[.string ⟨#[]⟩, .string tk]) (by simp [results, Try.results29, go_sem, R0.out, R1.out]) rfl ⟨rfl, ?_⟩
      exact ((HBB.out.setCell (p := ⟨w.heap.size, 0, none⟩) (Nat.le_refl _) _).setCell (p := ⟨w.heap.size, 1, none⟩) (Nat.le_refl _) _).alloc (by simpa [World.setCell] using hs2) _
  · obtain ⟨m, rfl⟩ : ∃ m, n = m + 1 := ⟨n - 1, by omega⟩
    obtain ⟨b, o, rfl, hB, k0⟩ := HI.out m (by omega)
    have h3 : IntKind.i64.wrap (((m + 1 : Nat) : Int) - 1) = (m : Int) := by rw [IntKind.wrap_i64]; omega
    have h4 : (0 : Int) < ((m + 1 : Nat) : Int) := by omega
    have h5 : (m : Int) < (l.length : Int) := by omega
    have h6 : (0 : Int) ≤ (m : Int) := by omega
    by_cases h1 : m + 1 < l.length
    · rw [dif_neg h0, dif_pos h1]
      obtain ⟨b2, o2, eA, hB2, k1⟩ := HI.out (m + 1) h1
      obtain ⟨rfl, rfl⟩ : b = b2 ∧ o = o2 := by simpa using eA
      have e1 : l[m + 1 - 1]'(by omega) = l[m] := rfl
      rw [e1]
      generalize l[m + 1] = y at k1 ⊢
      generalize l[m] = x at k0 k1 ⊢
      clear e1 eA
      have h7 : ((m + 1 : Nat) : Int) < (l.length : Int) := by omega
      obtain ⟨j, hj⟩ : ∃ j, m + 1 = j := ⟨_, rfl⟩
      rw [hj] at h3 h4 h7 k1 ⊢
      have h8 : (0 : Int) ≤ (j : Int) := by omega
      clear hj h0 h1 hn HI
      go_enter Try.func29, Try.ntmps29
      go_wp2_with fail
      refine HT0.out.mono ?_
      rintro e w1 ⟨rfl, hb1⟩
      have hX1 := HX0.out.below hb1 (by simp)
      have hb01 := HB0.out.trans (hb1.mono (by simp))
      have hs1 : w.heap.size < w1.heap.size := by have := hb1.size; simp at this; omega
      have k_0 := (World.cell?_alloc_old w1 (.cells #[.string ⟨#[]⟩, .string tk] 31) ⟨b, o + m, none⟩ (show b ≠ w1.heap.size by omega)).trans ((hb01.cell (p := ⟨b, o + m, none⟩) hB).trans k0)
      have k_1 := (World.cell?_alloc_old w1 (.cells #[.string x, .string tk] 31) ⟨b, o + m, none⟩ (show b ≠ w1.heap.size by omega)).trans ((hb01.cell (p := ⟨b, o + m, none⟩) hB).trans k0)
      have q_0 := (World.cell?_alloc_old w1 (.cells #[.string ⟨#[]⟩, .string tk] 31) ⟨b, o + j, none⟩ (show b ≠ w1.heap.size by omega)).trans ((hb01.cell (p := ⟨b, o + j, none⟩) hB).trans k1)
      have q_1 := (World.cell?_alloc_old w1 (.cells #[.string x, .string tk] 31) ⟨b, o + j, none⟩ (show b ≠ w1.heap.size by omega)).trans ((hb01.cell (p := ⟨b, o + j, none⟩) hB).trans k1)
      have y0 := hX1.cell 0 _ rfl
      have y1 := hX1.cell 1 _ rfl
      have f0 := hX1.frozen 0
      have f1 := hX1.frozen 1
      have HBB := Lib.hid hb01
      have hX2 := (hX1.put 0 (.string x)).put 1 (.string y)
      simp only [List.set] at hX2
      have z0 := hX2.cell 0 _ rfl
      have z1 := hX2.cell 1 _ rfl
      have hne : w.heap.size ≠ w1.heap.size := by omega
      have r0 := fun ob => (World.cell?_alloc_old ((w1.setCell ⟨w.heap.size, 0, none⟩ (.string x)).setCell ⟨w.heap.size, 1, none⟩ (.string y)) ob ⟨w.heap.size, 0, none⟩ (by simpa [World.setCell] using hne)).trans z0
      have r1 := fun ob => (World.cell?_alloc_old ((w1.setCell ⟨w.heap.size, 0, none⟩ (.string x)).setCell ⟨w.heap.size, 1, none⟩ (.string y)) ob ⟨w.heap.size, 1, none⟩ (by simpa [World.setCell] using hne)).trans z1
      have R0 := Lib.hid r0
      have R1 := Lib.hid r1
      have hs2 := Nat.le_of_lt hs1
      clear hb1 hb01 hX1 hX2 z0 z1 r0 r1
      go_wp2_with fail
      refine bodyPost_ret (v := .agg #[.string x, .string y]) (by simp [results, Try.results29, go_sem, R0.out, R1.out]) rfl ⟨rfl, ?_⟩
      exact ((HBB.out.setCell (p := ⟨w.heap.size, 0, none⟩) (Nat.le_refl _) _).setCell (p := ⟨w.heap.size, 1, none⟩) (Nat.le_refl _) _).alloc (by simpa [World.setCell] using hs2) _
    · rw [dif_neg h0, dif_neg h1]
      have e1 : l[m + 1 - 1]'(by omega) = l[m] := rfl
      rw [e1]
      generalize l[m] = x at k0 ⊢
      clear e1
      have h7 : ¬ ((m + 1 : Nat) : Int) < (l.length : Int) := by omega
      obtain ⟨j, hj⟩ : ∃ j, m + 1 = j := ⟨_, rfl⟩
      rw [hj] at h3 h4 h7 ⊢
      clear hj h0 h1 hn HI
      go_enter Try.func29, Try.ntmps29
      go_wp2_with fail
      refine HT0.out.mono ?_
      rintro e w1 ⟨rfl, hb1⟩
      have hX1 := HX0.out.below hb1 (by simp)
      have hb01 := HB0.out.trans (hb1.mono (by simp))
      have hs1 : w.heap.size < w1.heap.size := by have := hb1.size; simp at this; omega
      have k_0 := (World.cell?_alloc_old w1 (.cells #[.string ⟨#[]⟩, .string tk] 31) ⟨b, o + m, none⟩ (show b ≠ w1.heap.size by omega)).trans ((hb01.cell (p := ⟨b, o + m, none⟩) hB).trans k0)
      have y0 := hX1.cell 0 _ rfl
      have y1 := hX1.cell 1 _ rfl
      have f0 := hX1.frozen 0
      have f1 := hX1.frozen 1
      have HBB := Lib.hid hb01
      have hX2 := (hX1.put 0 (.string x)).put 1 (.string tk)
      simp only [List.set] at hX2
      have z0 := hX2.cell 0 _ rfl
      have z1 := hX2.cell 1 _ rfl
      have hne : w.heap.size ≠ w1.heap.size := by omega
      have r0 := fun ob => (World.cell?_alloc_old ((w1.setCell ⟨w.heap.size, 0, none⟩ (.string x)).setCell ⟨w.heap.size, 1, none⟩ (.string tk)) ob ⟨w.heap.size, 0, none⟩ (by simpa [World.setCell] using hne)).trans z0
      have r1 := fun ob => (World.cell?_alloc_old ((w1.setCell ⟨w.heap.size, 0, none⟩ (.string x)).setCell ⟨w.heap.size, 1, none⟩ (.string tk)) ob ⟨w.heap.size, 1, none⟩ (by simpa [World.setCell] using hne)).trans z1
      have R0 := Lib.hid r0
      have R1 := Lib.hid r1
      have hs2 := Nat.le_of_lt hs1
      clear hb1 hb01 hX1 hX2 z0 z1 r0 r1
      go_wp2_with fail
      refine bodyPost_ret (v := .agg #[.string x, .string tk]) (by simp [results, Try.results29, go_sem, R0.out, R1.out]) rfl ⟨rfl, ?_⟩
      exact ((HBB.out.setCell (p := ⟨w.heap.size, 0, none⟩) (Nat.le_refl _) _).setCell (p := ⟨w.heap.size, 1, none⟩) (Nat.le_refl _) _).alloc (by simpa [World.setCell] using hs2) _

set_option maxHeartbeats 4000000 in
set_option maxRecDepth 100000 in
theorem ppiece_any (b : List K) (n : Int) (vb : Value) (w : World) (hb : RdK w w.heap.size vb b) (hbl : b.length ≤ 140737488351232) (hn : -9223372036854775808 ≤ n ∧ n < 9223372036854775808) :
    Calls Try.prog 14 #[vb, .int .i64 n] w fun e w' => e = .returned (.tuple #[.agg #[.string (if okB b ∧ 0 ≤ n ∧ n ≤ b.length then (pieceB b n.toNat).1 else ⟨#[]⟩), .string (if okB b ∧ 0 ≤ n ∧ n ≤ b.length then (pieceB b n.toNat).2 else ⟨#[]⟩)], .int .i64 (if okB b then (if 0 ≤ n ∧ n ≤ b.length then 0 else 1) else 2)]) ∧ Below w.heap.size w w' := by
  have hb0 : Below w.heap.size w (w.alloc (.cells #[.string ⟨#[]⟩, .string ⟨#[]⟩] 31)) := (Below.refl _ w).alloc (Nat.le_refl _) _
  have HS := Lib.hid (psoundB_any b vb _ (hb.next hb0))
  have HC := Lib.hid (fun W (h : Below w.heap.size w W) => pcount_any b vb W ((hb.below h (Nat.le_refl _)).mono h.size) hbl)
  have HP := Lib.hid (fun (m : Nat) (hm : m ≤ b.length) W (h : Below w.heap.size w W) => ppc_any b m vb W ((hb.below h (Nat.le_refl _)).mono h.size) hm hbl)
  have HX0 := Lib.hid (Whole.fresh w 31 [.string ⟨#[]⟩, .string ⟨#[]⟩])
  obtain ⟨Ab, cb, rfl, _⟩ := hb.at
  have HB0 := Lib.hid hb0
  clear hb hb0
  by_cases hok : okB b
  case neg =>
    rw [if_neg hok, if_neg (fun h => hok h.1), if_neg (fun h => hok h.1)]
    rw [decide_eq_false hok] at HS
    clear hok
    go_enter Try.func14, Try.ntmps14
    go_wp2_with fail
    refine HS.out.mono ?_
    rintro e w1 ⟨rfl, hb1⟩
    have hX1 := HX0.out.below hb1 (by simp)
    have y0 := hX1.cell 0 _ rfl
    have y1 := hX1.cell 1 _ rfl
    have f0 := hX1.frozen 0
    have f1 := hX1.frozen 1
    have hX2 := (hX1.put 0 (.string ⟨#[]⟩)).put 1 (.string ⟨#[]⟩)
    simp only [List.set] at hX2
    have R0 := Lib.hid (hX2.cell 0 _ rfl)
    have R1 := Lib.hid (hX2.cell 1 _ rfl)
    have HBB := Lib.hid (HB0.out.trans (hb1.mono (by simp)))
    clear hX1 hX2 hb1
    go_wp2_with fail
    exact bodyPost_ret (v := .tuple #[.agg #[.string ⟨#[]⟩, .string ⟨#[]⟩], .int .i64 2]) (by simp [results, Try.results14, go_sem, R0.out, R1.out]) rfl ⟨rfl, (HBB.out.setCell (p := ⟨w.heap.size, 0, none⟩) (Nat.le_refl _) _).setCell (p := ⟨w.heap.size, 1, none⟩) (Nat.le_refl _) _⟩
  rw [if_pos hok]
  rw [decide_eq_true hok] at HS
  by_cases hr : 0 ≤ n ∧ n ≤ b.length
  case neg =>
    rw [if_neg (fun h => hr h.2), if_neg (fun h => hr h.2), if_neg hr]
    clear hok
    by_cases hn0 : n < 0
    · clear hr
      go_enter Try.func14, Try.ntmps14
      go_wp2_with fail
      refine HS.out.mono ?_
      rintro e w1 ⟨rfl, hb1⟩
      have hX1 := HX0.out.below hb1 (by simp)
      have y0 := hX1.cell 0 _ rfl
      have y1 := hX1.cell 1 _ rfl
      have f0 := hX1.frozen 0
      have f1 := hX1.frozen 1
      have hX2 := (hX1.put 0 (.string ⟨#[]⟩)).put 1 (.string ⟨#[]⟩)
      simp only [List.set] at hX2
      have R0 := Lib.hid (hX2.cell 0 _ rfl)
      have R1 := Lib.hid (hX2.cell 1 _ rfl)
      have HBB := Lib.hid (HB0.out.trans (hb1.mono (by simp)))
      clear hX1 hX2 hb1
      go_wp2_with fail
      exact bodyPost_ret (v := .tuple #[.agg #[.string ⟨#[]⟩, .string ⟨#[]⟩], .int .i64 1]) (by simp [results, Try.results14, go_sem, R0.out, R1.out]) rfl ⟨rfl, (HBB.out.setCell (p := ⟨w.heap.size, 0, none⟩) (Nat.le_refl _) _).setCell (p := ⟨w.heap.size, 1, none⟩) (Nat.le_refl _) _⟩
    · have hge : ((b.length + 1 : Nat) : Int) ≤ n := by omega
      have hge2 : (b.length : Int) + 1 ≤ n := by omega
      clear hr
      go_enter Try.func14, Try.ntmps14
      go_wp2_with fail
      refine HS.out.mono ?_
      rintro e w1 ⟨rfl, hb1⟩
      have hX1 := HX0.out.below hb1 (by simp)
      have y0 := hX1.cell 0 _ rfl
      have y1 := hX1.cell 1 _ rfl
      have f0 := hX1.frozen 0
      have f1 := hX1.frozen 1
      have hX2 := (hX1.put 0 (.string ⟨#[]⟩)).put 1 (.string ⟨#[]⟩)
      simp only [List.set] at hX2
      have R0 := Lib.hid (hX2.cell 0 _ rfl)
      have R1 := Lib.hid (hX2.cell 1 _ rfl)
      have HBB := Lib.hid (HB0.out.trans (hb1.mono (by simp)))
      clear hX1 hX2 hb1
      go_wp2_with fail
      refine (HC.out w1 HBB.out).mono ?_
      rintro e w2 ⟨rfl, rfl⟩
      go_wp2_with fail
      exact bodyPost_ret (v := .tuple #[.agg #[.string ⟨#[]⟩, .string ⟨#[]⟩], .int .i64 1]) (by simp [results, Try.results14, go_sem, R0.out, R1.out]) rfl ⟨rfl, (HBB.out.setCell (p := ⟨w.heap.size, 0, none⟩) (Nat.le_refl _) _).setCell (p := ⟨w.heap.size, 1, none⟩) (Nat.le_refl _) _⟩
  · rw [if_pos ⟨hok, hr⟩, if_pos ⟨hok, hr⟩, if_pos hr]
    obtain ⟨m, rfl⟩ : ∃ m : Nat, n = (m : Int) := ⟨n.toNat, by omega⟩
    have hm : m ≤ b.length := by omega
    have hn0 : ¬ (m : Int) < 0 := by omega
    have hge : ¬ ((b.length + 1 : Nat) : Int) ≤ (m : Int) := by omega
    have hge2 : ¬ (b.length : Int) + 1 ≤ (m : Int) := by omega
    have hge3 : (m : Int) < (b.length : Int) + 1 := by omega
    have HPM := Lib.hid (HP.out m hm)
    simp only [Int.toNat_natCast]
    obtain ⟨x, hx⟩ : ∃ x, x = (pieceB b m).1 := ⟨_, rfl⟩
    obtain ⟨y, hy⟩ : ∃ y, y = (pieceB b m).2 := ⟨_, rfl⟩
    rw [← hx, ← hy] at HPM ⊢
    clear hx hy hr hok hn hm HP
    go_enter Try.func14, Try.ntmps14
    go_wp2_with fail
    refine HS.out.mono ?_
    rintro e w1 ⟨rfl, hb1⟩
    have hX1 := HX0.out.below hb1 (by simp)
    have HX1 := Lib.hid hX1
    have HBB := Lib.hid (HB0.out.trans (hb1.mono (by simp)))
    have hs1 : w.heap.size < w1.heap.size := by have := hb1.size; simp at this; omega
    clear hX1 hb1
    go_wp2_with fail
    refine (HC.out w1 HBB.out).mono ?_
    rintro e w2 ⟨rfl, rfl⟩
    go_wp2_with fail
    refine (HPM.out w2 HBB.out).mono ?_
    rintro e w3 ⟨rfl, hb3⟩
    have hX3 := HX1.out.below hb3 hs1
    have y0 := hX3.cell 0 _ rfl
    have y1 := hX3.cell 1 _ rfl
    have f0 := hX3.frozen 0
    have f1 := hX3.frozen 1
    have hX2 := (hX3.put 0 (.string x)).put 1 (.string y)
    simp only [List.set] at hX2
    have R0 := Lib.hid (hX2.cell 0 _ rfl)
    have R1 := Lib.hid (hX2.cell 1 _ rfl)
    have HB3 := Lib.hid (HBB.out.trans (hb3.mono (Nat.le_of_lt hs1)))
    clear hX3 hX2 hb3
    go_wp2_with fail
    exact bodyPost_ret (v := .tuple #[.agg #[.string x, .string y], .int .i64 0]) (by simp [results, Try.results14, go_sem, R0.out, R1.out]) rfl ⟨rfl, (HB3.out.setCell (p := ⟨w.heap.size, 0, none⟩) (Nat.le_refl _) _).setCell (p := ⟨w.heap.size, 1, none⟩) (Nat.le_refl _) _⟩
end Go.Proofs.Yteelnholmlabmaa

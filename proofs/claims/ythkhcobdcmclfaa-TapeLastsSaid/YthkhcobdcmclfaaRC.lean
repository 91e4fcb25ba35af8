/- The reference's tape: Crash. -/
import Derived.Test.YthkhcobdcmclfaaRU
import Derived.Test.YthkhcobdcmclfaaPlanT
namespace Go.Proofs.Ythkhcobdcmclfaa
open Go.RowKit

theorem strB_take (l : List UInt8) (k : Nat) : (strB l).extract 0 k = strB (l.take k) := by
  apply ByteArray.ext
  apply Array.ext'
  simp [strB, ByteArray.extract, ByteArray.copySlice]
set_option maxRecDepth 100000 in
theorem idx_str (l : List UInt8) (k : Nat) (hk : k < l.length) (W : World) : (Instr.index 9 (.string (strB l)) (.int .i64 (k : Int))).run Try.prog W = .ok (.int .u8 (l[k].toNat : Int)) W := by
  rw [run_index_string W 9 (strB l) .i64 (k : Int) Try.underlying9, dif_pos ⟨by omega, by rw [strB_size]; omega⟩]
  congr 4
theorem rcrash_tail {w wx : World} {r : Nat} {sure loose : List UInt8} {room left : Int} {down : Bool} {keep : Int} {turn : UInt8} {S : ByteArray} {v1 v3 v4 : Value}
    (hb : Whole wx r 30 [.string S, v1, .int .i64 room, v3, v4]) (hS : S = strB (sure ++ Tp.kept loose keep turn)) (hok : Tp.Ok ⟨sure, loose, room, left, down⟩) (hm : Mv (fun i => i = r) w wx) :
    Rent w (((wx.setCell ⟨r, 1, none⟩ (.string ⟨#[]⟩)).setCell ⟨r, 4, none⟩ (.bool false)).setCell ⟨r, 3, none⟩ (.int .i64 (-1))) r (Tp.crash ⟨sure, loose, room, left, down⟩ keep turn) := by
  refine ⟨⟨?_, hok.crash keep turn, by show (-1 : Int) < _; omega⟩, ((hm.setCell (p := ⟨r, 1, none⟩) (fun _ => rfl) _).setCell (p := ⟨r, 4, none⟩) (fun _ => rfl) _).setCell (p := ⟨r, 3, none⟩) (fun _ => rfl) _⟩
  have := ((hb.put 1 (.string ⟨#[]⟩)).put 4 (.bool false)).put 3 (.int .i64 (-1))
  simp only [List.set] at this
  simp only [Tp.crash, ← hS]
  exact this

set_option maxHeartbeats 2000000 in
set_option maxRecDepth 100000 in
theorem rcrash_any (r : Nat) (t : Tp) (keep : Int) (turn : UInt8) (w : World) (h : RefAt w r t) :
    Calls Try.prog 17 #[.pointer (some ⟨r, 0, none⟩), .int .i64 keep, .int .u8 (turn.toNat : Int)] w fun e w' => e = .returned (.tuple #[]) ∧ Rent w w' r (t.crash keep turn) := by
  obtain ⟨sure, loose, room, left, down⟩ := t
  obtain ⟨hb, hk, hl⟩ := h
  simp only at hb hk hl
  obtain ⟨k1, k2, k3⟩ := id hk
  simp only at k1 k2 k3
  obtain ⟨S1, hS1⟩ : ∃ S1, S1 = strB sure := ⟨_, rfl⟩
  obtain ⟨L1, hL1⟩ : ∃ L1, L1 = strB loose := ⟨_, rfl⟩
  obtain ⟨m, hm⟩ : ∃ m, m = loose.length := ⟨_, rfl⟩
  rw [← hS1, ← hL1] at hb
  have z1 : L1.size = m := by rw [hL1, strB_size, hm]
  have z0 : S1.size ≤ 1048576 := by rw [hS1, strB_size]; omega
  have hm20 : m ≤ 1048576 := by omega
  have c0 := hb.cell 0 _ rfl
  have c1 := hb.cell 1 _ rfl
  have HB := Lib.hid hb; clear hb
  have HK := Lib.hid hk; clear hk
  have HS1 := Lib.hid hS1; clear hS1
  have HL1 := Lib.hid hL1; clear hL1
  have HM := Lib.hid hm; clear hm
  clear k1 k2 k3
  by_cases hneg : keep < 0
  · have hk0 : max keep 0 = 0 := by omega
    have HNEG := Lib.hid hneg
    have HK0 := Lib.hid hk0; clear hk0
    by_cases hall : (m : Int) ≤ (0 : Int)
    · have hcat : ¬ (9223372036854775807 < S1.size + m) := by omega
      have hcat0 : ¬ (9223372036854775807 < S1.size) := by omega
      have HALL := Lib.hid hall
      clear hm20 z0
      go_enter Try.func17, Try.ntmps17
      go_wp2_with fail
      go_still_tail 11, (by kernel_rfl)
      change wpList _ _ _ _ _ w.drew
      have hm2 : Mv (fun i => i = r) w w.drew := (Mv.refl _ w).drew
      have hb2 := HB.out.drew
      clear c0 c1 HB
      generalize w.drew = w2 at hm2 hb2 ⊢
      have p0 := hb2.cell 0 _ rfl
      have p1 := hb2.cell 1 _ rfl
      have p3 := hb2.cell 3 _ rfl
      have p4 := hb2.cell 4 _ rfl
      have f0 := hb2.frozen 0
      have f1 := hb2.frozen 1
      have f3 := hb2.frozen 3
      have f4 := hb2.frozen 4
      have hlt2 := hb2.size
      have HM2 := Lib.hid hm2; clear hm2
      have HB2 := Lib.hid hb2; clear hb2
      clear hcat hcat0
      go_wp2_with fail
      go_end0
      refine ⟨rfl, rcrash_tail (HB2.out.put 0 (.string (S1 ++ L1))) ?_ HK.out (HM2.out.setCell (p := ⟨r, 0, none⟩) (fun _ => rfl) _)⟩
      rw [HS1.out, HL1.out, strB_append, Tp.kept_all loose _ turn (by have h1 := HK0.out; have h2 := HM.out; have h3 := HALL.out; omega)]
    · have hlt : 0 < m := by omega
      have hle : (0 : Int) ≤ (L1.size : Int) := by omega
      obtain ⟨Z, hZ⟩ : ∃ Z, Z = L1.extract 0 0 := ⟨_, rfl⟩
      have hzs : Z.size ≤ 1048576 := by rw [hZ, ByteArray.size_extract]; omega
      have hcat : ¬ (9223372036854775807 < S1.size + Z.size) := by omega
      have hz : strB (sure ++ loose.take 0) = S1 ++ Z := by rw [← strB_append, hZ, HL1.out, HS1.out, strB_take]
      have HZ := Lib.hid hz; clear hz
      have HLT := Lib.hid hlt
      by_cases ht : turn = 0
      · have ht0 : (turn.toNat : Int) = 0 := by rw [ht]; rfl
        have HT := Lib.hid ht; clear ht
        have hsl : ∀ W : World, (Instr.slice 9 (.string L1) none (some (.int .i64 (0 : Int))) none).run Try.prog W = .ok (.string Z) W := fun W => by
          have := run_slice_string_h (P := Try.prog) W 9 L1 Try.underlying9 .i64 (0 : Int) (by omega) hle
          rw [this, hZ]
          simp
        have HZZ := Lib.hid hZ
        clear hm20 z0 hzs hle hZ
        have HSL := Lib.hid hsl
        go_enter Try.func17, Try.ntmps17
        go_wp2_with fail
        go_still_tail 13, (by kernel_rfl)
        change wpList _ _ _ _ _ w.drew
        have hm2 : Mv (fun i => i = r) w w.drew := (Mv.refl _ w).drew
        have hb2 := HB.out.drew
        clear c0 c1 HB
        generalize w.drew = w2 at hm2 hb2 ⊢
        have p0 := hb2.cell 0 _ rfl
        have p1 := hb2.cell 1 _ rfl
        have p3 := hb2.cell 3 _ rfl
        have p4 := hb2.cell 4 _ rfl
        have f0 := hb2.frozen 0
        have f1 := hb2.frozen 1
        have f3 := hb2.frozen 3
        have f4 := hb2.frozen 4
        have hlt2 := hb2.size
        have HM2 := Lib.hid hm2; clear hm2
        have HB2 := Lib.hid hb2; clear hb2
        clear hcat hsl
        go_wp2_with fail
        go_end0
        refine ⟨rfl, rcrash_tail (HB2.out.put 0 (.string (S1 ++ Z))) ?_ HK.out (HM2.out.setCell (p := ⟨r, 0, none⟩) (fun _ => rfl) _)⟩
        rw [HT.out, Tp.kept_cut loose _ 0 (by have h1 := HK0.out; have h2 := HM.out; have h3 := HLT.out; omega) (by have h2 := HM.out; have h3 := HLT.out; omega), HZ.out]
      · have hK2 : 0 < loose.length := by have h2 := HM.out; omega
        obtain ⟨X, hX⟩ : ∃ X, X = loose[0] ^^^ turn := ⟨_, rfl⟩
        obtain ⟨Y0, hY0⟩ : ∃ Y0 : Nat, Y0 = loose[0].toNat := ⟨_, rfl⟩
        have hidx : ∀ W : World, (Instr.index 9 (.string L1) (.int .i64 (0 : Int))).run Try.prog W = .ok (.int .u8 (Y0 : Int)) W := fun W => by
          rw [HL1.out, hY0]
          exact idx_str loose 0 hK2 W
        have hx8 : bits .xor .u8 (Y0 : Int) (turn.toNat : Int) = (X.toNat : Int) := by
          rw [hX, hY0, xor8 (byte_lt _) (byte_lt _)]; simp
        have htn : ¬ ((turn.toNat : Int) = 0) := by
          intro h0
          exact ht (UInt8.toNat_inj.1 (by simpa using h0))
        have hcv : ∀ W : World, (convert 31 9 (.slice (some ⟨W.heap.size, 0, none⟩) 1 1)).run Try.prog (W.alloc (.cells #[.int .u8 (X.toNat : Int)] 5)) = .ok (.string (strB [X])) (W.alloc (.cells #[.int .u8 (X.toNat : Int)] 5)) := fun W => run_convB (l := [X]) (RdB.one W X)
        obtain ⟨V, hV⟩ : ∃ V, V = strB [X] := ⟨_, rfl⟩
        rw [← hV] at hcv
        obtain ⟨S2, hS2⟩ : ∃ S2, S2 = S1 ++ Z := ⟨_, rfl⟩
        have hcat2 : ¬ (9223372036854775807 < S2.size + V.size) := by rw [hS2, hV, ByteArray.size_append, strB_size]; simp only [List.length_cons, List.length_nil]; omega
        have hfin : S2 ++ V = strB (sure ++ Tp.kept loose keep turn) := by
          rw [Tp.kept_turn loose _ turn ht 0 (by have h1 := HK0.out; have h2 := HM.out; omega) hK2, ← hX, ← List.append_assoc, ← strB_append, HZ.out, hS2, hV]
        have HFIN := Lib.hid hfin; clear hfin
        have HZZ := Lib.hid hZ
        have HCV := Lib.hid hcv
        have HIDX := Lib.hid hidx
        have HCAT2 := Lib.hid hcat2
        have HX8 := Lib.hid hx8
        have HS2 := Lib.hid hS2
        have HV2 := Lib.hid hV
        have HTN := Lib.hid htn
        clear hcv hidx hcat2 hx8 hS2 hV htn ht hX hY0
        have hsl : ∀ W : World, (Instr.slice 9 (.string L1) none (some (.int .i64 (0 : Int))) none).run Try.prog W = .ok (.string Z) W := fun W => by
          have := run_slice_string_h (P := Try.prog) W 9 L1 Try.underlying9 .i64 (0 : Int) (by omega) hle
          rw [this, hZ]
          simp
        clear hm20 z0 hzs hle hZ
        go_enter Try.func17, Try.ntmps17
        go_wp2_with fail
        go_still_tail 13, (by kernel_rfl)
        change wpList _ _ _ _ _ w.drew
        have hm2 : Mv (fun i => i = r) w w.drew := (Mv.refl _ w).drew
        have hb2 := HB.out.drew
        clear c0 c1 HB
        generalize w.drew = w2 at hm2 hb2 ⊢
        have p0 := hb2.cell 0 _ rfl
        have p1 := hb2.cell 1 _ rfl
        have p3 := hb2.cell 3 _ rfl
        have p4 := hb2.cell 4 _ rfl
        have f0 := hb2.frozen 0
        have f1 := hb2.frozen 1
        have f3 := hb2.frozen 3
        have f4 := hb2.frozen 4
        have hlt2 := hb2.size
        have HM2 := Lib.hid hm2; clear hm2
        have HB2 := Lib.hid hb2; clear hb2
        clear hcat hsl
        have htn := HTN.out
        go_wp2_with fail
        rw [← HS2.out]
        have hb3 : Whole (w2.setCell ⟨r, 0, none⟩ (.string S2)).drew r 30 _ := HB2.out.put 0 (.string S2)
        have hm3 : Mv (fun i => i = r) w (w2.setCell ⟨r, 0, none⟩ (.string S2)).drew := (HM2.out.setCell (p := ⟨r, 0, none⟩) (fun _ => rfl) _).drew
        refine wp_region_planT (fun _ => True) (.take 0 (.take 1 (.take 2 (.take 4 (.take 5 (.take 6 (.take 8 (.take 10 (.fork 3 (.step 7 (.take 9 (.take 11 (.step 12 (.step 13 (.take 14 (.take 15 (.take 16 (.step 17 .done)))))))))
          7 (.take 9 (.take 11 (.fork 3 (.step 12 (.step 13 (.take 14 (.take 15 (.take 16 (.step 17 .done))))))
            12 (.fork 3 (.step 13 (.take 14 (.take 15 (.take 16 (.step 17 .done))))) 13 (.step 3 (.take 14 (.take 15 (.take 16 (.step 17 .done)))))))))))))))))) (by kernel_rfl) (by kernel_rfl) (fun _ _ d _ _ h => by cases d <;> exact h) trivial ?_
        clear p0 p1 p3 p4 f0 f1 f3 f4 hlt2 htn HB2 HM2
        generalize (w2.setCell ⟨r, 0, none⟩ (.string S2)).drew = wd at hb3 hm3 ⊢
        simp only [List.set] at hb3
        have H3 := Lib.hid hb3
        (refine PlanT.takeI (v := ?_) rfl rfl ?_ ?_; rotate_left; (focus (intro W hW; (try have hidx := HIDX.out); (try have hx8 := HX8.out); (try have hcat2 := HCAT2.out); go_simp; (try with_reducible rfl); done)); (try simp only [Act.put, List.setIfInBounds_toArray, List.set_cons_zero, List.set_cons_succ]))
        (refine PlanT.takeI (v := ?_) rfl rfl ?_ ?_; rotate_left; (focus (intro W hW; (try have hidx := HIDX.out); (try have hx8 := HX8.out); (try have hcat2 := HCAT2.out); go_simp; (try with_reducible rfl); done)); (try simp only [Act.put, List.setIfInBounds_toArray, List.set_cons_zero, List.set_cons_succ]))
        (refine PlanT.takeI (v := ?_) rfl rfl ?_ ?_; rotate_left; (focus (intro W hW; (try have hidx := HIDX.out); (try have hx8 := HX8.out); (try have hcat2 := HCAT2.out); go_simp; (try with_reducible rfl); done)); (try simp only [Act.put, List.setIfInBounds_toArray, List.set_cons_zero, List.set_cons_succ]))
        (refine PlanT.takeI (v := ?_) rfl rfl ?_ ?_; rotate_left; (focus (intro W hW; (try have hidx := HIDX.out); (try have hx8 := HX8.out); (try have hcat2 := HCAT2.out); go_simp; (try with_reducible rfl); done)); (try simp only [Act.put, List.setIfInBounds_toArray, List.set_cons_zero, List.set_cons_succ]))
        (refine PlanT.takeI (v := ?_) rfl rfl ?_ ?_; rotate_left; (focus (intro W hW; (try have hidx := HIDX.out); (try have hx8 := HX8.out); (try have hcat2 := HCAT2.out); go_simp; (try with_reducible rfl); done)); (try simp only [Act.put, List.setIfInBounds_toArray, List.set_cons_zero, List.set_cons_succ]))
        (refine PlanT.takeI (v := ?_) rfl rfl ?_ ?_; rotate_left; (focus (intro W hW; (try have hidx := HIDX.out); (try have hx8 := HX8.out); (try have hcat2 := HCAT2.out); go_simp; (try with_reducible rfl); done)); (try simp only [Act.put, List.setIfInBounds_toArray, List.set_cons_zero, List.set_cons_succ]))
        (refine PlanT.takeI (v := ?_) rfl rfl ?_ ?_; rotate_left; (focus (intro W hW; (try have hidx := HIDX.out); (try have hx8 := HX8.out); (try have hcat2 := HCAT2.out); go_simp; (try with_reducible rfl); done)); (try simp only [Act.put, List.setIfInBounds_toArray, List.set_cons_zero, List.set_cons_succ]))
        (refine PlanT.takeI (v := ?_) rfl rfl ?_ ?_; rotate_left; (focus (intro W hW; (try have hidx := HIDX.out); (try have hx8 := HX8.out); (try have hcat2 := HCAT2.out); go_simp; (try with_reducible rfl); done)); (try simp only [Act.put, List.setIfInBounds_toArray, List.set_cons_zero, List.set_cons_succ]))
        refine ⟨?_, ?_⟩
        · refine wpOp_stepT rfl rfl (fun Kk hKk => ?_)
          have q0 := (H3.out).cell 0 _ rfl
          go_simp
          refine hKk.out _ _ trivial ?_
          clear hKk Kk
          (try simp only [Act.put, List.setIfInBounds_toArray, List.set_cons_zero, List.set_cons_succ])
          refine wpOp_stepT rfl rfl (fun Kk hKk => ?_)
          have q1 := (H3.out).cell 1 _ rfl
          go_simp
          refine hKk.out _ _ trivial ?_
          clear hKk Kk
          (try simp only [Act.put, List.setIfInBounds_toArray, List.set_cons_zero, List.set_cons_succ])
          (refine PlanT.takeI (v := ?_) rfl rfl ?_ ?_; rotate_left; (focus (intro W hW; (try have hidx := HIDX.out); (try have hx8 := HX8.out); (try have hcat2 := HCAT2.out); go_simp; (try with_reducible rfl); done)); (try simp only [Act.put, List.setIfInBounds_toArray, List.set_cons_zero, List.set_cons_succ]))
          (refine PlanT.takeI (v := ?_) rfl rfl ?_ ?_; rotate_left; (focus (intro W hW; (try have hidx := HIDX.out); (try have hx8 := HX8.out); (try have hcat2 := HCAT2.out); go_simp; (try with_reducible rfl); done)); (try simp only [Act.put, List.setIfInBounds_toArray, List.set_cons_zero, List.set_cons_succ]))
          refine wpOp_stepT rfl rfl (fun Kk hKk => ?_)
          go_simp
          refine hKk.out _ _ trivial ?_
          clear hKk Kk
          (try simp only [Act.put, List.setIfInBounds_toArray, List.set_cons_zero, List.set_cons_succ])
          have H4 := Lib.hid (H3.out.alloc (.cells #[.int .u8 (X.toNat : Int)] 5))
          refine wpOp_stepT rfl rfl (fun Kk hKk => ?_)
          have hcv := HCV.out wd
          go_simp
          refine hKk.out _ _ trivial ?_
          clear hKk Kk
          (try simp only [Act.put, List.setIfInBounds_toArray, List.set_cons_zero, List.set_cons_succ])
          (refine PlanT.takeI (v := ?_) rfl rfl ?_ ?_; rotate_left; (focus (intro W hW; (try have hidx := HIDX.out); (try have hx8 := HX8.out); (try have hcat2 := HCAT2.out); go_simp; (try with_reducible rfl); done)); (try simp only [Act.put, List.setIfInBounds_toArray, List.set_cons_zero, List.set_cons_succ]))
          (refine PlanT.takeI (v := ?_) rfl rfl ?_ ?_; rotate_left; (focus (intro W hW; (try have hidx := HIDX.out); (try have hx8 := HX8.out); (try have hcat2 := HCAT2.out); go_simp; (try with_reducible rfl); done)); (try simp only [Act.put, List.setIfInBounds_toArray, List.set_cons_zero, List.set_cons_succ]))
          (refine PlanT.takeI (v := ?_) rfl rfl ?_ ?_; rotate_left; (focus (intro W hW; (try have hidx := HIDX.out); (try have hx8 := HX8.out); (try have hcat2 := HCAT2.out); go_simp; (try with_reducible rfl); done)); (try simp only [Act.put, List.setIfInBounds_toArray, List.set_cons_zero, List.set_cons_succ]))
          refine wpOp_stepT rfl rfl (fun Kk hKk => ?_)
          have g0 := H4.out.cell 0 _ rfl
          have gf := H4.out.frozen 0
          go_simp
          refine hKk.out _ _ trivial ?_
          clear hKk Kk g0 gf
          (try simp only [Act.put, List.setIfInBounds_toArray, List.set_cons_zero, List.set_cons_succ])
          simp only [PlanT]
          have H5 := Lib.hid (H4.out.put 0 (.string (S2 ++ V)))
          have HM5 := Lib.hid ((hm3.alloc (.cells #[.int .u8 (X.toNat : Int)] 5)).setCell (p := ⟨r, 0, none⟩) (fun _ => rfl) (.string (S2 ++ V)))
          clear H3 H4 hm3 hb3
          generalize ((wd.alloc (.cells #[.int .u8 (X.toNat : Int)] 5)).setCell ⟨r, 0, none⟩ (.string (S2 ++ V))) = w6 at H5 HM5 ⊢
          have p1 := H5.out.cell 1 _ rfl
          have p3 := H5.out.cell 3 _ rfl
          have p4 := H5.out.cell 4 _ rfl
          have f1 := H5.out.frozen 1
          have f3 := H5.out.frozen 3
          have f4 := H5.out.frozen 4
          have hlt6 := H5.out.size
          go_wp2_with fail
          go_end0
          exact ⟨rfl, rcrash_tail H5.out HFIN.out HK.out HM5.out⟩
        · refine wpOp_stepT rfl rfl (fun Kk hKk => ?_)
          have q1 := (H3.out).cell 1 _ rfl
          go_simp
          refine hKk.out _ _ trivial ?_
          clear hKk Kk
          (try simp only [Act.put, List.setIfInBounds_toArray, List.set_cons_zero, List.set_cons_succ])
          (refine PlanT.takeI (v := ?_) rfl rfl ?_ ?_; rotate_left; (focus (intro W hW; (try have hidx := HIDX.out); (try have hx8 := HX8.out); (try have hcat2 := HCAT2.out); go_simp; (try with_reducible rfl); done)); (try simp only [Act.put, List.setIfInBounds_toArray, List.set_cons_zero, List.set_cons_succ]))
          (refine PlanT.takeI (v := ?_) rfl rfl ?_ ?_; rotate_left; (focus (intro W hW; (try have hidx := HIDX.out); (try have hx8 := HX8.out); (try have hcat2 := HCAT2.out); go_simp; (try with_reducible rfl); done)); (try simp only [Act.put, List.setIfInBounds_toArray, List.set_cons_zero, List.set_cons_succ]))
          refine ⟨?_, ?_⟩
          · refine wpOp_stepT rfl rfl (fun Kk hKk => ?_)
            have q0 := (H3.out).cell 0 _ rfl
            go_simp
            refine hKk.out _ _ trivial ?_
            clear hKk Kk
            (try simp only [Act.put, List.setIfInBounds_toArray, List.set_cons_zero, List.set_cons_succ])
            refine wpOp_stepT rfl rfl (fun Kk hKk => ?_)
            go_simp
            refine hKk.out _ _ trivial ?_
            clear hKk Kk
            (try simp only [Act.put, List.setIfInBounds_toArray, List.set_cons_zero, List.set_cons_succ])
            have H4 := Lib.hid (H3.out.alloc (.cells #[.int .u8 (X.toNat : Int)] 5))
            refine wpOp_stepT rfl rfl (fun Kk hKk => ?_)
            have hcv := HCV.out wd
            go_simp
            refine hKk.out _ _ trivial ?_
            clear hKk Kk
            (try simp only [Act.put, List.setIfInBounds_toArray, List.set_cons_zero, List.set_cons_succ])
            (refine PlanT.takeI (v := ?_) rfl rfl ?_ ?_; rotate_left; (focus (intro W hW; (try have hidx := HIDX.out); (try have hx8 := HX8.out); (try have hcat2 := HCAT2.out); go_simp; (try with_reducible rfl); done)); (try simp only [Act.put, List.setIfInBounds_toArray, List.set_cons_zero, List.set_cons_succ]))
            (refine PlanT.takeI (v := ?_) rfl rfl ?_ ?_; rotate_left; (focus (intro W hW; (try have hidx := HIDX.out); (try have hx8 := HX8.out); (try have hcat2 := HCAT2.out); go_simp; (try with_reducible rfl); done)); (try simp only [Act.put, List.setIfInBounds_toArray, List.set_cons_zero, List.set_cons_succ]))
            (refine PlanT.takeI (v := ?_) rfl rfl ?_ ?_; rotate_left; (focus (intro W hW; (try have hidx := HIDX.out); (try have hx8 := HX8.out); (try have hcat2 := HCAT2.out); go_simp; (try with_reducible rfl); done)); (try simp only [Act.put, List.setIfInBounds_toArray, List.set_cons_zero, List.set_cons_succ]))
            refine wpOp_stepT rfl rfl (fun Kk hKk => ?_)
            have g0 := H4.out.cell 0 _ rfl
            have gf := H4.out.frozen 0
            go_simp
            refine hKk.out _ _ trivial ?_
            clear hKk Kk g0 gf
            (try simp only [Act.put, List.setIfInBounds_toArray, List.set_cons_zero, List.set_cons_succ])
            simp only [PlanT]
            have H5 := Lib.hid (H4.out.put 0 (.string (S2 ++ V)))
            have HM5 := Lib.hid ((hm3.alloc (.cells #[.int .u8 (X.toNat : Int)] 5)).setCell (p := ⟨r, 0, none⟩) (fun _ => rfl) (.string (S2 ++ V)))
            clear H3 H4 hm3 hb3
            generalize ((wd.alloc (.cells #[.int .u8 (X.toNat : Int)] 5)).setCell ⟨r, 0, none⟩ (.string (S2 ++ V))) = w6 at H5 HM5 ⊢
            have p1 := H5.out.cell 1 _ rfl
            have p3 := H5.out.cell 3 _ rfl
            have p4 := H5.out.cell 4 _ rfl
            have f1 := H5.out.frozen 1
            have f3 := H5.out.frozen 3
            have f4 := H5.out.frozen 4
            have hlt6 := H5.out.size
            go_wp2_with fail
            go_end0
            exact ⟨rfl, rcrash_tail H5.out HFIN.out HK.out HM5.out⟩
          · refine wpOp_stepT rfl rfl (fun Kk hKk => ?_)
            go_simp
            refine hKk.out _ _ trivial ?_
            clear hKk Kk
            (try simp only [Act.put, List.setIfInBounds_toArray, List.set_cons_zero, List.set_cons_succ])
            have H4 := Lib.hid (H3.out.alloc (.cells #[.int .u8 (X.toNat : Int)] 5))
            refine ⟨?_, ?_⟩
            · refine wpOp_stepT rfl rfl (fun Kk hKk => ?_)
              have q0 := H4.out.cell 0 _ rfl
              go_simp
              refine hKk.out _ _ trivial ?_
              clear hKk Kk
              (try simp only [Act.put, List.setIfInBounds_toArray, List.set_cons_zero, List.set_cons_succ])
              refine wpOp_stepT rfl rfl (fun Kk hKk => ?_)
              have hcv := HCV.out wd
              go_simp
              refine hKk.out _ _ trivial ?_
              clear hKk Kk
              (try simp only [Act.put, List.setIfInBounds_toArray, List.set_cons_zero, List.set_cons_succ])
              (refine PlanT.takeI (v := ?_) rfl rfl ?_ ?_; rotate_left; (focus (intro W hW; (try have hidx := HIDX.out); (try have hx8 := HX8.out); (try have hcat2 := HCAT2.out); go_simp; (try with_reducible rfl); done)); (try simp only [Act.put, List.setIfInBounds_toArray, List.set_cons_zero, List.set_cons_succ]))
              (refine PlanT.takeI (v := ?_) rfl rfl ?_ ?_; rotate_left; (focus (intro W hW; (try have hidx := HIDX.out); (try have hx8 := HX8.out); (try have hcat2 := HCAT2.out); go_simp; (try with_reducible rfl); done)); (try simp only [Act.put, List.setIfInBounds_toArray, List.set_cons_zero, List.set_cons_succ]))
              (refine PlanT.takeI (v := ?_) rfl rfl ?_ ?_; rotate_left; (focus (intro W hW; (try have hidx := HIDX.out); (try have hx8 := HX8.out); (try have hcat2 := HCAT2.out); go_simp; (try with_reducible rfl); done)); (try simp only [Act.put, List.setIfInBounds_toArray, List.set_cons_zero, List.set_cons_succ]))
              refine wpOp_stepT rfl rfl (fun Kk hKk => ?_)
              have g0 := H4.out.cell 0 _ rfl
              have gf := H4.out.frozen 0
              go_simp
              refine hKk.out _ _ trivial ?_
              clear hKk Kk g0 gf
              (try simp only [Act.put, List.setIfInBounds_toArray, List.set_cons_zero, List.set_cons_succ])
              simp only [PlanT]
              have H5 := Lib.hid (H4.out.put 0 (.string (S2 ++ V)))
              have HM5 := Lib.hid ((hm3.alloc (.cells #[.int .u8 (X.toNat : Int)] 5)).setCell (p := ⟨r, 0, none⟩) (fun _ => rfl) (.string (S2 ++ V)))
              clear H3 H4 hm3 hb3
              generalize ((wd.alloc (.cells #[.int .u8 (X.toNat : Int)] 5)).setCell ⟨r, 0, none⟩ (.string (S2 ++ V))) = w6 at H5 HM5 ⊢
              have p1 := H5.out.cell 1 _ rfl
              have p3 := H5.out.cell 3 _ rfl
              have p4 := H5.out.cell 4 _ rfl
              have f1 := H5.out.frozen 1
              have f3 := H5.out.frozen 3
              have f4 := H5.out.frozen 4
              have hlt6 := H5.out.size
              go_wp2_with fail
              go_end0
              exact ⟨rfl, rcrash_tail H5.out HFIN.out HK.out HM5.out⟩
            · refine wpOp_stepT rfl rfl (fun Kk hKk => ?_)
              have hcv := HCV.out wd
              go_simp
              refine hKk.out _ _ trivial ?_
              clear hKk Kk
              (try simp only [Act.put, List.setIfInBounds_toArray, List.set_cons_zero, List.set_cons_succ])
              refine wpOp_stepT rfl rfl (fun Kk hKk => ?_)
              have q0 := H4.out.cell 0 _ rfl
              go_simp
              refine hKk.out _ _ trivial ?_
              clear hKk Kk
              (try simp only [Act.put, List.setIfInBounds_toArray, List.set_cons_zero, List.set_cons_succ])
              (refine PlanT.takeI (v := ?_) rfl rfl ?_ ?_; rotate_left; (focus (intro W hW; (try have hidx := HIDX.out); (try have hx8 := HX8.out); (try have hcat2 := HCAT2.out); go_simp; (try with_reducible rfl); done)); (try simp only [Act.put, List.setIfInBounds_toArray, List.set_cons_zero, List.set_cons_succ]))
              (refine PlanT.takeI (v := ?_) rfl rfl ?_ ?_; rotate_left; (focus (intro W hW; (try have hidx := HIDX.out); (try have hx8 := HX8.out); (try have hcat2 := HCAT2.out); go_simp; (try with_reducible rfl); done)); (try simp only [Act.put, List.setIfInBounds_toArray, List.set_cons_zero, List.set_cons_succ]))
              (refine PlanT.takeI (v := ?_) rfl rfl ?_ ?_; rotate_left; (focus (intro W hW; (try have hidx := HIDX.out); (try have hx8 := HX8.out); (try have hcat2 := HCAT2.out); go_simp; (try with_reducible rfl); done)); (try simp only [Act.put, List.setIfInBounds_toArray, List.set_cons_zero, List.set_cons_succ]))
              refine wpOp_stepT rfl rfl (fun Kk hKk => ?_)
              have g0 := H4.out.cell 0 _ rfl
              have gf := H4.out.frozen 0
              go_simp
              refine hKk.out _ _ trivial ?_
              clear hKk Kk g0 gf
              (try simp only [Act.put, List.setIfInBounds_toArray, List.set_cons_zero, List.set_cons_succ])
              simp only [PlanT]
              have H5 := Lib.hid (H4.out.put 0 (.string (S2 ++ V)))
              have HM5 := Lib.hid ((hm3.alloc (.cells #[.int .u8 (X.toNat : Int)] 5)).setCell (p := ⟨r, 0, none⟩) (fun _ => rfl) (.string (S2 ++ V)))
              clear H3 H4 hm3 hb3
              generalize ((wd.alloc (.cells #[.int .u8 (X.toNat : Int)] 5)).setCell ⟨r, 0, none⟩ (.string (S2 ++ V))) = w6 at H5 HM5 ⊢
              have p1 := H5.out.cell 1 _ rfl
              have p3 := H5.out.cell 3 _ rfl
              have p4 := H5.out.cell 4 _ rfl
              have f1 := H5.out.frozen 1
              have f3 := H5.out.frozen 3
              have f4 := H5.out.frozen 4
              have hlt6 := H5.out.size
              go_wp2_with fail
              go_end0
              exact ⟨rfl, rcrash_tail H5.out HFIN.out HK.out HM5.out⟩
  · obtain ⟨K, rfl⟩ : ∃ K : Nat, keep = (K : Int) := ⟨keep.toNat, by omega⟩
    have HK0 := Lib.hid (show max (K : Int) 0 = (K : Int) by omega)
    by_cases hall : (m : Int) ≤ (K : Int)
    · have hcat : ¬ (9223372036854775807 < S1.size + m) := by omega
      have hcat0 : ¬ (9223372036854775807 < S1.size) := by omega
      have HALL := Lib.hid hall
      clear hm20 z0
      go_enter Try.func17, Try.ntmps17
      go_wp2_with fail
      go_still_tail 11, (by kernel_rfl)
      change wpList _ _ _ _ _ w.drew
      have hm2 : Mv (fun i => i = r) w w.drew := (Mv.refl _ w).drew
      have hb2 := HB.out.drew
      clear c0 c1 HB
      generalize w.drew = w2 at hm2 hb2 ⊢
      have p0 := hb2.cell 0 _ rfl
      have p1 := hb2.cell 1 _ rfl
      have p3 := hb2.cell 3 _ rfl
      have p4 := hb2.cell 4 _ rfl
      have f0 := hb2.frozen 0
      have f1 := hb2.frozen 1
      have f3 := hb2.frozen 3
      have f4 := hb2.frozen 4
      have hlt2 := hb2.size
      have HM2 := Lib.hid hm2; clear hm2
      have HB2 := Lib.hid hb2; clear hb2
      clear hcat hcat0
      go_wp2_with fail
      go_end0
      refine ⟨rfl, rcrash_tail (HB2.out.put 0 (.string (S1 ++ L1))) ?_ HK.out (HM2.out.setCell (p := ⟨r, 0, none⟩) (fun _ => rfl) _)⟩
      rw [HS1.out, HL1.out, strB_append, Tp.kept_all loose _ turn (by have h1 := HK0.out; have h2 := HM.out; have h3 := HALL.out; omega)]
    · have hlt : K < m := by omega
      have hle : (K : Int) ≤ (L1.size : Int) := by omega
      obtain ⟨Z, hZ⟩ : ∃ Z, Z = L1.extract 0 K := ⟨_, rfl⟩
      have hzs : Z.size ≤ 1048576 := by rw [hZ, ByteArray.size_extract]; omega
      have hcat : ¬ (9223372036854775807 < S1.size + Z.size) := by omega
      have hz : strB (sure ++ loose.take K) = S1 ++ Z := by rw [← strB_append, hZ, HL1.out, HS1.out, strB_take]
      have HZ := Lib.hid hz; clear hz
      have HLT := Lib.hid hlt
      by_cases ht : turn = 0
      · have ht0 : (turn.toNat : Int) = 0 := by rw [ht]; rfl
        have HT := Lib.hid ht; clear ht
        have hsl : ∀ W : World, (Instr.slice 9 (.string L1) none (some (.int .i64 (K : Int))) none).run Try.prog W = .ok (.string Z) W := fun W => by
          have := run_slice_string_h (P := Try.prog) W 9 L1 Try.underlying9 .i64 (K : Int) (by omega) hle
          rw [this, hZ]
          simp
        have HZZ := Lib.hid hZ
        clear hm20 z0 hzs hle hZ
        have HSL := Lib.hid hsl
        go_enter Try.func17, Try.ntmps17
        go_wp2_with fail
        go_still_tail 13, (by kernel_rfl)
        change wpList _ _ _ _ _ w.drew
        have hm2 : Mv (fun i => i = r) w w.drew := (Mv.refl _ w).drew
        have hb2 := HB.out.drew
        clear c0 c1 HB
        generalize w.drew = w2 at hm2 hb2 ⊢
        have p0 := hb2.cell 0 _ rfl
        have p1 := hb2.cell 1 _ rfl
        have p3 := hb2.cell 3 _ rfl
        have p4 := hb2.cell 4 _ rfl
        have f0 := hb2.frozen 0
        have f1 := hb2.frozen 1
        have f3 := hb2.frozen 3
        have f4 := hb2.frozen 4
        have hlt2 := hb2.size
        have HM2 := Lib.hid hm2; clear hm2
        have HB2 := Lib.hid hb2; clear hb2
        clear hcat hsl
        go_wp2_with fail
        go_end0
        refine ⟨rfl, rcrash_tail (HB2.out.put 0 (.string (S1 ++ Z))) ?_ HK.out (HM2.out.setCell (p := ⟨r, 0, none⟩) (fun _ => rfl) _)⟩
        rw [HT.out, Tp.kept_cut loose _ K (by have h1 := HK0.out; have h2 := HM.out; have h3 := HLT.out; omega) (by have h2 := HM.out; have h3 := HLT.out; omega), HZ.out]
      · have hK2 : K < loose.length := by have h2 := HM.out; omega
        obtain ⟨X, hX⟩ : ∃ X, X = loose[K] ^^^ turn := ⟨_, rfl⟩
        obtain ⟨Y0, hY0⟩ : ∃ Y0 : Nat, Y0 = loose[K].toNat := ⟨_, rfl⟩
        have hidx : ∀ W : World, (Instr.index 9 (.string L1) (.int .i64 (K : Int))).run Try.prog W = .ok (.int .u8 (Y0 : Int)) W := fun W => by
          rw [HL1.out, hY0]
          exact idx_str loose K hK2 W
        have hx8 : bits .xor .u8 (Y0 : Int) (turn.toNat : Int) = (X.toNat : Int) := by
          rw [hX, hY0, xor8 (byte_lt _) (byte_lt _)]; simp
        have htn : ¬ ((turn.toNat : Int) = 0) := by
          intro h0
          exact ht (UInt8.toNat_inj.1 (by simpa using h0))
        have hcv : ∀ W : World, (convert 31 9 (.slice (some ⟨W.heap.size, 0, none⟩) 1 1)).run Try.prog (W.alloc (.cells #[.int .u8 (X.toNat : Int)] 5)) = .ok (.string (strB [X])) (W.alloc (.cells #[.int .u8 (X.toNat : Int)] 5)) := fun W => run_convB (l := [X]) (RdB.one W X)
        obtain ⟨V, hV⟩ : ∃ V, V = strB [X] := ⟨_, rfl⟩
        rw [← hV] at hcv
        obtain ⟨S2, hS2⟩ : ∃ S2, S2 = S1 ++ Z := ⟨_, rfl⟩
        have hcat2 : ¬ (9223372036854775807 < S2.size + V.size) := by rw [hS2, hV, ByteArray.size_append, strB_size]; simp only [List.length_cons, List.length_nil]; omega
        have hfin : S2 ++ V = strB (sure ++ Tp.kept loose (K : Int) turn) := by
          rw [Tp.kept_turn loose _ turn ht K (by have h1 := HK0.out; have h2 := HM.out; omega) hK2, ← hX, ← List.append_assoc, ← strB_append, HZ.out, hS2, hV]
        have HFIN := Lib.hid hfin; clear hfin
        have HZZ := Lib.hid hZ
        have HCV := Lib.hid hcv
        have HIDX := Lib.hid hidx
        have HCAT2 := Lib.hid hcat2
        have HX8 := Lib.hid hx8
        have HS2 := Lib.hid hS2
        have HV2 := Lib.hid hV
        have HTN := Lib.hid htn
        clear hcv hidx hcat2 hx8 hS2 hV htn ht hX hY0
        have hsl : ∀ W : World, (Instr.slice 9 (.string L1) none (some (.int .i64 (K : Int))) none).run Try.prog W = .ok (.string Z) W := fun W => by
          have := run_slice_string_h (P := Try.prog) W 9 L1 Try.underlying9 .i64 (K : Int) (by omega) hle
          rw [this, hZ]
          simp
        clear hm20 z0 hzs hle hZ
        go_enter Try.func17, Try.ntmps17
        go_wp2_with fail
        go_still_tail 13, (by kernel_rfl)
        change wpList _ _ _ _ _ w.drew
        have hm2 : Mv (fun i => i = r) w w.drew := (Mv.refl _ w).drew
        have hb2 := HB.out.drew
        clear c0 c1 HB
        generalize w.drew = w2 at hm2 hb2 ⊢
        have p0 := hb2.cell 0 _ rfl
        have p1 := hb2.cell 1 _ rfl
        have p3 := hb2.cell 3 _ rfl
        have p4 := hb2.cell 4 _ rfl
        have f0 := hb2.frozen 0
        have f1 := hb2.frozen 1
        have f3 := hb2.frozen 3
        have f4 := hb2.frozen 4
        have hlt2 := hb2.size
        have HM2 := Lib.hid hm2; clear hm2
        have HB2 := Lib.hid hb2; clear hb2
        clear hcat hsl
        have htn := HTN.out
        go_wp2_with fail
        rw [← HS2.out]
        have hb3 : Whole (w2.setCell ⟨r, 0, none⟩ (.string S2)).drew r 30 _ := HB2.out.put 0 (.string S2)
        have hm3 : Mv (fun i => i = r) w (w2.setCell ⟨r, 0, none⟩ (.string S2)).drew := (HM2.out.setCell (p := ⟨r, 0, none⟩) (fun _ => rfl) _).drew
        refine wp_region_planT (fun _ => True) (.take 0 (.take 1 (.take 2 (.take 4 (.take 5 (.take 6 (.take 8 (.take 10 (.fork 3 (.step 7 (.take 9 (.take 11 (.step 12 (.step 13 (.take 14 (.take 15 (.take 16 (.step 17 .done)))))))))
          7 (.take 9 (.take 11 (.fork 3 (.step 12 (.step 13 (.take 14 (.take 15 (.take 16 (.step 17 .done))))))
            12 (.fork 3 (.step 13 (.take 14 (.take 15 (.take 16 (.step 17 .done))))) 13 (.step 3 (.take 14 (.take 15 (.take 16 (.step 17 .done)))))))))))))))))) (by kernel_rfl) (by kernel_rfl) (fun _ _ d _ _ h => by cases d <;> exact h) trivial ?_
        clear p0 p1 p3 p4 f0 f1 f3 f4 hlt2 htn HB2 HM2
        generalize (w2.setCell ⟨r, 0, none⟩ (.string S2)).drew = wd at hb3 hm3 ⊢
        simp only [List.set] at hb3
        have H3 := Lib.hid hb3
        (refine PlanT.takeI (v := ?_) rfl rfl ?_ ?_; rotate_left; (focus (intro W hW; (try have hidx := HIDX.out); (try have hx8 := HX8.out); (try have hcat2 := HCAT2.out); go_simp; (try with_reducible rfl); done)); (try simp only [Act.put, List.setIfInBounds_toArray, List.set_cons_zero, List.set_cons_succ]))
        (refine PlanT.takeI (v := ?_) rfl rfl ?_ ?_; rotate_left; (focus (intro W hW; (try have hidx := HIDX.out); (try have hx8 := HX8.out); (try have hcat2 := HCAT2.out); go_simp; (try with_reducible rfl); done)); (try simp only [Act.put, List.setIfInBounds_toArray, List.set_cons_zero, List.set_cons_succ]))
        (refine PlanT.takeI (v := ?_) rfl rfl ?_ ?_; rotate_left; (focus (intro W hW; (try have hidx := HIDX.out); (try have hx8 := HX8.out); (try have hcat2 := HCAT2.out); go_simp; (try with_reducible rfl); done)); (try simp only [Act.put, List.setIfInBounds_toArray, List.set_cons_zero, List.set_cons_succ]))
        (refine PlanT.takeI (v := ?_) rfl rfl ?_ ?_; rotate_left; (focus (intro W hW; (try have hidx := HIDX.out); (try have hx8 := HX8.out); (try have hcat2 := HCAT2.out); go_simp; (try with_reducible rfl); done)); (try simp only [Act.put, List.setIfInBounds_toArray, List.set_cons_zero, List.set_cons_succ]))
        (refine PlanT.takeI (v := ?_) rfl rfl ?_ ?_; rotate_left; (focus (intro W hW; (try have hidx := HIDX.out); (try have hx8 := HX8.out); (try have hcat2 := HCAT2.out); go_simp; (try with_reducible rfl); done)); (try simp only [Act.put, List.setIfInBounds_toArray, List.set_cons_zero, List.set_cons_succ]))
        (refine PlanT.takeI (v := ?_) rfl rfl ?_ ?_; rotate_left; (focus (intro W hW; (try have hidx := HIDX.out); (try have hx8 := HX8.out); (try have hcat2 := HCAT2.out); go_simp; (try with_reducible rfl); done)); (try simp only [Act.put, List.setIfInBounds_toArray, List.set_cons_zero, List.set_cons_succ]))
        (refine PlanT.takeI (v := ?_) rfl rfl ?_ ?_; rotate_left; (focus (intro W hW; (try have hidx := HIDX.out); (try have hx8 := HX8.out); (try have hcat2 := HCAT2.out); go_simp; (try with_reducible rfl); done)); (try simp only [Act.put, List.setIfInBounds_toArray, List.set_cons_zero, List.set_cons_succ]))
        (refine PlanT.takeI (v := ?_) rfl rfl ?_ ?_; rotate_left; (focus (intro W hW; (try have hidx := HIDX.out); (try have hx8 := HX8.out); (try have hcat2 := HCAT2.out); go_simp; (try with_reducible rfl); done)); (try simp only [Act.put, List.setIfInBounds_toArray, List.set_cons_zero, List.set_cons_succ]))
        refine ⟨?_, ?_⟩
        · refine wpOp_stepT rfl rfl (fun Kk hKk => ?_)
          have q0 := (H3.out).cell 0 _ rfl
          go_simp
          refine hKk.out _ _ trivial ?_
          clear hKk Kk
          (try simp only [Act.put, List.setIfInBounds_toArray, List.set_cons_zero, List.set_cons_succ])
          refine wpOp_stepT rfl rfl (fun Kk hKk => ?_)
          have q1 := (H3.out).cell 1 _ rfl
          go_simp
          refine hKk.out _ _ trivial ?_
          clear hKk Kk
          (try simp only [Act.put, List.setIfInBounds_toArray, List.set_cons_zero, List.set_cons_succ])
          (refine PlanT.takeI (v := ?_) rfl rfl ?_ ?_; rotate_left; (focus (intro W hW; (try have hidx := HIDX.out); (try have hx8 := HX8.out); (try have hcat2 := HCAT2.out); go_simp; (try with_reducible rfl); done)); (try simp only [Act.put, List.setIfInBounds_toArray, List.set_cons_zero, List.set_cons_succ]))
          (refine PlanT.takeI (v := ?_) rfl rfl ?_ ?_; rotate_left; (focus (intro W hW; (try have hidx := HIDX.out); (try have hx8 := HX8.out); (try have hcat2 := HCAT2.out); go_simp; (try with_reducible rfl); done)); (try simp only [Act.put, List.setIfInBounds_toArray, List.set_cons_zero, List.set_cons_succ]))
          refine wpOp_stepT rfl rfl (fun Kk hKk => ?_)
          go_simp
          refine hKk.out _ _ trivial ?_
          clear hKk Kk
          (try simp only [Act.put, List.setIfInBounds_toArray, List.set_cons_zero, List.set_cons_succ])
          have H4 := Lib.hid (H3.out.alloc (.cells #[.int .u8 (X.toNat : Int)] 5))
          refine wpOp_stepT rfl rfl (fun Kk hKk => ?_)
          have hcv := HCV.out wd
          go_simp
          refine hKk.out _ _ trivial ?_
          clear hKk Kk
          (try simp only [Act.put, List.setIfInBounds_toArray, List.set_cons_zero, List.set_cons_succ])
          (refine PlanT.takeI (v := ?_) rfl rfl ?_ ?_; rotate_left; (focus (intro W hW; (try have hidx := HIDX.out); (try have hx8 := HX8.out); (try have hcat2 := HCAT2.out); go_simp; (try with_reducible rfl); done)); (try simp only [Act.put, List.setIfInBounds_toArray, List.set_cons_zero, List.set_cons_succ]))
          (refine PlanT.takeI (v := ?_) rfl rfl ?_ ?_; rotate_left; (focus (intro W hW; (try have hidx := HIDX.out); (try have hx8 := HX8.out); (try have hcat2 := HCAT2.out); go_simp; (try with_reducible rfl); done)); (try simp only [Act.put, List.setIfInBounds_toArray, List.set_cons_zero, List.set_cons_succ]))
          (refine PlanT.takeI (v := ?_) rfl rfl ?_ ?_; rotate_left; (focus (intro W hW; (try have hidx := HIDX.out); (try have hx8 := HX8.out); (try have hcat2 := HCAT2.out); go_simp; (try with_reducible rfl); done)); (try simp only [Act.put, List.setIfInBounds_toArray, List.set_cons_zero, List.set_cons_succ]))
          refine wpOp_stepT rfl rfl (fun Kk hKk => ?_)
          have g0 := H4.out.cell 0 _ rfl
          have gf := H4.out.frozen 0
          go_simp
          refine hKk.out _ _ trivial ?_
          clear hKk Kk g0 gf
          (try simp only [Act.put, List.setIfInBounds_toArray, List.set_cons_zero, List.set_cons_succ])
          simp only [PlanT]
          have H5 := Lib.hid (H4.out.put 0 (.string (S2 ++ V)))
          have HM5 := Lib.hid ((hm3.alloc (.cells #[.int .u8 (X.toNat : Int)] 5)).setCell (p := ⟨r, 0, none⟩) (fun _ => rfl) (.string (S2 ++ V)))
          clear H3 H4 hm3 hb3
          generalize ((wd.alloc (.cells #[.int .u8 (X.toNat : Int)] 5)).setCell ⟨r, 0, none⟩ (.string (S2 ++ V))) = w6 at H5 HM5 ⊢
          have p1 := H5.out.cell 1 _ rfl
          have p3 := H5.out.cell 3 _ rfl
          have p4 := H5.out.cell 4 _ rfl
          have f1 := H5.out.frozen 1
          have f3 := H5.out.frozen 3
          have f4 := H5.out.frozen 4
          have hlt6 := H5.out.size
          go_wp2_with fail
          go_end0
          exact ⟨rfl, rcrash_tail H5.out HFIN.out HK.out HM5.out⟩
        · refine wpOp_stepT rfl rfl (fun Kk hKk => ?_)
          have q1 := (H3.out).cell 1 _ rfl
          go_simp
          refine hKk.out _ _ trivial ?_
          clear hKk Kk
          (try simp only [Act.put, List.setIfInBounds_toArray, List.set_cons_zero, List.set_cons_succ])
          (refine PlanT.takeI (v := ?_) rfl rfl ?_ ?_; rotate_left; (focus (intro W hW; (try have hidx := HIDX.out); (try have hx8 := HX8.out); (try have hcat2 := HCAT2.out); go_simp; (try with_reducible rfl); done)); (try simp only [Act.put, List.setIfInBounds_toArray, List.set_cons_zero, List.set_cons_succ]))
          (refine PlanT.takeI (v := ?_) rfl rfl ?_ ?_; rotate_left; (focus (intro W hW; (try have hidx := HIDX.out); (try have hx8 := HX8.out); (try have hcat2 := HCAT2.out); go_simp; (try with_reducible rfl); done)); (try simp only [Act.put, List.setIfInBounds_toArray, List.set_cons_zero, List.set_cons_succ]))
          refine ⟨?_, ?_⟩
          · refine wpOp_stepT rfl rfl (fun Kk hKk => ?_)
            have q0 := (H3.out).cell 0 _ rfl
            go_simp
            refine hKk.out _ _ trivial ?_
            clear hKk Kk
            (try simp only [Act.put, List.setIfInBounds_toArray, List.set_cons_zero, List.set_cons_succ])
            refine wpOp_stepT rfl rfl (fun Kk hKk => ?_)
            go_simp
            refine hKk.out _ _ trivial ?_
            clear hKk Kk
            (try simp only [Act.put, List.setIfInBounds_toArray, List.set_cons_zero, List.set_cons_succ])
            have H4 := Lib.hid (H3.out.alloc (.cells #[.int .u8 (X.toNat : Int)] 5))
            refine wpOp_stepT rfl rfl (fun Kk hKk => ?_)
            have hcv := HCV.out wd
            go_simp
            refine hKk.out _ _ trivial ?_
            clear hKk Kk
            (try simp only [Act.put, List.setIfInBounds_toArray, List.set_cons_zero, List.set_cons_succ])
            (refine PlanT.takeI (v := ?_) rfl rfl ?_ ?_; rotate_left; (focus (intro W hW; (try have hidx := HIDX.out); (try have hx8 := HX8.out); (try have hcat2 := HCAT2.out); go_simp; (try with_reducible rfl); done)); (try simp only [Act.put, List.setIfInBounds_toArray, List.set_cons_zero, List.set_cons_succ]))
            (refine PlanT.takeI (v := ?_) rfl rfl ?_ ?_; rotate_left; (focus (intro W hW; (try have hidx := HIDX.out); (try have hx8 := HX8.out); (try have hcat2 := HCAT2.out); go_simp; (try with_reducible rfl); done)); (try simp only [Act.put, List.setIfInBounds_toArray, List.set_cons_zero, List.set_cons_succ]))
            (refine PlanT.takeI (v := ?_) rfl rfl ?_ ?_; rotate_left; (focus (intro W hW; (try have hidx := HIDX.out); (try have hx8 := HX8.out); (try have hcat2 := HCAT2.out); go_simp; (try with_reducible rfl); done)); (try simp only [Act.put, List.setIfInBounds_toArray, List.set_cons_zero, List.set_cons_succ]))
            refine wpOp_stepT rfl rfl (fun Kk hKk => ?_)
            have g0 := H4.out.cell 0 _ rfl
            have gf := H4.out.frozen 0
            go_simp
            refine hKk.out _ _ trivial ?_
            clear hKk Kk g0 gf
            (try simp only [Act.put, List.setIfInBounds_toArray, List.set_cons_zero, List.set_cons_succ])
            simp only [PlanT]
            have H5 := Lib.hid (H4.out.put 0 (.string (S2 ++ V)))
            have HM5 := Lib.hid ((hm3.alloc (.cells #[.int .u8 (X.toNat : Int)] 5)).setCell (p := ⟨r, 0, none⟩) (fun _ => rfl) (.string (S2 ++ V)))
            clear H3 H4 hm3 hb3
            generalize ((wd.alloc (.cells #[.int .u8 (X.toNat : Int)] 5)).setCell ⟨r, 0, none⟩ (.string (S2 ++ V))) = w6 at H5 HM5 ⊢
            have p1 := H5.out.cell 1 _ rfl
            have p3 := H5.out.cell 3 _ rfl
            have p4 := H5.out.cell 4 _ rfl
            have f1 := H5.out.frozen 1
            have f3 := H5.out.frozen 3
            have f4 := H5.out.frozen 4
            have hlt6 := H5.out.size
            go_wp2_with fail
            go_end0
            exact ⟨rfl, rcrash_tail H5.out HFIN.out HK.out HM5.out⟩
          · refine wpOp_stepT rfl rfl (fun Kk hKk => ?_)
            go_simp
            refine hKk.out _ _ trivial ?_
            clear hKk Kk
            (try simp only [Act.put, List.setIfInBounds_toArray, List.set_cons_zero, List.set_cons_succ])
            have H4 := Lib.hid (H3.out.alloc (.cells #[.int .u8 (X.toNat : Int)] 5))
            refine ⟨?_, ?_⟩
            · refine wpOp_stepT rfl rfl (fun Kk hKk => ?_)
              have q0 := H4.out.cell 0 _ rfl
              go_simp
              refine hKk.out _ _ trivial ?_
              clear hKk Kk
              (try simp only [Act.put, List.setIfInBounds_toArray, List.set_cons_zero, List.set_cons_succ])
              refine wpOp_stepT rfl rfl (fun Kk hKk => ?_)
              have hcv := HCV.out wd
              go_simp
              refine hKk.out _ _ trivial ?_
              clear hKk Kk
              (try simp only [Act.put, List.setIfInBounds_toArray, List.set_cons_zero, List.set_cons_succ])
              (refine PlanT.takeI (v := ?_) rfl rfl ?_ ?_; rotate_left; (focus (intro W hW; (try have hidx := HIDX.out); (try have hx8 := HX8.out); (try have hcat2 := HCAT2.out); go_simp; (try with_reducible rfl); done)); (try simp only [Act.put, List.setIfInBounds_toArray, List.set_cons_zero, List.set_cons_succ]))
              (refine PlanT.takeI (v := ?_) rfl rfl ?_ ?_; rotate_left; (focus (intro W hW; (try have hidx := HIDX.out); (try have hx8 := HX8.out); (try have hcat2 := HCAT2.out); go_simp; (try with_reducible rfl); done)); (try simp only [Act.put, List.setIfInBounds_toArray, List.set_cons_zero, List.set_cons_succ]))
              (refine PlanT.takeI (v := ?_) rfl rfl ?_ ?_; rotate_left; (focus (intro W hW; (try have hidx := HIDX.out); (try have hx8 := HX8.out); (try have hcat2 := HCAT2.out); go_simp; (try with_reducible rfl); done)); (try simp only [Act.put, List.setIfInBounds_toArray, List.set_cons_zero, List.set_cons_succ]))
              refine wpOp_stepT rfl rfl (fun Kk hKk => ?_)
              have g0 := H4.out.cell 0 _ rfl
              have gf := H4.out.frozen 0
              go_simp
              refine hKk.out _ _ trivial ?_
              clear hKk Kk g0 gf
              (try simp only [Act.put, List.setIfInBounds_toArray, List.set_cons_zero, List.set_cons_succ])
              simp only [PlanT]
              have H5 := Lib.hid (H4.out.put 0 (.string (S2 ++ V)))
              have HM5 := Lib.hid ((hm3.alloc (.cells #[.int .u8 (X.toNat : Int)] 5)).setCell (p := ⟨r, 0, none⟩) (fun _ => rfl) (.string (S2 ++ V)))
              clear H3 H4 hm3 hb3
              generalize ((wd.alloc (.cells #[.int .u8 (X.toNat : Int)] 5)).setCell ⟨r, 0, none⟩ (.string (S2 ++ V))) = w6 at H5 HM5 ⊢
              have p1 := H5.out.cell 1 _ rfl
              have p3 := H5.out.cell 3 _ rfl
              have p4 := H5.out.cell 4 _ rfl
              have f1 := H5.out.frozen 1
              have f3 := H5.out.frozen 3
              have f4 := H5.out.frozen 4
              have hlt6 := H5.out.size
              go_wp2_with fail
              go_end0
              exact ⟨rfl, rcrash_tail H5.out HFIN.out HK.out HM5.out⟩
            · refine wpOp_stepT rfl rfl (fun Kk hKk => ?_)
              have hcv := HCV.out wd
              go_simp
              refine hKk.out _ _ trivial ?_
              clear hKk Kk
              (try simp only [Act.put, List.setIfInBounds_toArray, List.set_cons_zero, List.set_cons_succ])
              refine wpOp_stepT rfl rfl (fun Kk hKk => ?_)
              have q0 := H4.out.cell 0 _ rfl
              go_simp
              refine hKk.out _ _ trivial ?_
              clear hKk Kk
              (try simp only [Act.put, List.setIfInBounds_toArray, List.set_cons_zero, List.set_cons_succ])
              (refine PlanT.takeI (v := ?_) rfl rfl ?_ ?_; rotate_left; (focus (intro W hW; (try have hidx := HIDX.out); (try have hx8 := HX8.out); (try have hcat2 := HCAT2.out); go_simp; (try with_reducible rfl); done)); (try simp only [Act.put, List.setIfInBounds_toArray, List.set_cons_zero, List.set_cons_succ]))
              (refine PlanT.takeI (v := ?_) rfl rfl ?_ ?_; rotate_left; (focus (intro W hW; (try have hidx := HIDX.out); (try have hx8 := HX8.out); (try have hcat2 := HCAT2.out); go_simp; (try with_reducible rfl); done)); (try simp only [Act.put, List.setIfInBounds_toArray, List.set_cons_zero, List.set_cons_succ]))
              (refine PlanT.takeI (v := ?_) rfl rfl ?_ ?_; rotate_left; (focus (intro W hW; (try have hidx := HIDX.out); (try have hx8 := HX8.out); (try have hcat2 := HCAT2.out); go_simp; (try with_reducible rfl); done)); (try simp only [Act.put, List.setIfInBounds_toArray, List.set_cons_zero, List.set_cons_succ]))
              refine wpOp_stepT rfl rfl (fun Kk hKk => ?_)
              have g0 := H4.out.cell 0 _ rfl
              have gf := H4.out.frozen 0
              go_simp
              refine hKk.out _ _ trivial ?_
              clear hKk Kk g0 gf
              (try simp only [Act.put, List.setIfInBounds_toArray, List.set_cons_zero, List.set_cons_succ])
              simp only [PlanT]
              have H5 := Lib.hid (H4.out.put 0 (.string (S2 ++ V)))
              have HM5 := Lib.hid ((hm3.alloc (.cells #[.int .u8 (X.toNat : Int)] 5)).setCell (p := ⟨r, 0, none⟩) (fun _ => rfl) (.string (S2 ++ V)))
              clear H3 H4 hm3 hb3
              generalize ((wd.alloc (.cells #[.int .u8 (X.toNat : Int)] 5)).setCell ⟨r, 0, none⟩ (.string (S2 ++ V))) = w6 at H5 HM5 ⊢
              have p1 := H5.out.cell 1 _ rfl
              have p3 := H5.out.cell 3 _ rfl
              have p4 := H5.out.cell 4 _ rfl
              have f1 := H5.out.frozen 1
              have f3 := H5.out.frozen 3
              have f4 := H5.out.frozen 4
              have hlt6 := H5.out.size
              go_wp2_with fail
              go_end0
              exact ⟨rfl, rcrash_tail H5.out HFIN.out HK.out HM5.out⟩
end Go.Proofs.Ythkhcobdcmclfaa

/- The reference of verdicts: Check. Pairs and changes held against each other: what the reference's Pairs and Same answer. An append to a slice of the call's own that says of its block: the old one or a new one. -/
import Derived.Test.YtmakgjokadcfjaaFac
import Derived.Test.YtmakgjokadcfjaaFaa
import Derived.Test.YtmakgjokadcfjaaFab
import Derived.Laws.StructEq
namespace Go.Proofs.Ytmakgjokadcfjaa
open Go.RowKit
attribute [local go_sem] less_eq same_eq le_eq ge_eq gt_eq

theorem sumC_bound {l : List Chg} {i : Nat} (h : smallTo l i) (hi : i ≤ l.length) : sumC (l.take i) ≤ 1032 * i := by
  induction i with
  | zero => simp [sumC]
  | succ i ih =>
    have h1 := ih (fun j hj hji => h j hj (by omega)) (by omega)
    have h2 := h i (by omega) (by omega)
    rw [sumC_succ (by omega)]
    omega
theorem sumS_bound {l : List (K × K)} {i : Nat} (h : shortTo l i) (hi : i ≤ l.length) : sumS (l.take i) ≤ 42 * i := by
  induction i with
  | zero => simp [sumS]
  | succ i ih =>
    have h1 := ih (fun j hj hji => h j hj (by omega)) (by omega)
    have h2 := h i (by omega) (by omega)
    rw [sumS_succ (by omega)]
    omega

set_option maxHeartbeats 8000000 in
set_option maxRecDepth 100000 in
theorem rcheckT_any (t : Txn) (hft : fitT t) (v1 v2 : Value) (w : World) (hv1 : RdP w w.heap.size v1 t.reads) (hv2 : RdC w w.heap.size v2 t.chgs) :
    Calls Try.prog 14 #[tval t v1 v2] w fun e w' => e = .returned (.int .i64 (checkT t)) ∧ Below w.heap.size w w' := by
  obtain ⟨f1, f2, f3, f4⟩ := hft
  obtain ⟨read, reads, chgs⟩ := t
  obtain ⟨R, hR⟩ : ∃ R, R = checkT ⟨read, reads, chgs⟩ := ⟨_, rfl⟩
  rw [← hR]
  have HARG := Lib.hid (fun h => hR.trans (checkT_arg h))
  have HBIG := Lib.hid (fun h g => hR.trans (checkT_big h g))
  have HTURN := Lib.hid (fun h g f => hR.trans (checkT_turned h g f))
  have HREST := Lib.hid (fun h g f => hR.trans (checkT_rest h g f))
  unfold tval
  simp only at HARG HBIG HTURN HREST f1 f2 f3 f4 hv1 hv2 ⊢
  obtain ⟨A1, c1, rfl, _, hi⟩ := hv1.at
  obtain ⟨A2, c2, rfl, _, hj⟩ := hv2.at
  have hb1 : Below w.heap.size w (w.alloc (.cells #[.int .i64 read, .slice A1 reads.length c1, .slice A2 chgs.length c2] 34)) := (Below.refl _ _).alloc (Nat.le_refl _) _
  have HB1 := Lib.hid hb1; clear hb1
  have HV2 := Lib.hid hv2
  have HI := Lib.hid hi; clear hi
  have HJ := Lib.hid hj; clear hj
  have HS := Lib.hid f2; clear f2
  have HC := Lib.hid f4; clear f4
  have HALL := Lib.hid (fun W (h : RdC W W.heap.size (.slice A2 chgs.length c2) chgs) => rall_any chgs HC.out (.slice A2 chgs.length c2) W h f3)
  clear hR hv1 hv2
  by_cases h0 : read < 0
  · have HF := Lib.hid (HARG.out h0)
    go_enter Try.func14, Try.ntmps14
    go_wp2_with fail
    go_ret
    exact ⟨by rw [HF.out]; rfl, HB1.out⟩
  by_cases h1 : (24 : Int) < (reads.length : Int)
  · have HF := Lib.hid (HBIG.out h0 (.inl (by show 24 < reads.length; omega)))
    go_enter Try.func14, Try.ntmps14
    go_wp2_with fail
    go_ret
    exact ⟨by rw [HF.out]; rfl, HB1.out⟩
  by_cases h2 : (24 : Int) < (chgs.length : Int)
  · have HF := Lib.hid (HBIG.out h0 (.inr (.inl (by show 24 < chgs.length; omega))))
    go_enter Try.func14, Try.ntmps14
    go_wp2_with fail
    go_ret
    exact ⟨by rw [HF.out]; rfl, HB1.out⟩
  have hr24 : reads.length ≤ 24 := by omega
  have hc24 : chgs.length ≤ 24 := by omega
  go_enter Try.func14, Try.ntmps14
  go_wp2_with fail
  clear h1 h2
  go_loopw [3, 4] (fun nv iv wr => ∃ i : Nat, i ≤ chgs.length ∧ iv = .int .i64 i ∧ nv = .int .i64 ((sumC (chgs.take i) : Nat) : Int) ∧ Hid (smallTo chgs i) ∧ Hid (Below (w.heap.size + 1) (w.alloc (.cells #[.int .i64 read, .slice A1 reads.length c1, .slice A2 chgs.length c2] 34)) wr)) (fun _ iv _ => chgs.length - (intOf iv).toNat)
  case atStart => exact ⟨0, Nat.zero_le _, rfl, rfl, Lib.hid (fun j _ h => by omega), Lib.hid (by have := Below.refl (w.heap.size + 1) (w.alloc (.cells #[.int .i64 read, .slice A1 reads.length c1, .slice A2 chgs.length c2] 34)); exact this)⟩
  case round =>
    obtain ⟨i, hil, rfl, rfl, HSM, HBR⟩ := hrel
    have hbn := sumC_bound HSM.out hil
    have HBW := Lib.hid (show Below w.heap.size w wr from HB1.out.trans (HBR.out.mono (by omega)))
    have p1 := box_cell HBR.out 1 _ rfl
    have p2 := box_cell HBR.out 2 _ rfl
    by_cases hlt : i < chgs.length
    · obtain ⟨b, o, rfl, hbB, q0, q1, q2⟩ := HJ.out i hlt
      have k1 := (HBW.out.cell (p := ⟨b, o + i * 3 + 1, none⟩) hbB).trans q1
      have k2 := (HBW.out.cell (p := ⟨b, o + i * 3 + 2, none⟩) hbB).trans q2
      have hsz := HC.out chgs[i] (List.getElem_mem hlt)
      have hsum := sumC_succ hlt
      have hst : chgs[i].key.size ≤ 512 → chgs[i].val.size ≤ 512 → smallTo chgs (i + 1) := fun e1 e2 j hj hji => by
        by_cases h : j < i
        · exact HSM.out j hj h
        · obtain rfl : j = i := by omega
          exact ⟨e1, e2⟩
      have hbg : 512 < chgs[i].key.size ∨ 512 < chgs[i].val.size → bigT ⟨read, reads, chgs⟩ := fun e => .inr (.inr (.inl ⟨chgs[i], List.getElem_mem hlt, e⟩))
      unfold smallC at hsz
      generalize chgs[i].key = x at k1 hsz hsum hst hbg q1
      generalize chgs[i].val = y at k2 hsz hsum hst hbg q2
      obtain ⟨S, hS⟩ : ∃ S, S = sumC (chgs.take i) := ⟨_, rfl⟩
      rw [← hS] at hsum hbn ⊢
      have HSUM := Lib.hid hsum
      have HST := Lib.hid hst
      have HBG := Lib.hid hbg
      have hI0 : (0 : Int) ≤ (i : Int) := by omega
      have hI1 : (i : Int) < (chgs.length : Int) := by omega
      clear q0 q1 q2 hsum hst hbg hS
      by_cases hx : (512 : Int) < (x.size : Int)
      · have HF := Lib.hid (HBIG.out h0 (HBG.out (.inl (by omega))))
        go_wp2_with fail
        go_ret
        exact ⟨by rw [HF.out]; rfl, HBW.out⟩
      by_cases hy : (512 : Int) < (y.size : Int)
      · have HF := Lib.hid (HBIG.out h0 (HBG.out (.inr (by omega))))
        go_wp2_with fail
        go_ret
        exact ⟨by rw [HF.out]; rfl, HBW.out⟩
      have HSM2 := Lib.hid (HST.out (by omega) (by omega))
      go_wp2_with fail
      have hw1 : IntKind.i64.wrap ((x.size : Int) + (y.size : Int)) = (x.size : Int) + (y.size : Int) := by rw [IntKind.wrap_i64]; omega
      have hw2 : IntKind.i64.wrap ((x.size : Int) + (y.size : Int) + 8) = (x.size : Int) + (y.size : Int) + 8 := by rw [IntKind.wrap_i64]; omega
      have hw3 : IntKind.i64.wrap ((S : Int) + ((x.size : Int) + (y.size : Int) + 8)) = (S : Int) + ((x.size : Int) + (y.size : Int) + 8) := by rw [IntKind.wrap_i64]; omega
      have hd0 : Below (w.heap.size + 1) (w.alloc (.cells #[.int .i64 read, .slice A1 reads.length c1, .slice (some ⟨b, o, none⟩) chgs.length c2] 34)) wr.drew := HBR.out.drew
      have hg1 : w.heap.size + 1 ≤ wr.heap.size := by have := HBR.out.size; rwa [World.size_alloc] at this
      have HK1 := Lib.hid (fun W (h : Below (w.heap.size + 1) (w.alloc (.cells #[.int .i64 read, .slice A1 reads.length c1, .slice (some ⟨b, o, none⟩) chgs.length c2] 34)) W) => ((h.cell (p := ⟨b, o + i * 3 + 1, none⟩) (by show b < _; omega)).trans ((HBR.out.cell (p := ⟨b, o + i * 3 + 1, none⟩) (by show b < _; omega)).symm.trans k1)))
      have HK2 := Lib.hid (fun W (h : Below (w.heap.size + 1) (w.alloc (.cells #[.int .i64 read, .slice A1 reads.length c1, .slice (some ⟨b, o, none⟩) chgs.length c2] 34)) W) => ((h.cell (p := ⟨b, o + i * 3 + 2, none⟩) (by show b < _; omega)).trans ((HBR.out.cell (p := ⟨b, o + i * 3 + 2, none⟩) (by show b < _; omega)).symm.trans k2)))
      clear k1 k2 p1 p2
      refine wp_region_planB [(true, 0), (true, 1), (true, 2), (true, 3), (true, 4), (true, 5), (true, 6), (true, 7), (true, 8), (true, 9), (true, 10), (true, 11), (true, 12), (true, 13), (true, 14), (true, 15), (true, 16), (true, 17), (true, 18)] (by kernel_rfl) (by kernel_rfl) (fun _ _ d _ _ h => by cases d <;> exact h) ?_
      iterate 19 (refine PlanB.take (v := ?_) rfl rfl ?_ ?_; rotate_left; (focus (intro W hW; have hW2 := hd0.trans (hW.mono hg1); have p2 := box_cell hW2 2 _ rfl; have k1 := HK1.out W hW2; have k2 := HK2.out W hW2; clear hW2; go_simp; (try with_reducible rfl); done)); (try simp only [Act.put, List.setIfInBounds_toArray, List.set_cons_zero, List.set_cons_succ]))
      simp only [PlanB]
      have HBD := Lib.hid hd0
      clear hd0 hg1 hw1 hw2 hw3
      go_wp2_with fail
      go_roundw
      case rel => exact ⟨i + 1, by omega, by go_num, congrArg (Value.int .i64) (by rw [HSUM.out]; push_cast; omega), HSM2, HBD⟩
      case measure => simp [intOf]; omega
    · obtain rfl : i = chgs.length := by omega
      rw [List.take_length] at hbn ⊢
      have hd0 := HBR.out
      obtain ⟨S, hS⟩ : ∃ S, S = sumC chgs := ⟨_, rfl⟩
      rw [← hS] at hbn ⊢
      have HSC := Lib.hid hS
      clear hS hd0
      go_wp2_with fail
      clear p1 p2
      go_loopw [3, 5] (fun nv iv wr => ∃ i : Nat, i ≤ reads.length ∧ iv = .int .i64 i ∧ nv = .int .i64 ((S + sumS (reads.take i) : Nat) : Int) ∧ Hid (shortTo reads i) ∧ Hid (Below (w.heap.size + 1) (w.alloc (.cells #[.int .i64 read, .slice A1 reads.length c1, .slice A2 chgs.length c2] 34)) wr)) (fun _ iv _ => reads.length - (intOf iv).toNat)
      case atStart => exact ⟨0, Nat.zero_le _, rfl, rfl, Lib.hid (fun j _ h => by omega), HBR⟩
      case round =>
        clear HBW HBR
        obtain ⟨i, hil, rfl, rfl, HSH, HBR⟩ := hrel
        have hbs := sumS_bound HSH.out hil
        have HBW := Lib.hid (show Below w.heap.size w wr from HB1.out.trans (HBR.out.mono (by omega)))
        have p1 := box_cell HBR.out 1 _ rfl
        have p2 := box_cell HBR.out 2 _ rfl
        by_cases hlt : i < reads.length
        · obtain ⟨b, o, rfl, hbB, q0, q1⟩ := HI.out i hlt
          have k0 := (HBW.out.cell (p := ⟨b, o + i * 2, none⟩) hbB).trans q0
          have k1 := (HBW.out.cell (p := ⟨b, o + i * 2 + 1, none⟩) hbB).trans q1
          have hsz := HS.out reads[i] (List.getElem_mem hlt)
          have hsum := sumS_succ hlt
          have hst : reads[i].1.size ≤ 17 → reads[i].2.size ≤ 17 → shortTo reads (i + 1) := fun e1 e2 j hj hji => by
            by_cases h : j < i
            · exact HSH.out j hj h
            · obtain rfl : j = i := by omega
              exact ⟨e1, e2⟩
          have hbg : 17 < reads[i].1.size ∨ 17 < reads[i].2.size → bigT ⟨read, reads, chgs⟩ := fun e => .inr (.inr (.inr (.inl ⟨reads[i], List.getElem_mem hlt, e⟩)))
          generalize reads[i] = z at k0 k1 hsz hsum hst hbg q0 q1
          obtain ⟨x, y⟩ := z
          simp only at k0 k1 hsz hsum hst hbg
          obtain ⟨S2, hS2⟩ : ∃ S2, S2 = sumS (reads.take i) := ⟨_, rfl⟩
          rw [← hS2] at hsum hbs ⊢
          have HSUM := Lib.hid hsum
          have HST := Lib.hid hst
          have HBG := Lib.hid hbg
          have hI0 : (0 : Int) ≤ (i : Int) := by omega
          have hI1 : (i : Int) < (reads.length : Int) := by omega
          clear q0 q1 hsum hst hbg hS2
          by_cases hx : (17 : Int) < (x.size : Int)
          · have HF := Lib.hid (HBIG.out h0 (HBG.out (.inl (by omega))))
            go_wp2_with fail
            go_ret
            exact ⟨by rw [HF.out]; rfl, HBW.out⟩
          by_cases hy : (17 : Int) < (y.size : Int)
          · have HF := Lib.hid (HBIG.out h0 (HBG.out (.inr (by omega))))
            go_wp2_with fail
            go_ret
            exact ⟨by rw [HF.out]; rfl, HBW.out⟩
          have HSH2 := Lib.hid (HST.out (by omega) (by omega))
          obtain ⟨Sn, hSn⟩ : ∃ Sn, Sn = S + S2 := ⟨_, rfl⟩
          rw [← hSn]
          have HSN := Lib.hid hSn
          clear hSn
          go_wp2_with fail
          have hw1 : IntKind.i64.wrap ((x.size : Int) + (y.size : Int)) = (x.size : Int) + (y.size : Int) := by rw [IntKind.wrap_i64]; omega
          have hw2 : IntKind.i64.wrap ((x.size : Int) + (y.size : Int) + 8) = (x.size : Int) + (y.size : Int) + 8 := by rw [IntKind.wrap_i64]; omega
          have hw3 : IntKind.i64.wrap ((Sn : Int) + ((x.size : Int) + (y.size : Int) + 8)) = (Sn : Int) + ((x.size : Int) + (y.size : Int) + 8) := by rw [IntKind.wrap_i64]; have := HSN.out; omega
          have hd0 : Below (w.heap.size + 1) (w.alloc (.cells #[.int .i64 read, .slice (some ⟨b, o, none⟩) reads.length c1, .slice A2 chgs.length c2] 34)) wr.drew := HBR.out.drew
          have hg1 : w.heap.size + 1 ≤ wr.heap.size := by have := HBR.out.size; rwa [World.size_alloc] at this
          have HK0 := Lib.hid (fun W (h : Below (w.heap.size + 1) (w.alloc (.cells #[.int .i64 read, .slice (some ⟨b, o, none⟩) reads.length c1, .slice A2 chgs.length c2] 34)) W) => ((h.cell (p := ⟨b, o + i * 2, none⟩) (by show b < _; omega)).trans ((HBR.out.cell (p := ⟨b, o + i * 2, none⟩) (by show b < _; omega)).symm.trans k0)))
          have HK1 := Lib.hid (fun W (h : Below (w.heap.size + 1) (w.alloc (.cells #[.int .i64 read, .slice (some ⟨b, o, none⟩) reads.length c1, .slice A2 chgs.length c2] 34)) W) => ((h.cell (p := ⟨b, o + i * 2 + 1, none⟩) (by show b < _; omega)).trans ((HBR.out.cell (p := ⟨b, o + i * 2 + 1, none⟩) (by show b < _; omega)).symm.trans k1)))
          clear k0 k1 p1 p2
          refine wp_region_planB [(true, 0), (true, 1), (true, 2), (true, 3), (true, 4), (true, 5), (true, 6), (true, 7), (true, 8), (true, 9), (true, 10), (true, 11), (true, 12), (true, 13), (true, 14), (true, 15), (true, 16), (true, 17), (true, 18)] (by kernel_rfl) (by kernel_rfl) (fun _ _ d _ _ h => by cases d <;> exact h) ?_
          iterate 19 (refine PlanB.take (v := ?_) rfl rfl ?_ ?_; rotate_left; (focus (intro W hW; have hW2 := hd0.trans (hW.mono hg1); have p1 := box_cell hW2 1 _ rfl; have k0 := HK0.out W hW2; have k1 := HK1.out W hW2; clear hW2; go_simp; (try with_reducible rfl); done)); (try simp only [Act.put, List.setIfInBounds_toArray, List.set_cons_zero, List.set_cons_succ]))
          simp only [PlanB]
          have HBD := Lib.hid hd0
          clear hd0 hg1 hw1 hw2 hw3
          go_wp2_with fail
          go_roundw
          case rel => exact ⟨i + 1, by omega, by go_num, congrArg (Value.int .i64) (by rw [HSUM.out, HSN.out]; push_cast; omega), HSH2, HBD⟩
          case measure => simp [intOf]; omega
        · obtain rfl : i = reads.length := by omega
          rw [List.take_length] at hbs ⊢
          by_cases hbig : 512 < S + sumS reads
          · have HF := Lib.hid (HBIG.out h0 (.inr (.inr (.inr (.inr (by show 512 < sumC chgs + sumS reads; rw [← HSC.out]; exact hbig))))))
            generalize S + sumS reads = Sn at hbig ⊢
            have hbI : (512 : Int) < (Sn : Int) := by omega
            go_wp2_with fail
            go_ret
            exact ⟨by rw [HF.out]; rfl, HBW.out⟩
          have HNB := Lib.hid (not_big (t := ⟨read, reads, chgs⟩) hr24 hc24 HSM.out HSH.out (by show sumC chgs + sumS reads ≤ 512; rw [← HSC.out]; omega))
          generalize S + sumS reads = Sn at hbig ⊢
          have hbI : ¬ (512 : Int) < (Sn : Int) := by omega
          go_wp2_with fail
          clear p1 p2
          go_loopw [6] (fun iv wr => ∃ i : Nat, i ≤ reads.length ∧ iv = .int .i64 i ∧ Hid (upTo reads i) ∧ Hid (Below (w.heap.size + 1) (w.alloc (.cells #[.int .i64 read, .slice A1 reads.length c1, .slice A2 chgs.length c2] 34)) wr)) (fun iv _ => reads.length - (intOf iv).toNat)
          case atStart => exact ⟨0, Nat.zero_le _, rfl, Lib.hid (fun j _ h => by omega), HBR⟩
          case round =>
            clear HBW HBR
            obtain ⟨i, hil, rfl, HUP, HBR⟩ := hrel
            have HBW := Lib.hid (show Below w.heap.size w wr from HB1.out.trans (HBR.out.mono (by omega)))
            have p1 := box_cell HBR.out 1 _ rfl
            have p2 := box_cell HBR.out 2 _ rfl
            by_cases hlt : i < reads.length
            · obtain ⟨b, o, rfl, hbB, q0, q1⟩ := HI.out i hlt
              have k0 := (HBW.out.cell (p := ⟨b, o + i * 2, none⟩) hbB).trans q0
              have k1 := (HBW.out.cell (p := ⟨b, o + i * 2 + 1, none⟩) hbB).trans q1
              have hst : ¬ reads[i].2 < reads[i].1 → upTo reads (i + 1) := fun e j hj hji => by
                by_cases h : j < i
                · exact HUP.out j hj h
                · obtain rfl : j = i := by omega
                  exact e
              have htu : reads[i].2 < reads[i].1 → ∃ s ∈ reads, s.2 < s.1 := fun e => ⟨reads[i], List.getElem_mem hlt, e⟩
              generalize reads[i] = z at k0 k1 hst htu q0 q1
              obtain ⟨x, y⟩ := z
              simp only at k0 k1 hst htu
              have HST := Lib.hid hst
              have HTU := Lib.hid htu
              have hI0 : (0 : Int) ≤ (i : Int) := by omega
              have hI1 : (i : Int) < (reads.length : Int) := by omega
              have hd0 : Below (w.heap.size + 1) (w.alloc (.cells #[.int .i64 read, .slice (some ⟨b, o, none⟩) reads.length c1, .slice A2 chgs.length c2] 34)) wr.drew := HBR.out.drew
              have hg1 : w.heap.size + 1 ≤ wr.heap.size := by have := HBR.out.size; rwa [World.size_alloc] at this
              have HK0 := Lib.hid (fun W (h : Below (w.heap.size + 1) (w.alloc (.cells #[.int .i64 read, .slice (some ⟨b, o, none⟩) reads.length c1, .slice A2 chgs.length c2] 34)) W) => ((h.cell (p := ⟨b, o + i * 2, none⟩) (by show b < _; omega)).trans ((HBR.out.cell (p := ⟨b, o + i * 2, none⟩) (by show b < _; omega)).symm.trans k0)))
              have HK1 := Lib.hid (fun W (h : Below (w.heap.size + 1) (w.alloc (.cells #[.int .i64 read, .slice (some ⟨b, o, none⟩) reads.length c1, .slice A2 chgs.length c2] 34)) W) => ((h.cell (p := ⟨b, o + i * 2 + 1, none⟩) (by show b < _; omega)).trans ((HBR.out.cell (p := ⟨b, o + i * 2 + 1, none⟩) (by show b < _; omega)).symm.trans k1)))
              clear q0 q1 hst htu
              by_cases hxy : y < x
              · have HF := Lib.hid (HTURN.out h0 HNB.out (HTU.out hxy))
                go_wp2_with fail
                clear k0 k1 p1 p2
                refine wp_region_planB [(true, 0), (true, 1), (true, 2), (true, 3), (true, 4), (true, 5), (true, 6), (true, 7), (true, 8), (true, 9), (true, 10), (true, 11), (true, 12)] (by kernel_rfl) (by kernel_rfl) (fun _ _ d _ _ h => by cases d <;> exact h) ?_
                iterate 13 (refine PlanB.take (v := ?_) rfl rfl ?_ ?_; rotate_left; (focus (intro W hW; have hW2 := hd0.trans (hW.mono hg1); have p1 := box_cell hW2 1 _ rfl; have k0 := HK0.out W hW2; have k1 := HK1.out W hW2; clear hW2; go_simp; (try with_reducible rfl); done)); (try simp only [Act.put, List.setIfInBounds_toArray, List.set_cons_zero, List.set_cons_succ]))
                simp only [PlanB]
                have HBD := Lib.hid (show Below w.heap.size w wr.drew from HBW.out.drew)
                clear hd0 hg1
                go_wp2_with fail
                go_ret
                exact ⟨by rw [HF.out]; rfl, HBD.out⟩
              · have HUP2 := Lib.hid (HST.out hxy)
                have hdc : decide (y < x) = false := decide_eq_false hxy
                go_wp2_with fail
                clear k0 k1 p1 p2
                refine wp_region_planB [(true, 0), (true, 1), (true, 2), (true, 3), (true, 4), (true, 5), (true, 6), (true, 7), (true, 8), (true, 9), (true, 10), (true, 11), (true, 12)] (by kernel_rfl) (by kernel_rfl) (fun _ _ d _ _ h => by cases d <;> exact h) ?_
                iterate 13 (refine PlanB.take (v := ?_) rfl rfl ?_ ?_; rotate_left; (focus (intro W hW; have hW2 := hd0.trans (hW.mono hg1); have p1 := box_cell hW2 1 _ rfl; have k0 := HK0.out W hW2; have k1 := HK1.out W hW2; clear hW2; go_simp; (try with_reducible rfl); done)); (try simp only [Act.put, List.setIfInBounds_toArray, List.set_cons_zero, List.set_cons_succ]))
                simp only [PlanB]
                have HBD := Lib.hid hd0
                clear hd0 hg1 hdc
                go_wp2_with fail
                go_roundw
                case rel => exact ⟨i + 1, by omega, by go_num, HUP2, HBD⟩
                case measure => simp [intOf]; omega
            · obtain rfl : i = reads.length := by omega
              have HF := Lib.hid (HREST.out h0 HNB.out HUP.out)
              have HCA := Lib.hid (HALL.out wr ((HV2.out.below HBW.out (Nat.le_refl _)).mono HBW.out.size))
              go_wp2_with fail
              refine HCA.out.mono ?_
              rintro e w2 ⟨rfl, hb2⟩
              have HB2 := Lib.hid (HBW.out.trans (hb2.mono HBW.out.size))
              clear hb2 p1 p2
              go_wp2_with fail
              go_ret
              exact ⟨by rw [HF.out]; rfl, HB2.out⟩
end Go.Proofs.Ytmakgjokadcfjaa
namespace Go.Proofs.Ytmakgjokadcfjaa
open Go.RowKit
attribute [local go_sem] less_eq same_eq le_eq ge_eq gt_eq

theorem chg_guard : Try.prog.eqGuardType Try.prog.depth 55 = false := by kernel_rfl
set_option maxRecDepth 100000 in
theorem eql_chg (k m : Int) (a b c d : K) (W : World) : (binOp .eql 55 (.agg #[.int .i64 k, .string a, .string b]) (.agg #[.int .i64 m, .string c, .string d])).run Try.prog W = .ok (.bool (decide (k = m) && decide (a = c) && decide (b = d))) W := by
  have hS : Try.prog.underlying 55 = some (.struct (Try.prog.fieldsOf 55)) := by kernel_rfl
  have hp : Try.prog.stoodInHeld 55 = false := by kernel_rfl
  have u0 := Try.underlying3
  have ag0 := Try.isAgg3
  have sz0 := Try.sizeOf3
  have u1 := Try.underlying9
  have ag1 := Try.isAgg9
  have sz1 := Try.sizeOf9
  rw [run_eql_struct, show (10000 : Nat) = 9999 + 1 from rfl, run_equalIn_agg W 9999 55 _ _ hS hp]
  simp only [Program.fieldsOf, Try.underlying55]
  go_simp
  by_cases h0 : k = m <;> by_cases h1 : a = c <;> by_cases h2 : b = d <;> simp [h0, h1, h2]
set_option maxRecDepth 100000 in
theorem neq_chg (k m : Int) (a b c d : K) (W : World) : (binOp .neq 55 (.agg #[.int .i64 k, .string a, .string b]) (.agg #[.int .i64 m, .string c, .string d])).run Try.prog W = .ok (.bool (!(decide (k = m) && decide (a = c) && decide (b = d)))) W := by
  have h := eql_chg k m a b c d W
  rw [run_eql_struct] at h
  rw [run_neq_struct]
  cases hr : (Op.equalIn 10000 55 (.agg #[.int .i64 k, .string a, .string b]) (.agg #[.int .i64 m, .string c, .string d])).run Try.prog W with
  | ok x w' => rw [hr] at h; simp only [Result.andThen] at h ⊢; injection h with h1 h2; subst h2; injection h1 with h1; rw [h1]
  | halt x w' => rw [hr] at h; simp [Result.andThen] at h

set_option maxHeartbeats 2000000 in
set_option maxRecDepth 100000 in
theorem chgs_any (a b : List Chg) (va vb : Value) (w : World) (hva : RdC w w.heap.size va a) (hvb : RdC w w.heap.size vb b) (hla : a.length < 4611686018427387904) (_hlb : b.length < 4611686018427387904) :
    Calls Try.prog 17 #[va, vb] w fun e w' => e = .returned (.bool (decide (a = b))) ∧ Below w.heap.size w w' := by
  obtain ⟨A1, c1, rfl, hc1, hia⟩ := hva.at
  obtain ⟨A2, c2, rfl, hc2, hib⟩ := hvb.at
  obtain ⟨D, hD⟩ : ∃ D, D = decide (a = b) := ⟨_, rfl⟩
  rw [← hD]
  have HD := Lib.hid hD; clear hD
  clear hva hvb
  by_cases hlen : a.length = b.length
  · have HA := Lib.hid hia; clear hia
    have HB := Lib.hid hib; clear hib
    have HL := Lib.hid hlen
    rw [← hlen]
    rw [← hlen] at hc2
    clear hlen
    obtain ⟨g, hg⟩ : ∃ g, g = w.heap.size := ⟨_, rfl⟩
    have HG := Lib.hid hg; clear hg
    go_enter Try.func17, Try.ntmps17
    go_wp2_with fail
    go_loopw [5] (fun iv wr => ∃ j : Nat, j ≤ a.length ∧ iv = .int .i64 j ∧ Below g w wr ∧ ∀ k (h1 : k < a.length) (h2 : k < b.length), k < j → a[k] = b[k]) (fun iv _ => a.length - (intOf iv).toNat)
    case atStart => exact ⟨0, Nat.zero_le _, rfl, Below.refl _ _, fun k _ _ h => by omega⟩
    case round =>
      obtain ⟨j, hj, rfl, hbw, hall⟩ := hrel
      have HBW := Lib.hid hbw; clear hbw
      have HALL := Lib.hid hall; clear hall
      by_cases hlt : j < a.length
      · have hlt2 : j < b.length := by rw [← HL.out]; exact hlt
        obtain ⟨b1, o1, rfl, hb1, x0, x1, x2⟩ := HA.out j hlt
        obtain ⟨b2, o2, rfl, hb2, y0, y1, y2⟩ := HB.out j hlt2
        have hbd : Below w.heap.size w wr.drew := by have h := HBW.out.drew; rwa [HG.out] at h
        have hx2 : ∀ W, Below wr.drew.heap.size wr.drew W → W.cell? ⟨b1, o1 + j * 3, none⟩ = some (.int .i64 a[j].kind) ∧ W.cell? ⟨b1, o1 + j * 3 + 1, none⟩ = some (.string a[j].key) ∧ W.cell? ⟨b1, o1 + j * 3 + 2, none⟩ = some (.string a[j].val) := fun W hW => ⟨((hbd.trans (hW.mono hbd.size)).cell (p := ⟨_, _, none⟩) hb1).trans x0, ((hbd.trans (hW.mono hbd.size)).cell (p := ⟨_, _, none⟩) hb1).trans x1, ((hbd.trans (hW.mono hbd.size)).cell (p := ⟨_, _, none⟩) hb1).trans x2⟩
        have hy2 : ∀ W, Below wr.drew.heap.size wr.drew W → W.cell? ⟨b2, o2 + j * 3, none⟩ = some (.int .i64 b[j].kind) ∧ W.cell? ⟨b2, o2 + j * 3 + 1, none⟩ = some (.string b[j].key) ∧ W.cell? ⟨b2, o2 + j * 3 + 2, none⟩ = some (.string b[j].val) := fun W hW => ⟨((hbd.trans (hW.mono hbd.size)).cell (p := ⟨_, _, none⟩) hb2).trans y0, ((hbd.trans (hW.mono hbd.size)).cell (p := ⟨_, _, none⟩) hb2).trans y1, ((hbd.trans (hW.mono hbd.size)).cell (p := ⟨_, _, none⟩) hb2).trans y2⟩
        have hne : a[j] ≠ b[j] → D = false := fun h => by rw [HD.out]; exact decide_eq_false fun e => h (by subst e; rfl)
        have heq : a[j] = b[j] → ∀ k (h1 : k < a.length) (h2 : k < b.length), k < j + 1 → a[k] = b[k] := fun h k h1 h2 hk => by
          rcases Nat.lt_or_ge k j with h' | h'
          · exact HALL.out k h1 h2 h'
          · obtain rfl : k = j := by omega
            exact h
        clear x0 x1 x2 y0 y1 y2
        generalize a[j] = x at hx2 hne heq
        generalize b[j] = y at hy2 hne heq
        have HX := Lib.hid hx2
        have HY := Lib.hid hy2
        have HNE := Lib.hid hne
        have HEQ := Lib.hid heq
        have hj0 : (0 : Int) ≤ (j : Int) := by omega
        have hj1 : (j : Int) < (a.length : Int) := by omega
        have HBD := Lib.hid hbd
        clear hx2 hy2 hne heq hbd hlt2
        by_cases hxy : x = y
        · have HN := Lib.hid (show ∀ W : World, (binOp .neq 55 (.agg #[.int .i64 x.kind, .string x.key, .string x.val]) (.agg #[.int .i64 y.kind, .string y.key, .string y.val])).run Try.prog W = .ok (.bool false) W from fun W => by rw [neq_chg]; subst hxy; simp)
          go_wp2_with fail
          refine wp_region_planB [(true, 0), (true, 1), (true, 2), (true, 3), (true, 4), (true, 5), (true, 6), (true, 7), (true, 8)] (by kernel_rfl) (by kernel_rfl) (fun _ _ d _ _ h => by cases d <;> exact h) ?_
          repeat (refine PlanB.take (v := ?_) rfl rfl ?_ ?_; rotate_left; (focus (intro W hW; obtain ⟨k0, k1, k2⟩ := HX.out W hW; obtain ⟨j0, j1, j2⟩ := HY.out W hW; have kn := HN.out W; have kg := chg_guard; go_simp; (try with_reducible rfl); done)); (try simp only [Act.put, List.setIfInBounds_toArray, List.set_cons_zero, List.set_cons_succ]))
          simp only [PlanB]
          go_wp2_with fail
          go_roundw
          case rel => exact ⟨j + 1, by omega, by go_num, HBW.out.drew, HEQ.out hxy⟩
          case measure => simp [intOf]; omega
        · have hd3 : ¬ x.kind = y.kind ∨ (x.kind = y.kind ∧ ¬ x.key = y.key) ∨ (x.kind = y.kind ∧ x.key = y.key ∧ ¬ x.val = y.val) := by
            by_cases h1 : x.kind = y.kind
            · by_cases h2 : x.key = y.key
              · exact .inr (.inr ⟨h1, h2, fun h3 => hxy (by cases x; cases y; simp only at h1 h2 h3; subst h1 h2 h3; rfl)⟩)
              · exact .inr (.inl ⟨h1, h2⟩)
            · exact .inl h1
          rcases hd3 with h1 | ⟨h1, h2⟩ | ⟨h1, h2, h3⟩
          all_goals
            go_wp2_with fail
            refine wp_region_planB [(true, 0), (true, 1), (true, 2), (true, 3), (true, 4), (true, 5), (true, 6), (true, 7), (true, 8)] (by kernel_rfl) (by kernel_rfl) (fun _ _ d _ _ h => by cases d <;> exact h) ?_
            repeat (refine PlanB.take (v := ?_) rfl rfl ?_ ?_; rotate_left; (focus (intro W hW; obtain ⟨k0, k1, k2⟩ := HX.out W hW; obtain ⟨j0, j1, j2⟩ := HY.out W hW; have kg := chg_guard; go_simp; (try with_reducible rfl); done)); (try simp only [Act.put, List.setIfInBounds_toArray, List.set_cons_zero, List.set_cons_succ]))
            simp only [PlanB]
            go_wp2_with fail
            go_ret
            exact ⟨by rw [HNE.out hxy]; rfl, HBD.out⟩
      · go_wp2_with fail
        go_ret
        refine ⟨?_, by have h := HBW.out; rwa [HG.out] at h⟩
        have : D = true := by
          rw [HD.out]
          refine decide_eq_true (List.ext_getElem HL.out fun k h1 h2 => HALL.out k h1 h2 (by omega))
        rw [this]; rfl
  · have hd : D = false := by rw [HD.out]; exact decide_eq_false fun e => hlen (by rw [e])
    have HD2 := Lib.hid hd
    have hli : ¬ ((a.length : Int) = (b.length : Int)) := by omega
    clear hd hia hib
    go_enter Try.func17, Try.ntmps17
    go_wp2_with fail
    go_ret
    exact ⟨by rw [HD2.out]; rfl, Below.refl _ _⟩
end Go.Proofs.Ytmakgjokadcfjaa
namespace Go.Proofs.Ytmakgjokadcfjaa
open Go.RowKit

section
variable {α : Type} {enc : α → List Value} {k : Nat} {P : Program}
theorem run_append_new (w : World) (base : Nat) (t ty e : TypeId) (i : TypeInfo) (z : Value) (size bytes : Nat) (ht : P.underlying t = some (.slice e)) (hi : P.info? e = some i) (hz : i.zero = some z)
    (hsize : i.size = size) (hby : i.bytes = bytes) (hzs : z.cells.size = size) (hsz : 0 < size)
    (v : Value) (n : Nat) (xs : List Value) (hown : w.ownsRow base e size v n xs)
    (a : Addr) (m c : Nat) (news : List Value) (hl : news.length = m * size) (hnews : ∀ j u, news[j]? = some u → w.cell? (a.add j) = some u) (h1 : ∀ u ∈ news, u.oneCell' = true)
    (h63 : n + m ≤ maxLen) (hbytes : ((n + m) + (n + m) / 4 + 192) * bytes ≤ 281474976710656) (v' : Value) (w' : World) (hrun : (Builtin.append_ #[t, t] ty #[v, .slice (some a) m c]).run P w = .ok v' w') : NewRow w v.ownBlock v'.ownBlock := by
  subst hsize
  subst hby
  have hsmall : n + m ≤ 9223372036854775807 := by simp only [maxLen] at h63; omega
  rcases hown.2 with ⟨rfl, rfl⟩ | ⟨g, cap, cur, rfl, hbg, hg, hnc, hcm, hcs, htake⟩
  · by_cases hm : m = 0
    · subst hm
      have hn : news = [] := List.eq_nil_of_length_eq_zero (by simpa using hl)
      subst hn
      have hr : (Builtin.append_ #[t, t] ty #[.slice none 0 0, .slice (some a) 0 c]).run P w = .ok (.slice none 0 0) w := by
        simp [Builtin.append_, run_underlying ht, sizeOf, typeInfo, hi, Builtin.lenOf, Builtin.firstCells, loadCells, loadCellsFrom]
      rw [hr] at hrun
      injection hrun with h1 h2
      subst h1
      exact NewRow.refl _ _
    · have hr := run_append_nil (P := P) w t ty e i z ht hi hz a m c news hl hnews (by omega) (by omega) (by have hb := hbytes; simp only [Nat.zero_add] at hb; exact Nat.le_trans (Nat.mul_le_mul_right _ (by omega)) hb)
      rw [hr] at hrun
      injection hrun with h1 h2
      subst h1
      intro g hg
      injection hg with hg
      exact .inr (by simp only at hg; omega)
  · by_cases hroom : n + m ≤ cap
    · have hfit : n * i.size + news.length ≤ cur.size := by rw [hl, hcs, ← Nat.add_mul]; exact Nat.mul_le_mul_right _ hroom
      have hr := run_append_room (P := P) w t ty e i ht hi g n cap cur hg a m c news hl hnews h1 hroom hfit
      rw [hr] at hrun
      injection hrun with h1 h2
      subst h1
      exact fun _ h => .inl h
    · have holds : ∀ j u, xs[j]? = some u → w.cell? ((⟨g, 0, none⟩ : Addr).add j) = some u := hown.cells (g := g) rfl
      have hr := run_append_grow (P := P) w t ty e i z ht hi hz ⟨g, 0, none⟩ n cap xs hown.1 holds a m c news hl hnews (by omega) (by omega) (growslice_fits_wide (by omega) hbytes)
      rw [hr] at hrun
      injection hrun with h1 h2
      subst h1
      intro g2 hg2
      injection hg2 with hg2
      exact .inr (by simp only at hg2; omega)

/-- append to a slice of the call's own; its block is the old one or a new one -/
theorem wp_addAnyN (t e : TypeId) (bytes : Nat) (i0 : TypeInfo) (z : Value) (ht : P.underlying t = some (.slice e)) (hi : P.info? e = some i0) (hz0 : i0.zero = some z) (hz1 : i0.size = k) (hz2 : i0.bytes = bytes) (hzs : z.cells.size = k) (hk0 : 0 < k)
    (hk : ∀ x, (enc x).length = k) (hone : ∀ x, ∀ u ∈ enc x, u.oneCell' = true) {o : Oper} {a : Act} {K : Act → World → Prop} {Q : Exit → Act → World → Prop} {w : World} (s x : Operand)
    (ho : o.op = .call { callee := .builtin .append, args := #[s, x], argTypes := #[t, t] })
    (base : Nat) (v : Value) (l : List α) (hs : a.eval s = v) (hown : Own enc k e w base v l) (B : Nat) (v2 : Value) (p : List α) (hx : a.eval x = v2) (hp : Rd enc k w B v2 p)
    (h63 : l.length + p.length ≤ maxLen) (hbytes : ((l.length + p.length) + (l.length + p.length) / 4 + 192) * bytes ≤ 281474976710656) (hbase : base ≤ w.heap.size)
    (h : ∀ A' c' w', Own enc k e w' base (.slice A' (l ++ p).length c') (l ++ p) → w.grownBy w' v.ownBlock → NewRow w v.ownBlock (Value.ownBlock (.slice A' (l ++ p).length c')) → K (a.put o.dst (.slice A' (l ++ p).length c')) w') : o.wp P a w K Q := by
  obtain ⟨A, c, rfl, hc, hi2⟩ := hp
  have main : ∃ v' w', (Builtin.append_ #[t, t] o.type #[v, .slice A p.length c]).run P w = .ok v' w' ∧ w'.ownsRow base e k v' (l ++ p).length (flatG enc (l ++ p)) ∧ w.grownBy w' v.ownBlock ∧ NewRow w v.ownBlock v'.ownBlock := by
    cases A with
    | none =>
      have hp0 : p = [] := by
        cases p with
        | nil => rfl
        | cons y r =>
          obtain ⟨b, o', hA, _⟩ := hi2 0 (by simp)
          cases hA
      subst hp0
      refine ⟨v, w, ?_, by rw [List.append_nil]; exact hown, ⟨rfl, rfl, rfl, Nat.le_refl _, fun _ _ _ => rfl⟩, NewRow.refl _ _⟩
      rcases hown.2 with ⟨rfl, _⟩ | ⟨g, cap, cur, rfl, _, _, hnc, _⟩
      · simp [Builtin.append_, run_underlying ht, sizeOf, typeInfo, hi, Builtin.lenOf, Builtin.firstCells]
      · simp [Builtin.append_, run_underlying ht, sizeOf, typeInfo, hi, Builtin.lenOf, Builtin.firstCells, hnc, storeCells]
    | some ad =>
      have hcells : ∀ j u, (flatG enc p)[j]? = some u → w.cell? (ad.add j) = some u := by
        intro j u hu
        have hjl : j < p.length * k := by
          rcases Nat.lt_or_ge j (p.length * k) with h' | h'
          · exact h'
          · rw [List.getElem?_eq_none (by rw [flatG_length hk]; exact h')] at hu; cases hu
        have hil : j / k < p.length := by rw [Nat.div_lt_iff_lt_mul hk0]; exact hjl
        obtain ⟨b, o', hA, _, h1⟩ := hi2 (j / k) hil
        have hm : j % k < k := Nat.mod_lt _ hk0
        have e1 : j / k * k + j % k = j := Nat.div_add_mod' j k
        have hg := flatG_get hk p (j / k) hil (j % k) hm
        rw [e1, hu] at hg
        have := h1 (j % k) u hg.symm
        injection hA with hA
        rw [hA]
        have hadd : (⟨b, o', none⟩ : Addr).add j = ⟨b, o' + j, none⟩ := by unfold Addr.add; split <;> simp_all
        rw [hadd, ← this]
        congr 2
        omega
      obtain ⟨v', w', hrun, h2, h3, _⟩ := run_append_own_wide (P := P) w base t o.type e i0 z k bytes ht hi hz0 hz1 hz2 hzs hk0 v l.length (flatG enc l) hown ad p.length c (flatG enc p) (flatG_length hk p) hcells
        (fun u hu => by obtain ⟨y, _, hy⟩ := List.mem_flatMap.1 hu; exact hone y u hy) h63 hbytes hbase
      have h9 := run_append_new (P := P) w base t o.type e i0 z k bytes ht hi hz0 hz1 hz2 hzs hk0 v l.length (flatG enc l) hown ad p.length c (flatG enc p) (flatG_length hk p) hcells
        (fun u hu => by obtain ⟨y, _, hy⟩ := List.mem_flatMap.1 hu; exact hone y u hy) h63 hbytes v' w' hrun
      exact ⟨v', w', hrun, by rw [List.length_append, flatG_append]; exact h2, h3, h9⟩
  obtain ⟨v', w', hrun, h2, h3, h9⟩ := main
  have h4 : Own enc k e w' base v' (l ++ p) := h2
  have hv : ∃ A' c', v' = .slice A' (l ++ p).length c' := by
    rcases h4.form with ⟨hv, h0⟩ | ⟨g, cap, hv, _⟩
    · exact ⟨none, 0, by rw [h0]; exact hv⟩
    · exact ⟨_, _, hv⟩
  obtain ⟨A', c', rfl⟩ := hv
  unfold Oper.wp execOp
  simp only [ho, resolve, invoke, builtin, Sem.run_bind, Sem.run_pure, Result.andThen_ok, List.map_toArray, List.map_cons, List.map_nil, hs, hx, hrun]
  exact h A' c' w' h4 h3 h9

end
end Go.Proofs.Ytmakgjokadcfjaa

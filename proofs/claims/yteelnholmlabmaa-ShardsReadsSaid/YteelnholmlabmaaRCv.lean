/- What the reference's Carve answers. -/
import Derived.Test.YteelnholmlabmaaTr
import Derived.Test.YteelnholmlabmaaMid
namespace Go.Proofs.Yteelnholmlabmaa
open Go.RowKit
attribute [local go_sem] less_eq same_eq le_eq ge_eq gt_eq

set_option maxHeartbeats 8000000 in
set_option maxRecDepth 100000 in
theorem rcarve_any (b : List K) (t : Txn) (hft : fitT t) (vb v1 v2 : Value) (w : World) (hb : RdK w w.heap.size vb b) (hv1 : RdP w w.heap.size v1 t.reads) (hv2 : RdC w w.heap.size v2 t.chgs) (hbl : b.length ≤ 140737488351232) :
    Calls Try.prog 20 #[vb, tval t v1 v2] w fun e w' => ∃ v' q, e = .returned (.tuple #[v', .int .i64 q]) ∧ CarveIs w' v' q b t ∧ Below w.heap.size w w' := by
  obtain ⟨W1, hW1⟩ : ∃ W1, W1 = w.alloc (.cells #[.int .i64 t.read, v1, v2] 45) := ⟨_, rfl⟩
  have hB1 : Below w.heap.size w W1 := by rw [hW1]; exact (Below.refl _ w).alloc (Nat.le_refl _) _
  have hs1 : W1.heap.size = w.heap.size + 1 := by rw [hW1]; simp
  have hx1 : Whole W1 w.heap.size 45 [.int .i64 t.read, v1, v2] := by rw [hW1]; exact Whole.fresh w _ [_, _, _]
  have hbK := fun W (h : Below W1.heap.size W1 W) => (show RdK W W.heap.size vb b from (hb.below (hB1.trans (h.mono (by omega))) (Nat.le_refl _)).mono (by have := h.size; omega))
  have hvP := fun W (h : Below W1.heap.size W1 W) => (show RdP W W.heap.size v1 t.reads from (hv1.below (hB1.trans (h.mono (by omega))) (Nat.le_refl _)).mono (by have := h.size; omega))
  have hvC := fun W (h : Below W1.heap.size W1 W) => (show RdC W W.heap.size v2 t.chgs from (hv2.below (hB1.trans (h.mono (by omega))) (Nat.le_refl _)).mono (by have := h.size; omega))
  have HS := Lib.hid (rsoundB_any b vb W1 (hbK W1 (Below.refl _ _)))
  have HT := Lib.hid (fun W (h : Below W1.heap.size W1 W) => rsoundT_any t hft v1 v2 W (hvP W h) (hvC W h))
  have HPC := Lib.hid (fun n (hn : n ≤ b.length) W (h : Below W1.heap.size W1 W) => rpieceB_any b n vb W (hbK W h) hn hbl)
  have HX := Lib.hid (fun W (h : Below W1.heap.size W1 W) => hx1.below h hx1.size)
  have HKB := Lib.hid hbK
  have HKP := Lib.hid hvP
  have HKC := Lib.hid hvC
  have HB1 := Lib.hid hB1
  obtain ⟨Ab, cb, rfl, _⟩ := hb.at
  obtain ⟨A1, c1, rfl, _⟩ := hv1.at
  obtain ⟨A2, c2, rfl, _⟩ := hv2.at
  clear hb hv1 hv2 hbK hvP hvC hx1 hB1
  obtain ⟨hf1, hf2, hf3, hf4⟩ := hft
  by_cases hok : okB b
  case neg =>
    have hd : decide (okB b) = false := decide_eq_false hok
    rw [hd] at HS
    have HOK := Lib.hid hok; clear hok hd
    unfold tval at HT ⊢
    go_enter Try.func20, Try.ntmps20
    go_wp2_with fail
    rw [← hW1]
    refine HS.out.mono ?_
    rintro e w1 ⟨rfl, hb1⟩
    have HB2 := Lib.hid (HB1.out.trans (hb1.mono (by omega))); clear hb1
    go_wp2_with fail
    exact bodyPost_ret (v := .tuple #[.slice none 0 0, .int .i64 2]) (by simp [results, Try.results20, go_sem]) rfl ⟨_, _, rfl, .inl ⟨fun h => HOK.out h.1, rfl, none, 0, rfl⟩, HB2.out⟩
  have hd : decide (okB b) = true := decide_eq_true hok
  rw [hd] at HS
  have hb7 := hok.1
  have HOK := Lib.hid hok; clear hok hd
  by_cases hst : soundT t
  case neg =>
    have hd : decide (soundT t) = false := decide_eq_false hst
    rw [hd] at HT
    have HST := Lib.hid hst; clear hst hd
    unfold tval at HT ⊢
    go_enter Try.func20, Try.ntmps20
    go_wp2_with fail
    rw [← hW1]
    refine HS.out.mono ?_
    rintro e w1 ⟨rfl, hb1⟩
    have hx := HX.out w1 hb1
    have k0 := hx.cell 0 _ rfl
    have k1 := hx.cell 1 _ rfl
    have k2 := hx.cell 2 _ rfl
    have HTT := Lib.hid (HT.out w1 hb1)
    have hbs := hb1.size
    have HB2 := Lib.hid (HB1.out.trans (hb1.mono (by omega))); clear hb1 hx
    go_wp2_with fail
    refine HTT.out.mono ?_
    rintro e w2 ⟨rfl, hb2⟩
    have HB3 := Lib.hid (HB2.out.trans (hb2.mono (by omega))); clear hb2 k0 k1 k2
    go_wp2_with fail
    exact bodyPost_ret (v := .tuple #[.slice none 0 0, .int .i64 2]) (by simp [results, Try.results20, go_sem]) rfl ⟨_, _, rfl, .inl ⟨fun h => HST.out h.2, rfl, none, 0, rfl⟩, HB3.out⟩
  have hd : decide (soundT t) = true := decide_eq_true hst
  rw [hd] at HT
  have hst2 := hst
  obtain ⟨hr0, hrl, _, hcl, _⟩ := hst2
  have HST := Lib.hid hst; clear hst hd
  have HCUT := Lib.hid (fun s W (h : Below W1.heap.size W1 W) => rcut_any s t.chgs hf4 (.slice A2 t.chgs.length c2) W (HKC.out W h) (by omega))
  have HRS := Lib.hid (fun n => carvesOf_succ b t n)
  obtain ⟨tr, trs, tcs⟩ := t
  unfold carveT at HRS
  unfold tval at HT ⊢
  simp only at hf1 hf2 hf3 hf4 hr0 hrl hcl HT HX HKP HKC HCUT HRS hW1 ⊢
  go_enter Try.func20, Try.ntmps20
  go_wp2_with fail
  rw [← hW1]
  refine HS.out.mono ?_
  rintro e w1 ⟨rfl, hb1⟩
  have hx := HX.out w1 hb1
  have k0 := hx.cell 0 _ rfl
  have k1 := hx.cell 1 _ rfl
  have k2 := hx.cell 2 _ rfl
  have HTT := Lib.hid (HT.out w1 hb1)
  have hbs := hb1.size
  have HB2 := Lib.hid hb1; clear hb1 hx hW1
  go_wp2_with fail
  refine HTT.out.mono ?_
  rintro e w2 ⟨rfl, hb2⟩
  have hs2 := hb2.size
  have hb2' : Below W1.heap.size W1 w2 := HB2.out.trans (hb2.mono hbs)
  have HO0 := Lib.hid (Own.empty (enc := encTr) (k := 3) (e := 45) w2 W1.heap.size (by omega))
  have HB3 := Lib.hid (hb2'.alloc (by omega) (.cells #[] 45)); clear hb2 hb2' k0 k1 k2 HTT HT HB2
  go_wp2_with fail
  go_loopw [6, 7] (fun ov iv wr => ∃ (n : Nat) (A : Option Addr) (c : Nat) (rows : List Tr), n ≤ b.length + 1 ∧ iv = .int .i64 n ∧ ov = .slice A n c ∧ Hid (rows.length = n) ∧ Hid (OwnTr wr W1.heap.size (.slice A n c) rows) ∧ Hid (∀ x ∈ rows, RdG cellsS 2 wr wr.heap.size (fun i => Value.ownBlock (.slice A n c) = some i) x.v1 x.reads ∧ RdG encC 3 wr wr.heap.size (fun i => Value.ownBlock (.slice A n c) = some i) x.v2 x.chgs) ∧ Hid (rows.map Tr.t = carvesOf b ⟨tr, trs, tcs⟩ n) ∧ Hid (Below W1.heap.size W1 wr)) (fun _ iv _ => b.length + 1 - (intOf iv).toNat)
  case atStart => exact ⟨0, _, _, [], Nat.zero_le _, rfl, rfl, Lib.hid rfl, HO0, Lib.hid (by simp), Lib.hid rfl, HB3⟩
  case round =>
    obtain ⟨n, A, c, rows, hn, rfl, rfl, HRL, HO, HR, HM, HB⟩ := hrel
    have hgr : W1.heap.size ≤ wr.heap.size := HB.out.size
    by_cases hlt : n ≤ b.length
    · clear hs1
      have hle : (n : Int) ≤ (b.length : Int) := by omega
      have hpc := HPC.out n hlt
      have hrs := HRS.out n
      generalize pieceB b n = s at hpc hrs
      obtain ⟨s1, s2⟩ := s
      simp only at hpc
      have HP := Lib.hid hpc; clear hpc
      have HRS2 := Lib.hid hrs; clear hrs
      have hxr := HX.out wr HB.out
      have hW1 := HB.out
      have hB0 := hgr
      go_wp2_with fail
      refine wp_region_mid (fun a0 a' w' => ∃ X rA rc rl, a' = (((((((((a0.put (some 26) (.pointer (some ⟨w.heap.size, 0, none⟩))).put (some 27) (.int .i64 tr)).put (some 28) (.slice Ab b.length cb)).put (some 29) (.int .i64 n)).put (some 30) (.agg #[.string s1, .string s2])).put (some 31) (.pointer (some ⟨w.heap.size, 2, none⟩))).put (some 32) (.slice A2 tcs.length c2)).put (some 33) (.slice rA rl.length rc)).put (some 34) (.agg #[.int .i64 tr, .slice none 0 0, .slice rA rl.length rc])).put (some 8) (.pointer (some ⟨X, 0, none⟩)) ∧ rl = cutP (s1, s2) tcs ∧ Below wr.heap.size wr w' ∧ Whole w' X 45 [.int .i64 tr, .slice none 0 0, .slice rA rl.length rc] ∧ OwnC w' wr.heap.size (.slice rA rl.length rc) rl ∧ wr.heap.size ≤ X) ?r7 ?k7
      case r7 =>
        obtain ⟨W0, hW0⟩ : ∃ W0, W0 = wr := ⟨_, rfl⟩
        obtain ⟨B0, hB0e⟩ : ∃ B0, B0 = wr.heap.size := ⟨_, rfl⟩
        rw [← hW0] at hB0e hB0 hW1 ⊢
        rw [← hB0e] at hB0 ⊢
        have hB00 : B0 ≤ W0.heap.size := by omega
        obtain ⟨wd, hwd⟩ : ∃ wd, wd = W0.drew := ⟨_, rfl⟩
        have hSwd : Below B0 W0 wd := by rw [hwd, hB0e]; exact (Below.refl _ W0).drew
        clear HO HR HM HRL HRS2
        refine wp_region_planT (fun W => Below B0 W0 W) (.take 0 (.take 1 (.take 2 (.take 3 (.take 5 (.take 6 (.fork 4 (.fork 7 (.take 8 (.step 9 (.step 10 .done))) 9 (.step 7 (.take 8 (.step 10 .done)))) 9 (.step 4 (.step 7 (.take 8 (.step 10 .done))))))))))) (by kernel_rfl) (by kernel_rfl) (fun _ _ _ _ _ h => by cases h.1) (by rw [← hwd]; exact hSwd) ?_
        rw [← hwd]
        clear hwd
        iterate 6 (refine PlanT.takeI (v := ?_) rfl rfl ?_ ?_; rotate_left; (focus (intro W hW; have hx := HX.out W (hW1.trans (hW.mono hB0)); have m0 := hx.cell 0 _ rfl; have m2 := hx.cell 2 _ rfl; go_simp; (try with_reducible rfl); done)); (try simp only [Act.put, List.setIfInBounds_toArray, List.set_cons_zero, List.set_cons_succ]))
        refine ⟨?_, ?_⟩
        · skip
          refine wpOp_stepT rfl rfl (fun Kk hK => ?_)
          go_simp
          refine (HP.out wd (hW1.trans (hSwd.mono hB0))).mono ?_
          rintro e wa ⟨rfl, hbwa⟩
          have hSwa : Below B0 W0 wa := hSwd.trans (hbwa.mono (Nat.le_trans hB00 hSwd.size))
          refine hK.out _ _ hSwa ?_
          clear hK Kk
          (try simp only [Act.put, List.setIfInBounds_toArray, List.set_cons_zero, List.set_cons_succ])
          refine ⟨?_, ?_⟩
          · skip
            refine wpOp_stepT rfl rfl (fun Kk hK => ?_)
            go_simp
            have hcut := HCUT.out (s1, s2) wa (hW1.trans (hSwa.mono hB0))
            unfold spv at hcut
            refine hcut.mono ?_
            rintro e wb ⟨vc, rfl, ho, hbwb⟩
            obtain ⟨r, hrl2, hrv⟩ := OwnC.form ho
            obtain ⟨rA, rc, rl⟩ := r
            unfold Rw.v at hrv
            simp only at hrv hrl2
            subst hrv
            clear hcut
            replace ho : OwnC wb B0 _ _ := ho.lower (Nat.le_trans hB00 hSwa.size)
            rw [← hrl2] at ho
            have HRE := Lib.hid hrl2
            clear hrl2
            have hSwb : Below B0 W0 wb := hSwa.trans (hbwb.mono (Nat.le_trans hB00 hSwa.size))
            refine hK.out _ _ hSwb ?_
            clear hK Kk
            (try simp only [Act.put, List.setIfInBounds_toArray, List.set_cons_zero, List.set_cons_succ])
            iterate 1 (refine PlanT.takeI (v := ?_) rfl rfl ?_ ?_; rotate_left; (focus (intro W hW; go_simp; (try with_reducible rfl); done)); (try simp only [Act.put, List.setIfInBounds_toArray, List.set_cons_zero, List.set_cons_succ]))
            refine wpOp_stepT rfl rfl (fun Kk hK => ?_)
            go_simp
            obtain ⟨wc, hE⟩ : ∃ V, V = wb.alloc (.cells #[.int .i64 0, .slice none 0 0, .slice none 0 0] 45) := ⟨_, rfl⟩
            have hSwc : Below B0 W0 wc := by rw [hE]; exact hSwb.alloc (Nat.le_trans hB00 hSwb.size) _
            have hX : Whole wc wb.heap.size 45 [.int .i64 0, .slice none 0 0, .slice none 0 0] := by rw [hE]; exact Whole.fresh wb _ [.int .i64 0, .slice none 0 0, .slice none 0 0]
            have hXge : B0 ≤ wb.heap.size := Nat.le_trans hB00 hSwb.size
            replace ho : OwnC wc B0 (.slice rA rl.length rc) rl := by rw [hE]; exact ho.alloc _
            rw [← hE]
            obtain ⟨X, hXe⟩ : ∃ X, X = wb.heap.size := ⟨_, rfl⟩
            rw [← hXe] at hX hXge ⊢
            clear hE hXe
            refine hK.out _ _ hSwc ?_
            clear hK Kk
            (try simp only [Act.put, List.setIfInBounds_toArray, List.set_cons_zero, List.set_cons_succ])
            refine wpOp_stepT rfl rfl (fun Kk hK => ?_)
            have y0 := hX.cell 0 _ rfl
            have f0 := hX.frozen 0
            have hX0 := hX.put 0 (.int .i64 tr)
            have y1 := hX0.cell 1 _ rfl
            have f1 := hX0.frozen 1
            have hX1 := hX0.put 1 (.slice none 0 0)
            have y2 := hX1.cell 2 _ rfl
            have f2 := hX1.frozen 2
            have hXl := hX1.put 2 (.slice rA rl.length rc)
            have hSl : Below B0 W0 (((wc.setCell ⟨X, 0, none⟩ (.int .i64 tr)).setCell ⟨X, 1, none⟩ (.slice none 0 0)).setCell ⟨X, 2, none⟩ (.slice rA rl.length rc)) := (((hSwc.setCell (p := ⟨X, 0, none⟩) hXge (.int .i64 tr)).setCell (p := ⟨X, 1, none⟩) hXge (.slice none 0 0)).setCell (p := ⟨X, 2, none⟩) hXge (.slice rA rl.length rc))
            have hol : OwnC (((wc.setCell ⟨X, 0, none⟩ (.int .i64 tr)).setCell ⟨X, 1, none⟩ (.slice none 0 0)).setCell ⟨X, 2, none⟩ (.slice rA rl.length rc)) B0 (.slice rA rl.length rc) rl := ((ho.put hX (by decide) 0 (.int .i64 tr)).put hX0 (by decide) 1 (.slice none 0 0)).put hX1 (by decide) 2 (.slice rA rl.length rc)
            go_simp
            refine hK.out _ _ hSl ?_
            clear hK Kk
            (try simp only [Act.put, List.setIfInBounds_toArray, List.set_cons_zero, List.set_cons_succ])
            simp only [PlanT]
            simp only [List.set] at hXl
            exact ⟨(by first | rfl | trivial), X, rA, rc, rl, (by first | rfl | (simp only [Act.put, List.setIfInBounds_toArray, List.set_cons_zero, List.set_cons_succ])), HRE.out, hSl, hXl, hol, hXge⟩
          · skip
            refine wpOp_stepT rfl rfl (fun Kk hK => ?_)
            go_simp
            obtain ⟨wb, hE⟩ : ∃ V, V = wa.alloc (.cells #[.int .i64 0, .slice none 0 0, .slice none 0 0] 45) := ⟨_, rfl⟩
            have hSwb : Below B0 W0 wb := by rw [hE]; exact hSwa.alloc (Nat.le_trans hB00 hSwa.size) _
            have hX : Whole wb wa.heap.size 45 [.int .i64 0, .slice none 0 0, .slice none 0 0] := by rw [hE]; exact Whole.fresh wa _ [.int .i64 0, .slice none 0 0, .slice none 0 0]
            have hXge : B0 ≤ wa.heap.size := Nat.le_trans hB00 hSwa.size
            rw [← hE]
            obtain ⟨X, hXe⟩ : ∃ X, X = wa.heap.size := ⟨_, rfl⟩
            rw [← hXe] at hX hXge ⊢
            clear hE hXe
            refine hK.out _ _ hSwb ?_
            clear hK Kk
            (try simp only [Act.put, List.setIfInBounds_toArray, List.set_cons_zero, List.set_cons_succ])
            refine wpOp_stepT rfl rfl (fun Kk hK => ?_)
            go_simp
            have hcut := HCUT.out (s1, s2) wb (hW1.trans (hSwb.mono hB0))
            unfold spv at hcut
            refine hcut.mono ?_
            rintro e wc ⟨vc, rfl, ho, hbwc⟩
            obtain ⟨r, hrl2, hrv⟩ := OwnC.form ho
            obtain ⟨rA, rc, rl⟩ := r
            unfold Rw.v at hrv
            simp only at hrv hrl2
            subst hrv
            clear hcut
            replace ho : OwnC wc B0 _ _ := ho.lower (Nat.le_trans hB00 hSwb.size)
            rw [← hrl2] at ho
            have HRE := Lib.hid hrl2
            clear hrl2
            have hSwc : Below B0 W0 wc := hSwb.trans (hbwc.mono (Nat.le_trans hB00 hSwb.size))
            have hX := hX.below hbwc hX.size
            refine hK.out _ _ hSwc ?_
            clear hK Kk
            (try simp only [Act.put, List.setIfInBounds_toArray, List.set_cons_zero, List.set_cons_succ])
            iterate 1 (refine PlanT.takeI (v := ?_) rfl rfl ?_ ?_; rotate_left; (focus (intro W hW; go_simp; (try with_reducible rfl); done)); (try simp only [Act.put, List.setIfInBounds_toArray, List.set_cons_zero, List.set_cons_succ]))
            refine wpOp_stepT rfl rfl (fun Kk hK => ?_)
            have y0 := hX.cell 0 _ rfl
            have f0 := hX.frozen 0
            have hX0 := hX.put 0 (.int .i64 tr)
            have y1 := hX0.cell 1 _ rfl
            have f1 := hX0.frozen 1
            have hX1 := hX0.put 1 (.slice none 0 0)
            have y2 := hX1.cell 2 _ rfl
            have f2 := hX1.frozen 2
            have hXl := hX1.put 2 (.slice rA rl.length rc)
            have hSl : Below B0 W0 (((wc.setCell ⟨X, 0, none⟩ (.int .i64 tr)).setCell ⟨X, 1, none⟩ (.slice none 0 0)).setCell ⟨X, 2, none⟩ (.slice rA rl.length rc)) := (((hSwc.setCell (p := ⟨X, 0, none⟩) hXge (.int .i64 tr)).setCell (p := ⟨X, 1, none⟩) hXge (.slice none 0 0)).setCell (p := ⟨X, 2, none⟩) hXge (.slice rA rl.length rc))
            have hol : OwnC (((wc.setCell ⟨X, 0, none⟩ (.int .i64 tr)).setCell ⟨X, 1, none⟩ (.slice none 0 0)).setCell ⟨X, 2, none⟩ (.slice rA rl.length rc)) B0 (.slice rA rl.length rc) rl := ((ho.put hX (by decide) 0 (.int .i64 tr)).put hX0 (by decide) 1 (.slice none 0 0)).put hX1 (by decide) 2 (.slice rA rl.length rc)
            go_simp
            refine hK.out _ _ hSl ?_
            clear hK Kk
            (try simp only [Act.put, List.setIfInBounds_toArray, List.set_cons_zero, List.set_cons_succ])
            simp only [PlanT]
            simp only [List.set] at hXl
            exact ⟨(by first | rfl | trivial), X, rA, rc, rl, (by first | rfl | (simp only [Act.put, List.setIfInBounds_toArray, List.set_cons_zero, List.set_cons_succ])), HRE.out, hSl, hXl, hol, hXge⟩
        · skip
          refine wpOp_stepT rfl rfl (fun Kk hK => ?_)
          go_simp
          obtain ⟨wa, hE⟩ : ∃ V, V = wd.alloc (.cells #[.int .i64 0, .slice none 0 0, .slice none 0 0] 45) := ⟨_, rfl⟩
          have hSwa : Below B0 W0 wa := by rw [hE]; exact hSwd.alloc (Nat.le_trans hB00 hSwd.size) _
          have hX : Whole wa wd.heap.size 45 [.int .i64 0, .slice none 0 0, .slice none 0 0] := by rw [hE]; exact Whole.fresh wd _ [.int .i64 0, .slice none 0 0, .slice none 0 0]
          have hXge : B0 ≤ wd.heap.size := Nat.le_trans hB00 hSwd.size
          rw [← hE]
          obtain ⟨X, hXe⟩ : ∃ X, X = wd.heap.size := ⟨_, rfl⟩
          rw [← hXe] at hX hXge ⊢
          clear hE hXe
          refine hK.out _ _ hSwa ?_
          clear hK Kk
          (try simp only [Act.put, List.setIfInBounds_toArray, List.set_cons_zero, List.set_cons_succ])
          refine wpOp_stepT rfl rfl (fun Kk hK => ?_)
          go_simp
          refine (HP.out wa (hW1.trans (hSwa.mono hB0))).mono ?_
          rintro e wb ⟨rfl, hbwb⟩
          have hSwb : Below B0 W0 wb := hSwa.trans (hbwb.mono (Nat.le_trans hB00 hSwa.size))
          have hX := hX.below hbwb hX.size
          refine hK.out _ _ hSwb ?_
          clear hK Kk
          (try simp only [Act.put, List.setIfInBounds_toArray, List.set_cons_zero, List.set_cons_succ])
          refine wpOp_stepT rfl rfl (fun Kk hK => ?_)
          go_simp
          have hcut := HCUT.out (s1, s2) wb (hW1.trans (hSwb.mono hB0))
          unfold spv at hcut
          refine hcut.mono ?_
          rintro e wc ⟨vc, rfl, ho, hbwc⟩
          obtain ⟨r, hrl2, hrv⟩ := OwnC.form ho
          obtain ⟨rA, rc, rl⟩ := r
          unfold Rw.v at hrv
          simp only at hrv hrl2
          subst hrv
          clear hcut
          replace ho : OwnC wc B0 _ _ := ho.lower (Nat.le_trans hB00 hSwb.size)
          rw [← hrl2] at ho
          have HRE := Lib.hid hrl2
          clear hrl2
          have hSwc : Below B0 W0 wc := hSwb.trans (hbwc.mono (Nat.le_trans hB00 hSwb.size))
          have hX := hX.below hbwc hX.size
          refine hK.out _ _ hSwc ?_
          clear hK Kk
          (try simp only [Act.put, List.setIfInBounds_toArray, List.set_cons_zero, List.set_cons_succ])
          iterate 1 (refine PlanT.takeI (v := ?_) rfl rfl ?_ ?_; rotate_left; (focus (intro W hW; go_simp; (try with_reducible rfl); done)); (try simp only [Act.put, List.setIfInBounds_toArray, List.set_cons_zero, List.set_cons_succ]))
          refine wpOp_stepT rfl rfl (fun Kk hK => ?_)
          have y0 := hX.cell 0 _ rfl
          have f0 := hX.frozen 0
          have hX0 := hX.put 0 (.int .i64 tr)
          have y1 := hX0.cell 1 _ rfl
          have f1 := hX0.frozen 1
          have hX1 := hX0.put 1 (.slice none 0 0)
          have y2 := hX1.cell 2 _ rfl
          have f2 := hX1.frozen 2
          have hXl := hX1.put 2 (.slice rA rl.length rc)
          have hSl : Below B0 W0 (((wc.setCell ⟨X, 0, none⟩ (.int .i64 tr)).setCell ⟨X, 1, none⟩ (.slice none 0 0)).setCell ⟨X, 2, none⟩ (.slice rA rl.length rc)) := (((hSwc.setCell (p := ⟨X, 0, none⟩) hXge (.int .i64 tr)).setCell (p := ⟨X, 1, none⟩) hXge (.slice none 0 0)).setCell (p := ⟨X, 2, none⟩) hXge (.slice rA rl.length rc))
          have hol : OwnC (((wc.setCell ⟨X, 0, none⟩ (.int .i64 tr)).setCell ⟨X, 1, none⟩ (.slice none 0 0)).setCell ⟨X, 2, none⟩ (.slice rA rl.length rc)) B0 (.slice rA rl.length rc) rl := ((ho.put hX (by decide) 0 (.int .i64 tr)).put hX0 (by decide) 1 (.slice none 0 0)).put hX1 (by decide) 2 (.slice rA rl.length rc)
          go_simp
          refine hK.out _ _ hSl ?_
          clear hK Kk
          (try simp only [Act.put, List.setIfInBounds_toArray, List.set_cons_zero, List.set_cons_succ])
          simp only [PlanT]
          simp only [List.set] at hXl
          exact ⟨(by first | rfl | trivial), X, rA, rc, rl, (by first | rfl | (simp only [Act.put, List.setIfInBounds_toArray, List.set_cons_zero, List.set_cons_succ])), HRE.out, hSl, hXl, hol, hXge⟩
      case k7 =>
        rintro a' w3 ⟨X, rA, rc, rl, rfl, hrl, hb3, hX, ho3, hXge⟩
        (try simp only [Act.put, List.setIfInBounds_toArray, List.set_cons_zero, List.set_cons_succ])
        have HRE := Lib.hid hrl; clear hrl
        have HX0 := Lib.hid (show Whole w3 X 45 [.int .i64 tr, .slice none ([] : List (K × K)).length 0, .slice rA rl.length rc] from hX); clear hX
        have HC0 := Lib.hid ho3; clear ho3
        have HB03 := Lib.hid hb3; clear hb3
        clear hW1
        go_wp2_with fail
        go_loopw [9] (fun jv wi => ∃ (i : Nat) (A' : Option Addr) (c' : Nat) (ms : List (K × K)), i ≤ trs.length ∧ jv = .int .i64 i ∧ Hid (Below wr.heap.size wr wi) ∧ Hid (Whole wi X 45 [.int .i64 tr, .slice A' ms.length c', .slice rA rl.length rc]) ∧ Hid (OwnSp wi wr.heap.size (.slice A' ms.length c') ms) ∧ Hid (OwnC wi wr.heap.size (.slice rA rl.length rc) rl) ∧ Hid (ms = meetP (s1, s2) (trs.take i))) (fun jv _ => trs.length - (intOf jv).toNat)
        case atStart => exact ⟨0, none, 0, [], Nat.zero_le _, rfl, HB03, HX0, Lib.hid (Own.nil _ _), HC0, Lib.hid rfl⟩
        case round =>
          obtain ⟨i, A', c', ms, hil, rfl, HBI, HXI, HOI, HCI, HMI⟩ := hrel
          rename World => wi
          have hgi : wr.heap.size ≤ wi.heap.size := HBI.out.size
          have hgi1 : W1.heap.size ≤ wi.heap.size := Nat.le_trans hgr hgi
          have hW1i : Below W1.heap.size W1 wi := HB.out.trans (HBI.out.mono hgr)
          have hxi := HX.out wi hW1i
          have y1 := hxi.cell 1 _ rfl
          have hxX := HXI.out.size
          by_cases hlt2 : i < trs.length
          · have hrdp := HKP.out wi hW1i
            obtain ⟨A3, c3, ev, _, hcells⟩ := hrdp.at
            obtain ⟨bA, oA, eA, hbA, q0, q1⟩ := hcells i hlt2
            injection ev with ev1 ev2 ev3
            subst ev1 eA
            clear ev2 ev3 hcells hrdp
            have hmt := meetP_take (s1, s2) trs i hlt2
            have hme := fun W => rmeet_any trs[i] (s1, s2) W
            generalize trs[i] = x at q0 q1 hmt hme
            obtain ⟨x1, x2⟩ := x
            simp only at q0 q1 hme
            unfold spv at hme
            generalize meet (x1, x2) (s1, s2) = m at hmt hme
            obtain ⟨m1, m2⟩ := m
            simp only at hmt hme
            have hq := fun W (h : Below wi.heap.size wi W) => (show W.cell? ⟨bA, oA + i * 2, none⟩ = some (.string x1) ∧ W.cell? ⟨bA, oA + i * 2 + 1, none⟩ = some (.string x2) from ⟨(h.cell (p := ⟨bA, _, none⟩) hbA).trans q0, (h.cell (p := ⟨bA, _, none⟩) hbA).trans q1⟩)
            have HQ := Lib.hid hq; clear hq q0 q1
            have HME := Lib.hid hme; clear hme
            have HMT := Lib.hid hmt; clear hmt
            have hi0 : (0 : Int) ≤ (i : Int) := by omega
            have hi1 : (i : Int) < (trs.length : Int) := by omega
            go_wp2_with fail
            refine wp_region_mid (fun a0 a' w' => ∃ Y, a' = (((((((((a0.put (some 42) (.pointer (some ⟨w.heap.size, 1, none⟩))).put (some 43) (.slice (some ⟨bA, oA, none⟩) trs.length c1)).put (some 44) (.int .i64 i)).put (some 45) (.pointer (some ⟨bA, oA + i * 2, none⟩))).put (some 46) (.agg #[.string x1, .string x2])).put (some 47) (.slice Ab b.length cb)).put (some 48) (.int .i64 n)).put (some 49) (.agg #[.string s1, .string s2])).put (some 50) (.agg #[.string m1, .string m2])).put (some 10) (.pointer (some ⟨Y, 0, none⟩)) ∧ Below wi.heap.size wi w' ∧ Whole w' Y 31 [.string m1, .string m2] ∧ wi.heap.size ≤ Y) ?r11 ?k11
            case r11 =>
              obtain ⟨W0, hW0⟩ : ∃ W0, W0 = wi := ⟨_, rfl⟩
              obtain ⟨B0, hB0e⟩ : ∃ B0, B0 = wi.heap.size := ⟨_, rfl⟩
              have hW1 := hW1i
              clear hgi hW1i hxi y1 hxX HXI HOI HCI HBI HO HR HM HRL HRS2 HX0 HC0 HB03
              rw [← hW0] at hB0e hgi1 hW1 HQ ⊢
              rw [← hB0e] at hgi1 HQ ⊢
              have hB0 := hgi1
              have hB00 : B0 ≤ W0.heap.size := by omega
              obtain ⟨wd, hwd⟩ : ∃ wd, wd = W0.drew := ⟨_, rfl⟩
              have hSwd : Below B0 W0 wd := by rw [hwd, hB0e]; exact (Below.refl _ W0).drew
              refine wp_region_planT (fun W => Below B0 W0 W) (.take 0 (.take 1 (.take 2 (.take 3 (.take 4 (.take 5 (.take 6 (.fork 7 (.fork 8 (.step 9 (.step 10 .done)) 9 (.step 8 (.step 10 .done))) 9 (.step 7 (.step 8 (.step 10 .done))))))))))) (by kernel_rfl) (by kernel_rfl) (fun _ _ _ _ _ h => by cases h.1) (by rw [← hwd]; exact hSwd) ?_
              rw [← hwd]
              clear hwd
              iterate 7 (refine PlanT.takeI (v := ?_) rfl rfl ?_ ?_; rotate_left; (focus (intro W hW; have hx := HX.out W (hW1.trans (hW.mono hB0)); have m1 := hx.cell 1 _ rfl; have q0 := HQ.out W hW; have q1 := q0.2; have q0 := q0.1; go_simp; (try with_reducible rfl); done)); (try simp only [Act.put, List.setIfInBounds_toArray, List.set_cons_zero, List.set_cons_succ]))
              refine ⟨?_, ?_⟩
              · skip
                refine wpOp_stepT rfl rfl (fun Kk hK => ?_)
                go_simp
                refine (HP.out wd (hW1.trans (hSwd.mono hB0))).mono ?_
                rintro e wa ⟨rfl, hbwa⟩
                have hSwa : Below B0 W0 wa := hSwd.trans (hbwa.mono (Nat.le_trans hB00 hSwd.size))
                refine hK.out _ _ hSwa ?_
                clear hK Kk
                (try simp only [Act.put, List.setIfInBounds_toArray, List.set_cons_zero, List.set_cons_succ])
                refine ⟨?_, ?_⟩
                · skip
                  refine wpOp_stepT rfl rfl (fun Kk hK => ?_)
                  go_simp
                  refine (HME.out wa).mono ?_
                  rintro e wb ⟨rfl, hbwb⟩
                  have hSwb : Below B0 W0 wb := hSwa.trans (hbwb.mono (Nat.le_trans hB00 hSwa.size))
                  refine hK.out _ _ hSwb ?_
                  clear hK Kk
                  (try simp only [Act.put, List.setIfInBounds_toArray, List.set_cons_zero, List.set_cons_succ])
                  refine wpOp_stepT rfl rfl (fun Kk hK => ?_)
                  go_simp
                  obtain ⟨wc, hE⟩ : ∃ V, V = wb.alloc (.cells #[.string ⟨#[]⟩, .string ⟨#[]⟩] 31) := ⟨_, rfl⟩
                  have hSwc : Below B0 W0 wc := by rw [hE]; exact hSwb.alloc (Nat.le_trans hB00 hSwb.size) _
                  have hX : Whole wc wb.heap.size 31 [.string ⟨#[]⟩, .string ⟨#[]⟩] := by rw [hE]; exact Whole.fresh wb _ [.string ⟨#[]⟩, .string ⟨#[]⟩]
                  have hXge : B0 ≤ wb.heap.size := Nat.le_trans hB00 hSwb.size
                  skip
                  rw [← hE]
                  obtain ⟨X, hXe⟩ : ∃ X, X = wb.heap.size := ⟨_, rfl⟩
                  rw [← hXe] at hX hXge ⊢
                  clear hE hXe
                  refine hK.out _ _ hSwc ?_
                  clear hK Kk
                  (try simp only [Act.put, List.setIfInBounds_toArray, List.set_cons_zero, List.set_cons_succ])
                  refine wpOp_stepT rfl rfl (fun Kk hK => ?_)
                  have y0 := hX.cell 0 _ rfl
                  have f0 := hX.frozen 0
                  have hX0 := hX.put 0 (.string m1)
                  have y1 := hX0.cell 1 _ rfl
                  have f1 := hX0.frozen 1
                  have hXl := hX0.put 1 (.string m2)
                  have hSl : Below B0 W0 ((wc.setCell ⟨X, 0, none⟩ (.string m1)).setCell ⟨X, 1, none⟩ (.string m2)) := ((hSwc.setCell (p := ⟨X, 0, none⟩) hXge (.string m1)).setCell (p := ⟨X, 1, none⟩) hXge (.string m2))
                  skip
                  go_simp
                  refine hK.out _ _ hSl ?_
                  clear hK Kk
                  (try simp only [Act.put, List.setIfInBounds_toArray, List.set_cons_zero, List.set_cons_succ])
                  simp only [PlanT]
                  simp only [List.set] at hXl
                  exact ⟨(by first | rfl | trivial), X, (by first | rfl | (simp only [Act.put, List.setIfInBounds_toArray, List.set_cons_zero, List.set_cons_succ])), hSl, hXl, hXge⟩
                · skip
                  refine wpOp_stepT rfl rfl (fun Kk hK => ?_)
                  go_simp
                  obtain ⟨wb, hE⟩ : ∃ V, V = wa.alloc (.cells #[.string ⟨#[]⟩, .string ⟨#[]⟩] 31) := ⟨_, rfl⟩
                  have hSwb : Below B0 W0 wb := by rw [hE]; exact hSwa.alloc (Nat.le_trans hB00 hSwa.size) _
                  have hX : Whole wb wa.heap.size 31 [.string ⟨#[]⟩, .string ⟨#[]⟩] := by rw [hE]; exact Whole.fresh wa _ [.string ⟨#[]⟩, .string ⟨#[]⟩]
                  have hXge : B0 ≤ wa.heap.size := Nat.le_trans hB00 hSwa.size
                  rw [← hE]
                  obtain ⟨X, hXe⟩ : ∃ X, X = wa.heap.size := ⟨_, rfl⟩
                  rw [← hXe] at hX hXge ⊢
                  clear hE hXe
                  refine hK.out _ _ hSwb ?_
                  clear hK Kk
                  (try simp only [Act.put, List.setIfInBounds_toArray, List.set_cons_zero, List.set_cons_succ])
                  refine wpOp_stepT rfl rfl (fun Kk hK => ?_)
                  go_simp
                  refine (HME.out wb).mono ?_
                  rintro e wc ⟨rfl, hbwc⟩
                  have hSwc : Below B0 W0 wc := hSwb.trans (hbwc.mono (Nat.le_trans hB00 hSwb.size))
                  have hX := hX.below hbwc hX.size
                  refine hK.out _ _ hSwc ?_
                  clear hK Kk
                  (try simp only [Act.put, List.setIfInBounds_toArray, List.set_cons_zero, List.set_cons_succ])
                  refine wpOp_stepT rfl rfl (fun Kk hK => ?_)
                  have y0 := hX.cell 0 _ rfl
                  have f0 := hX.frozen 0
                  have hX0 := hX.put 0 (.string m1)
                  have y1 := hX0.cell 1 _ rfl
                  have f1 := hX0.frozen 1
                  have hXl := hX0.put 1 (.string m2)
                  have hSl : Below B0 W0 ((wc.setCell ⟨X, 0, none⟩ (.string m1)).setCell ⟨X, 1, none⟩ (.string m2)) := ((hSwc.setCell (p := ⟨X, 0, none⟩) hXge (.string m1)).setCell (p := ⟨X, 1, none⟩) hXge (.string m2))
                  skip
                  go_simp
                  refine hK.out _ _ hSl ?_
                  clear hK Kk
                  (try simp only [Act.put, List.setIfInBounds_toArray, List.set_cons_zero, List.set_cons_succ])
                  simp only [PlanT]
                  simp only [List.set] at hXl
                  exact ⟨(by first | rfl | trivial), X, (by first | rfl | (simp only [Act.put, List.setIfInBounds_toArray, List.set_cons_zero, List.set_cons_succ])), hSl, hXl, hXge⟩
              · skip
                refine wpOp_stepT rfl rfl (fun Kk hK => ?_)
                go_simp
                obtain ⟨wa, hE⟩ : ∃ V, V = wd.alloc (.cells #[.string ⟨#[]⟩, .string ⟨#[]⟩] 31) := ⟨_, rfl⟩
                have hSwa : Below B0 W0 wa := by rw [hE]; exact hSwd.alloc (Nat.le_trans hB00 hSwd.size) _
                have hX : Whole wa wd.heap.size 31 [.string ⟨#[]⟩, .string ⟨#[]⟩] := by rw [hE]; exact Whole.fresh wd _ [.string ⟨#[]⟩, .string ⟨#[]⟩]
                have hXge : B0 ≤ wd.heap.size := Nat.le_trans hB00 hSwd.size
                rw [← hE]
                obtain ⟨X, hXe⟩ : ∃ X, X = wd.heap.size := ⟨_, rfl⟩
                rw [← hXe] at hX hXge ⊢
                clear hE hXe
                refine hK.out _ _ hSwa ?_
                clear hK Kk
                (try simp only [Act.put, List.setIfInBounds_toArray, List.set_cons_zero, List.set_cons_succ])
                refine wpOp_stepT rfl rfl (fun Kk hK => ?_)
                go_simp
                refine (HP.out wa (hW1.trans (hSwa.mono hB0))).mono ?_
                rintro e wb ⟨rfl, hbwb⟩
                have hSwb : Below B0 W0 wb := hSwa.trans (hbwb.mono (Nat.le_trans hB00 hSwa.size))
                have hX := hX.below hbwb hX.size
                refine hK.out _ _ hSwb ?_
                clear hK Kk
                (try simp only [Act.put, List.setIfInBounds_toArray, List.set_cons_zero, List.set_cons_succ])
                refine wpOp_stepT rfl rfl (fun Kk hK => ?_)
                go_simp
                refine (HME.out wb).mono ?_
                rintro e wc ⟨rfl, hbwc⟩
                have hSwc : Below B0 W0 wc := hSwb.trans (hbwc.mono (Nat.le_trans hB00 hSwb.size))
                have hX := hX.below hbwc hX.size
                refine hK.out _ _ hSwc ?_
                clear hK Kk
                (try simp only [Act.put, List.setIfInBounds_toArray, List.set_cons_zero, List.set_cons_succ])
                refine wpOp_stepT rfl rfl (fun Kk hK => ?_)
                have y0 := hX.cell 0 _ rfl
                have f0 := hX.frozen 0
                have hX0 := hX.put 0 (.string m1)
                have y1 := hX0.cell 1 _ rfl
                have f1 := hX0.frozen 1
                have hXl := hX0.put 1 (.string m2)
                have hSl : Below B0 W0 ((wc.setCell ⟨X, 0, none⟩ (.string m1)).setCell ⟨X, 1, none⟩ (.string m2)) := ((hSwc.setCell (p := ⟨X, 0, none⟩) hXge (.string m1)).setCell (p := ⟨X, 1, none⟩) hXge (.string m2))
                skip
                go_simp
                refine hK.out _ _ hSl ?_
                clear hK Kk
                (try simp only [Act.put, List.setIfInBounds_toArray, List.set_cons_zero, List.set_cons_succ])
                simp only [PlanT]
                simp only [List.set] at hXl
                exact ⟨(by first | rfl | trivial), X, (by first | rfl | (simp only [Act.put, List.setIfInBounds_toArray, List.set_cons_zero, List.set_cons_succ])), hSl, hXl, hXge⟩
            case k11 =>
              rintro a' w4 ⟨Y, rfl, hb4, hY, hYge⟩
              (try simp only [Act.put, List.setIfInBounds_toArray, List.set_cons_zero, List.set_cons_succ])
              have hX4 := HXI.out.below hb4 hxX
              have hO4 : OwnSp w4 wr.heap.size (.slice A' ms.length c') ms := HOI.out.below hb4 (Nat.le_refl _)
              have hC4 : OwnC w4 wr.heap.size (.slice rA rl.length rc) rl := HCI.out.below hb4 (Nat.le_refl _)
              have hB4 : Below wr.heap.size wr w4 := HBI.out.trans (hb4.mono hgi)
              have z0 := hY.cell 0 _ rfl
              have z1 := hY.cell 1 _ rfl
              have z2 := hX4.cell 1 _ rfl
              have hYs := hY.size
              have hml : ms.length ≤ 24 := by
                have := meetP_len (s1, s2) (trs.take i)
                rw [← HMI.out, List.length_take] at this
                omega
              clear y1 hxi hb4
              by_cases hmm : m1 < m2
              · have hmt := HMT.out
                rw [if_pos hmm, ← HMI.out] at hmt
                have HMT2 := Lib.hid hmt; clear hmt
                have HX4 := Lib.hid hX4; clear hX4
                have HO4 := Lib.hid hO4; clear hO4
                have HC4 := Lib.hid hC4; clear hC4
                have HB4 := Lib.hid hB4; clear hB4
                have HY := Lib.hid hY; clear hY
                have hwr4 : wr.heap.size ≤ w4.heap.size := HB4.out.size
                go_wp2_with (at_builtin; go_must (refine wpList_addSp rfl _ _ rfl wr.heap.size (.slice A' ms.length c') ms rfl ?f1 (w4.heap.size + 1) _ [(m1, m2)] rfl ?f3 ?f4 ?f2 ?_))
                case f1 => exact HO4.out.alloc _
                case f2 => simp; omega
                case f3 => exact RdSp.one w4 (m1, m2)
                case f4 => simp; omega
                intro A5 c5 w5 ho5 hg5
                have hX5 := (HX4.out.alloc (.cells #[.string m1, .string m2] 31)).grown hg5.out ((HO4.out.alloc (.cells #[.string m1, .string m2] 31)).apart (HX4.out.alloc _) (by decide))
                have hC5 := (HC4.out.alloc (.cells #[.string m1, .string m2] 31)).kept hg5.out ((HC4.out.alloc (.cells #[.string m1, .string m2] 31)).two (HO4.out.alloc _) (by decide))
                have hB5 : Below wr.heap.size wr w5 := (HO4.out.alloc (.cells #[.string m1, .string m2] 31)).grown (HB4.out.alloc hwr4 _) hg5.out (Nat.le_refl _) (by simp; omega)
                have z3 := hX5.cell 1 _ rfl
                have z4 := hX5.frozen 1
                obtain ⟨ms2, hms2⟩ : ∃ ms2, ms2 = ms ++ [(m1, m2)] := ⟨_, rfl⟩
                have hms3 : ms.length + 1 = ms2.length := by rw [hms2]; simp
                rw [← hms2] at ho5 HMT2
                (try rw [← hms2])
                (try rw [hms3])
                (try rw [hms3] at ho5)
                have HMS3 := Lib.hid hms3; clear hms3
                have HX6 := Lib.hid (show Whole (w5.setCell ⟨X, 1, none⟩ (.slice A5 ms2.length c5)) X 45 [.int .i64 tr, .slice A5 ms2.length c5, .slice rA rl.length rc] from by have h := hX5.put 1 (.slice A5 ms2.length c5); simp only [List.set] at h; exact h)
                have HO6 := Lib.hid (ho5.out.put hX5 (by decide) 1 (.slice A5 ms2.length c5))
                have HC6 := Lib.hid (hC5.put hX5 (by decide) 1 (.slice A5 ms2.length c5))
                have HB6 := Lib.hid (hB5.setCell (p := ⟨X, 1, none⟩) hXge (.slice A5 ms2.length c5))
                have HMT3 := Lib.hid HMT2.out.symm
                clear hX5 hC5 hB5 ho5 hms2 HMT2
                go_wp2_with fail
                go_roundw
                case rel => exact ⟨i + 1, A5, c5, ms2, by omega, by go_num, HB6, HX6, HO6, HC6, HMT3⟩
                case measure => simp [intOf]; omega
              · have hmt := HMT.out
                rw [if_neg hmm, List.append_nil, ← HMI.out] at hmt
                have HMT2 := Lib.hid hmt.symm; clear hmt
                have HX4 := Lib.hid hX4; clear hX4
                have HO4 := Lib.hid hO4; clear hO4
                have HC4 := Lib.hid hC4; clear hC4
                have HB4 := Lib.hid hB4; clear hB4
                clear hY
                go_wp2_with fail
                go_roundw
                case rel => exact ⟨i + 1, A', c', ms, by omega, by go_num, HB4, HX4, HO4, HC4, HMT2⟩
                case measure => simp [intOf]; omega
          · obtain rfl : i = trs.length := by omega
            have hi1 : ¬ (trs.length : Int) < (trs.length : Int) := by omega
            have hmi := HMI.out
            rw [List.take_length] at hmi
            have hml : ms.length ≤ 24 := by
              have := meetP_len (s1, s2) trs
              rw [← hmi] at this
              omega
            have z0 := HXI.out.cell 0 _ rfl
            have z1 := HXI.out.cell 1 _ rfl
            have z2 := HXI.out.cell 2 _ rfl
            obtain ⟨x, hx⟩ : ∃ x : Tr, x = ⟨tr, A', c', ms, rA, rc, rl⟩ := ⟨_, rfl⟩
            have hx1 : x.v1 = .slice A' ms.length c' := by rw [hx]; rfl
            have hx2 : x.v2 = .slice rA rl.length rc := by rw [hx]; rfl
            have hxt : x.t = ⟨tr, ms, rl⟩ := by rw [hx]; rfl
            have hxr : x.reads = ms := by rw [hx]
            have hxc : x.chgs = rl := by rw [hx]
            have hone : RdTr (wi.alloc (.cells #[.int .i64 tr, .slice A' ms.length c', .slice rA rl.length rc] 45)) (wi.heap.size + 1) (.slice (some ⟨wi.heap.size, 0, none⟩) 1 1) [x] := by rw [hx]; exact RdTr.one wi ⟨tr, A', c', ms, rA, rc, rl⟩
            have hO4 : OwnTr wi W1.heap.size (.slice A n c) rows := HO.out.below HBI.out (Nat.le_refl _)
            have hlow := fun k (hk : Value.ownBlock (.slice A n c) = some k) => (HO.out.low hk).2
            have hR1 : RdG cellsS 2 wi wi.heap.size (fun i => i < wr.heap.size) x.v1 x.reads := by rw [hx1, hxr]; exact RdG.own cellsS_len HOI.out (fun i h1 _ _ h2 => by omega)
            have hR2 : RdG encC 3 wi wi.heap.size (fun i => i < wr.heap.size) x.v2 x.chgs := by rw [hx2, hxc]; exact RdG.own encC_len HCI.out (fun i h1 _ _ h2 => by omega)
            have hRO : ∀ y ∈ rows, RdG cellsS 2 wi wr.heap.size (fun i => Value.ownBlock (.slice A n c) = some i) y.v1 y.reads ∧ RdG encC 3 wi wr.heap.size (fun i => Value.ownBlock (.slice A n c) = some i) y.v2 y.chgs := fun y hy => ⟨((HR.out y hy).1).mv (Mv.of_new HBI.out (fun _ => False)) (Nat.le_refl _) (fun _ _ h => h.elim), ((HR.out y hy).2).mv (Mv.of_new HBI.out (fun _ => False)) (Nat.le_refl _) (fun _ _ h => h.elim)⟩
            have hmap : (rows ++ [x]).map Tr.t = carvesOf b ⟨tr, trs, tcs⟩ (n + 1) := by
              have h2 := HRS2.out
              rw [h2, List.map_append, HM.out, List.map_singleton, hxt, hmi, HRE.out]
            have hrl2 := HRL.out
            have hW1i2 := hW1i
            have HONE := Lib.hid hone; clear hone
            have HO4 := Lib.hid hO4; clear hO4
            have HR1 := Lib.hid hR1; clear hR1
            have HR2 := Lib.hid hR2; clear hR2
            have HRO := Lib.hid hRO; clear hRO
            have HMAP := Lib.hid hmap; clear hmap
            have HWI := Lib.hid hW1i; clear hW1i hW1i2
            clear hx1 hx2 hxt hxr hxc hx hmi HX0 HC0 HB03 hxi HXI
            go_wp2_with (at_builtin; go_must (refine wpList_addTr rfl _ _ rfl W1.heap.size (.slice A n c) rows rfl ?g1 (wi.heap.size + 1) _ [x] rfl HONE.out ?g4 ?g2 ?_))
            case g1 => exact HO4.out.alloc _
            case g2 => first | omega | (simp; omega)
            case g4 => first | omega | (simp; omega)
            intro A5 c5 w5 ho5 hg5 hn5
            have hlen5 : (rows ++ [x]).length = n + 1 := by simp [hrl2]
            (try rw [hlen5] at ho5)
            (try rw [hlen5] at hn5)
            (try rw [hlen5])
            have hoa := HO4.out.alloc (.cells #[.int .i64 tr, .slice A' ms.length c', .slice rA rl.length rc] 45)
            have hbg5 : Below W1.heap.size W1 w5 := hoa.grown (HWI.out.alloc hgi1 _) hg5.out (Nat.le_refl _) (by simp; omega)
            have hrall : ∀ y ∈ rows ++ [x], RdG cellsS 2 w5 w5.heap.size (fun i => Value.ownBlock (.slice A5 (n + 1) c5) = some i) y.v1 y.reads ∧ RdG encC 3 w5 w5.heap.size (fun i => Value.ownBlock (.slice A5 (n + 1) c5) = some i) y.v2 y.chgs := fun y hy => by
              have hmv : Mv (fun i => Value.ownBlock (.slice A n c) = some i) wi w5 := ((Mv.refl (fun i => Value.ownBlock (.slice A n c) = some i) wi).alloc _).grown hg5.out (fun i _ h => h.symm)
              have hsz5 : wi.heap.size < w5.heap.size := by have := hg5.out.size; simp at this; omega
              have hnb : ∀ i, i < wi.heap.size → Value.ownBlock (.slice A5 (n + 1) c5) = some i → Value.ownBlock (.slice A n c) = some i := fun i hi h => by
                rcases hn5.out i h with h1 | h1
                · exact h1
                · simp at h1; omega
              rcases List.mem_append.1 hy with hy | hy
              · exact ⟨((HRO.out y hy).1.mv hmv (by omega) (fun _ _ h => h)).mono (by omega) (fun i hi h => hnb i (by omega) h), ((HRO.out y hy).2.mv hmv (by omega) (fun _ _ h => h)).mono (by omega) (fun i hi h => hnb i (by omega) h)⟩
              · simp at hy; subst hy
                exact ⟨(HR1.out.mv hmv (Nat.le_refl _) (fun i _ h => hlow i h)).mono (by omega) (fun i hi h => hlow i (hnb i hi h)), (HR2.out.mv hmv (Nat.le_refl _) (fun i _ h => hlow i h)).mono (by omega) (fun i hi h => hlow i (hnb i hi h))⟩
            have HR5 := Lib.hid hrall; clear hrall
            have HB5 := Lib.hid hbg5; clear hbg5 hoa hlow
            have HRL5 := Lib.hid hlen5; clear hlen5 hrl2
            generalize rows ++ [x] = rows5 at ho5 HR5 HMAP HRL5
            clear z0 z1 z2 y1
            go_wp2_with fail
            go_roundw
            case rel => exact ⟨n + 1, A5, c5, rows5, by omega, by go_num, rfl, HRL5, ho5, HR5, HMAP, HB5⟩
            case measure => simp [intOf]; omega
    · obtain rfl : n = b.length + 1 := by omega
      have hle2 : (((b.length + 1 : Nat) : Int) ≤ (b.length : Int)) = False := by simp; omega
      go_wp2_with fail
      refine bodyPost_ret (v := .tuple #[.slice A (b.length + 1) c, .int .i64 0]) (by simp [results, Try.results20, go_sem]) rfl ⟨_, _, rfl, .inr ⟨HOK.out, HST.out, rfl, rows, HO.out.rd encTr_len, HM.out, fun x hx => ⟨(HR.out x hx).1.rd, (HR.out x hx).2.rd⟩⟩, HB1.out.trans (HB.out.mono (by omega))⟩
end Go.Proofs.Yteelnholmlabmaa

/- The program's clock: Pass; with it all that the laws ask of the program. -/
import Derived.Test.YtcigodaacdfagaaPg
namespace Go.Proofs.Ytcigodaacdfagaa
open Go.RowKit

theorem wo_head {x : Bl} {r : List Bl} (h : ((x :: r).map (·.bell)).Nodup) : wo x.bell (x :: r) = r := by
  rw [List.map_cons, List.nodup_cons] at h
  unfold wo
  rw [List.filter_cons, if_neg (by simp)]
  exact List.filter_eq_self.2 (fun y hy => by simpa using fun e => h.1 (List.mem_map.2 ⟨y, hy, e⟩))
theorem wo_drop {D R : List Bl} (h : ((D ++ R).map (·.bell)).Nodup) (i : Nat) (hi : i < D.length) : wo D[i].bell (D.drop i ++ R) = D.drop (i + 1) ++ R := by
  have h1 : D.drop i = D[i] :: D.drop (i + 1) := List.drop_eq_getElem_cons hi
  have h2 : ((D.drop i ++ R).map (·.bell)).Nodup := by
    refine h.sublist (List.Sublist.map _ ?_)
    exact (List.drop_sublist i D).append_right R
  rw [h1] at h2 ⊢
  rw [List.cons_append] at h2 ⊢
  exact wo_head h2

set_option maxHeartbeats 8000000 in
set_option maxRecDepth 100000 in
theorem cpass_any (base q : Nat) (G : Nat → Prop) (c : Ck) (n : Int) (w : World) (h : CkAt w base q G c) (hn : I64 n) :
    Calls Try.prog 13 #[.pointer (some ⟨q, 0, none⟩), .int .i64 n] w fun e w' => ∃ A cap, e = .returned (.tuple #[.slice A (c.pass n).1.1.length cap, .int .i64 (c.pass n).1.2]) ∧ ∃ G', CkAt w' base q G' (c.pass n).2 ∧ (∀ i, G' i → G i ∨ w.heap.size ≤ i) ∧ Mv G w w' ∧ RdG encI 1 w' w'.heap.size (fun i => G' i ∨ Else w G i) (.slice A (c.pass n).1.1.length cap) (c.pass n).1.1 := by
  have hok := h.ok.pass n
  obtain ⟨⟨⟨RL, RE⟩, RC⟩, hR⟩ : ∃ R, R = c.pass n := ⟨_, rfl⟩
  rw [← hR] at hok ⊢
  unfold Ck.pass at hR
  simp only at hok ⊢
  have H := Lib.hid h
  obtain ⟨m, hW, hm⟩ := h.blk
  have c0 := hW.cell 0 _ rfl
  have f0 := hW.frozen 0
  by_cases hn0 : n < 0
  · rw [if_pos hn0] at hR
    obtain ⟨rfl, rfl, rfl⟩ : RL = [] ∧ RE = 1 ∧ RC = c := by simpa [and_assoc] using hR
    clear hR h hW hm hok
    go_enter Try.func13, Try.ntmps13
    go_wp2_with fail
    exact bodyPost_ret (v := .tuple #[.slice none 0 0, .int .i64 1]) (by simp [results, Try.results13, go_sem]) rfl ⟨none, 0, rfl, G, H.out, fun _ h => .inl h, Mv.refl _ _, RdG.none_ _ _ _ _ _⟩
  rw [if_neg hn0] at hR
  have hlo := h.ok.low
  have hhi := h.ok.high
  have hw1 : IntKind.i64.wrap (1099511627776 - c.now) = 1099511627776 - c.now := by rw [IntKind.wrap_i64]; omega
  by_cases hbig : 1099511627776 - c.now < n
  · rw [if_pos hbig] at hR
    obtain ⟨rfl, rfl, rfl⟩ : RL = [] ∧ RE = 5 ∧ RC = c := by simpa [and_assoc] using hR
    clear hR h hW hm hok
    go_enter Try.func13, Try.ntmps13
    go_wp2_with fail
    exact bodyPost_ret (v := .tuple #[.slice none 0 0, .int .i64 5]) (by simp [results, Try.results13, go_sem]) rfl ⟨none, 0, rfl, G, H.out, fun _ h => .inl h, Mv.refl _ _, RdG.none_ _ _ _ _ _⟩
  rw [if_neg hbig] at hR
  have hw2 : IntKind.i64.wrap (c.now + n) = c.now + n := by rw [IntKind.wrap_i64]; omega
  have hlen := h.ok.len
  obtain ⟨t, ht⟩ : ∃ t, t = c.now + n := ⟨_, rfl⟩
  rw [← ht] at hR
  have hw3 : IntKind.i64.wrap (c.now + n) = t := by rw [hw2, ht]
  clear hw2
  obtain ⟨⟨rfl, rfl⟩, rfl⟩ : (RL = (Ck.due c.l t).map (·.bell) ∧ RE = 0) ∧ RC = ⟨t, Ck.late c.l t⟩ := by simpa using hR
  have hqs := hW.size
  have hW1 := hW.put 0 (.int .i64 t)
  have hm0 : Mv (fun i => i = q) w (w.setCell ⟨q, 0, none⟩ (.int .i64 t)) := (Mv.refl (fun i => i = q) w).setCell (p := ⟨q, 0, none⟩) (fun _ => rfl) _
  have hcc : CkCells (w.setCell ⟨q, 0, none⟩ (.int .i64 t)) q G t c.l := by
    refine ⟨m, hW1, ?_⟩
    rcases hm with hm | ⟨b, e, hne, hg, hM⟩
    · exact .inl hm
    · exact .inr ⟨b, e, hne, hg, hM.mv hm0 hne⟩
  have hdue := due_any q G t c.l _ hcc h.me (fun i hi => by have := (h.low.2 i hi).2; simpa using this) hlen h.ok.rise h.ok.once
  simp only [World.size_setCell] at hdue
  have hdl := Ck.due_late c.l t
  have hno := h.ok.once
  rw [← hdl] at hno
  have hDl : (Ck.due c.l t).length ≤ 4096 := by
    have h1 := congrArg List.length hdl
    rw [List.length_append] at h1
    omega
  obtain ⟨D, hD⟩ : ∃ D, D = Ck.due c.l t := ⟨_, rfl⟩
  obtain ⟨R, hRl⟩ : ∃ R, R = Ck.late c.l t := ⟨_, rfl⟩
  rw [← hD, ← hRl] at hdl hno
  rw [← hRl] at hok
  rw [← hD] at hdue hDl ⊢
  rw [← hRl]
  have HDUE := Lib.hid hdue
  have HOK := Lib.hid hok
  have HM0 := Lib.hid hm0
  have HCC := Lib.hid hcc
  have HNO := Lib.hid hno
  have HDL := Lib.hid hdl
  clear hdue hok hm0 hcc hno hdl hm hW hW1 h hlo hhi ht hlen hD hRl
  go_enter Try.func13, Try.ntmps13
  go_wp2_with (go_at_call 19; refine HDUE.out.mono ?_; rintro e w2 ⟨A, cap, rfl, ho2, hb2⟩)
  have hs1 : (w.setCell ⟨q, 0, none⟩ (.int .i64 t)).heap.size = w.heap.size := by simp
  have hm2 : Mv (fun _ => False) (w.setCell ⟨q, 0, none⟩ (.int .i64 t)) w2 := Mv.of_new (by rw [hs1]; exact hb2) _
  have hcc2 := HCC.out.mv hm2 H.out.me (fun _ _ h => h)
  have hg2 : Mv G w w2 := (HM0.out.mono (D' := G) (fun i _ e => by rw [e]; exact H.out.me)).trans hm2 (fun _ _ h => h.elim)
  have hz2 : w.heap.size ≤ w2.heap.size := hg2.size
  obtain ⟨m2, hW2, hm3⟩ := hcc2
  have HO := Lib.hid ho2
  have HG := Lib.hid hg2
  have HW2 := Lib.hid hW2
  have hlow := H.out.low
  have HLOW := Lib.hid hlow
  have hme := H.out.me
  clear ho2 hb2 hg2 hm2 HDUE HM0 HCC hs1 c0 f0 hw1 hw3 hlow
  have hend : ∀ (w4 : World), OwnI w4 w.heap.size (.slice A (D.map (·.bell)).length cap) (D.map (·.bell)) → CkCells w4 q G t R → Mv G w w4 → CkAt w4 base q G ⟨t, R⟩ ∧ RdG encI 1 w4 w4.heap.size (fun i => G i ∨ Else w G i) (.slice A (D.map (·.bell)).length cap) (D.map (·.bell)) := by
    intro w4 ho hc hm
    refine ⟨⟨hc, H.out.me, ⟨Nat.le_trans HLOW.out.1 hm.size, fun i hi => ⟨(HLOW.out.2 i hi).1, Nat.lt_of_lt_of_le (HLOW.out.2 i hi).2 hm.size⟩⟩, HOK.out⟩, RdG.own encI_len ho fun i hi _ _ hc => ?_⟩
    rcases hc with hc | hc
    · have := (HLOW.out.2 i hc).2; omega
    · have := hc.2; omega
  have HEND := Lib.hid hend
  clear hend
  rcases hm3 with ⟨rfl, hl⟩ | ⟨b, rfl, hne, hg, hM⟩
  · obtain ⟨rfl, rfl⟩ : D = [] ∧ R = [] := by
      have := HDL.out
      rw [hl] at this
      simpa using this
    have hc2 : CkCells w2 q G t [] := ⟨none, HW2.out, .inl ⟨rfl, rfl⟩⟩
    have hfin := HEND.out w2 HO.out hc2 HG.out
    have HF := Lib.hid hfin
    clear hc2 hfin hl hDl
    simp only [List.length_nil]
    go_wp2_with fail
    refine wp_loop_rounds 1 ?_
    rw [rounds_succ]
    go_wp2_with fail
    exact bodyPost_ret (v := .tuple #[.slice A 0 cap, .int .i64 0]) (by simp [results, Try.results13, go_sem]) rfl ⟨A, cap, rfl, G, HF.out.1, fun _ h => .inl h, HG.out, HF.out.2⟩
  · have hbs := (HLOW.out.2 b hg).2
    have hM' : MapI w2 b ((D ++ R).map prB) := by rw [HDL.out]; exact hM
    have HM2 := Lib.hid hM'
    have HGb := Lib.hid hg
    have HNE := Lib.hid hne
    clear hM hM' hg hne
    go_wp2_with fail
    go_loopw [34] (fun iv wr => ∃ i : Nat, i ≤ D.length ∧ iv = .int .i64 (i : Int) ∧ MapI wr b ((D.drop i ++ R).map prB) ∧ Mv (fun i => i = b) w2 wr) (fun iv _ => D.length - (intOf iv).toNat)
    case atStart => exact ⟨0, Nat.zero_le _, rfl, HM2.out, Mv.refl _ _⟩
    case round =>
      obtain ⟨i, hi, rfl, hM, hmv⟩ := hrel
      have hWr := hmv.whole HW2.out (fun e => HNE.out e.symm)
      have hor : OwnI wr w.heap.size (.slice A (D.map (·.bell)).length cap) (D.map (·.bell)) := Own.kept HO.out (row := some b) ⟨hmv.os, hmv.tape, hmv.output, hmv.size, fun j hj hne => hmv.block j hj (fun e => hne (by rw [e]))⟩ (.inr (fun e => by have := (Own.low HO.out e).1; omega))
      have c1 := hWr.cell 1 _ rfl
      have HOR := Lib.hid hor
      have HMV := Lib.hid hmv
      have HWR := Lib.hid hWr
      clear hmv hor hWr
      by_cases hil : i < D.length
      · obtain ⟨A2, cap2, e, hc2, hcell⟩ := HOR.out.rdI
        injection e with e1 e2 e3
        subst e1 e3
        have hil' : i < (D.map (·.bell)).length := by simpa using hil
        obtain ⟨g, o, rfl, hg2, hq⟩ := hcell i hil'
        have q0 := hq 0 _ rfl
        simp only [Nat.add_zero, Nat.mul_one, List.getElem_map] at q0
        clear hcell hq e2
        obtain ⟨w3, hdl, hM3, hm3, hs3⟩ := hM.drop (P := Try.prog) Try.underlying47 Try.underlying3 D[i].bell 0
        rw [off_wo, wo_drop HNO.out i hil] at hM3
        have HM3 := Lib.hid hM3
        have HMV3 := Lib.hid (HMV.out.trans hm3 (fun _ _ h => h))
        have h0 : (0 : Int) ≤ (i : Int) := by omega
        have h1 : (i : Int) < (D.length : Int) := by omega
        have h2 : IntKind.i64.wrap ((i : Int) + 1) = ((i + 1 : Nat) : Int) := by rw [IntKind.wrap_i64]; omega
        generalize D[i].bell = k at q0 hdl
        clear hM hM3 hm3
        go_wp2_with fail
        go_roundw
        case rel => exact ⟨i + 1, by omega, rfl, HM3.out, HMV3.out⟩
        case measure => simp [intOf]; omega
      · have hie : i = D.length := by omega
        subst hie
        have hc4 : CkCells wr q G t R := by
          refine ⟨some b, HWR.out, .inr ⟨b, rfl, HNE.out, HGb.out, ?_⟩⟩
          have := hM
          rwa [List.drop_length, List.nil_append] at this
        have hg4 : Mv G w wr := HG.out.trans HMV.out (fun i _ e => by rw [e]; exact HGb.out)
        have hfin := HEND.out wr HOR.out hc4 hg4
        rw [List.length_map] at hfin
        have HF := Lib.hid hfin
        have HG4 := Lib.hid hg4
        clear hc4 hfin hM hg4
        go_wp2_with fail
        exact bodyPost_ret (v := .tuple #[.slice A D.length cap, .int .i64 0]) (by simp [results, Try.results13, go_sem]) rfl ⟨A, cap, rfl, G, HF.out.1, fun _ h => .inl h, HG4.out, HF.out.2⟩
end Go.Proofs.Ytcigodaacdfagaa

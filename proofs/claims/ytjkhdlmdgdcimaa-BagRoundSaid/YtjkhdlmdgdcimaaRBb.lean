/- The reference's bag: Send and Twin. -/
import Derived.Test.YtjkhdlmdgdcimaaRBa
import Derived.Test.YtjkhdlmdgdcimaaPlanT
namespace Go.Proofs.Ytjkhdlmdgdcimaa
open Go.RowKit

set_option maxRecDepth 100000 in
/-- a bag behind a new list of letters -/
theorem RbAt.relist {w w3 w4 : World} {base r n4 c4 : Nat} {ov : Option Nat} {b : Bg} {A4 : Option Addr} {l4 : List Ltr} (h : RbAt w base r ov b) (h3 : Below w.heap.size w w3) (hm : Mv (fun i => some i = ov) w3 w4) (hn : n4 = l4.length) (ho4 : OwnL w4 base (.slice A4 n4 c4) l4)
    (hnew : ∀ g, Value.ownBlock (.slice A4 n4 c4) = some g → ov = some g ∨ w.heap.size ≤ g) (hok : Bg.Ok { b with l := l4 }) :
    RbWent w (w4.setCell ⟨r, 0, none⟩ (.slice A4 n4 c4)) base r ov { b with l := l4 } (Value.ownBlock (.slice A4 n4 c4)) := by
  obtain ⟨A, c, n, hb, -, ho, hv, hp, hs, hk⟩ := h
  have hr3 := (Mv.of_new h3 (fun _ => False)).whole hb (fun h => h)
  have hov : ov ≠ some r := fun e => ho.apart hb (by decide) (hv.trans e).symm
  have hr4 : Whole w4 r 31 _ := hm.whole hr3 (fun e => hov e.symm)
  have hz3 := h3.size
  have hz4 := hm.size
  have hm5 : Mv (fun i => i = r) w4 (w4.setCell ⟨r, 0, none⟩ (.slice A4 n4 c4)) := (Mv.refl (fun i => i = r) w4).setCell (p := ⟨r, 0, none⟩) (fun _ => rfl) _
  refine ⟨⟨A4, c4, n4, hr4.put 0 _, hn, ho4.mvG hm5 (fun g hg e => ho4.apart hr4 (by decide) (e ▸ hg.symm)), rfl, hp, by simp; omega, hok⟩, ?_, fun g hg => hnew g hg⟩
  exact ((Mv.of_new h3 (RbD r ov)).trans hm (fun i _ h => .inr h)).trans hm5 (fun i _ h => .inl h)
theorem RbWent.refl {w : World} {base r : Nat} {ov : Option Nat} {b : Bg} (h : RbAt w base r ov b) : RbWent w w base r ov b ov := ⟨h, Mv.refl _ _, NewRow.refl _ _⟩
theorem RbWent.new' {w w' : World} {base r : Nat} {ov : Option Nat} {b : Bg} (h : RbAt w base r ov b) (hb : Below w.heap.size w w') : RbWent w w' base r ov b ov :=
  ⟨h.mv (Mv.of_new hb (fun _ => False)) (fun h => h) (fun _ _ h => h), Mv.of_new hb _, NewRow.refl _ _⟩
theorem RbWent.from {w w0 w' : World} {base r : Nat} {ov ov' : Option Nat} {b : Bg} (h : RbWent w0 w' base r ov b ov') (hm : Mv (fun _ => False) w w0) : RbWent w w' base r ov b ov' :=
  ⟨h.now, (hm.mono (D' := RbD r ov) (fun _ _ h => h.elim)).trans h.moved (fun _ _ h => h), fun g hg => by
    rcases h.new g hg with h1 | h1
    · exact .inl h1
    · exact .inr (Nat.le_trans hm.size h1)⟩
theorem RbAt.whole {w : World} {base r : Nat} {ov : Option Nat} {b : Bg} (h : RbAt w base r ov b) : ∃ A c, Whole w r 31 [.slice A b.l.length c, .int .i64 (b.room : Int)] ∧ OwnL w base (.slice A b.l.length c) b.l ∧ Value.ownBlock (.slice A b.l.length c) = ov := by
  obtain ⟨A, c, n, hb, rfl, ho, hv, _⟩ := h
  exact ⟨A, c, hb, ho, hv⟩
set_option maxRecDepth 100000 in
/-- a literal of one letter -/
theorem RdL.one (w : World) (x : Ltr) : Rd encL 3 (w.alloc (.cells #[.int .i64 x.to, .string (strB x.text), .bool x.sp] 36)) (w.heap.size + 1) (.slice (some ⟨w.heap.size, 0, none⟩) 1 1) [x] := by
  have hW : Whole (w.alloc (.cells #[.int .i64 x.to, .string (strB x.text), .bool x.sp] 36)) w.heap.size 36 [.int .i64 x.to, .string (strB x.text), .bool x.sp] := Whole.fresh w _ [_, _, _]
  refine ⟨_, 1, rfl, Nat.le_refl _, fun i hi => ⟨w.heap.size, 0, rfl, Nat.lt_succ_self _, fun j u hu => ?_⟩⟩
  obtain rfl : i = 0 := by simp at hi; omega
  have h1 := hW.cell j u
  simp only [encL, List.getElem_cons_zero] at hu
  simpa using h1 hu

set_option maxHeartbeats 8000000 in
set_option maxRecDepth 100000 in
theorem rsend_any (base r : Nat) (ov : Option Nat) (b : Bg) (to : Int) (t : List UInt8) (v : Value) (w : World) (h : RbAt w base r ov b) (hv : ∀ w1, Mv (RbD r ov) w w1 → RdB w1 w1.heap.size v t) (ht : t.length ≤ 140737488351232) :
    Calls Try.prog 11 #[.pointer (some ⟨r, 0, none⟩), .int .i64 to, v] w fun e w' => e = .returned (.int .i64 (b.send to t).1) ∧ ∃ ov', RbWent w w' base r ov (b.send to t).2 ov' := by
  obtain ⟨R, hR⟩ : ∃ R, R = b.send to t := ⟨_, rfl⟩
  rw [← hR]
  unfold Bg.send at hR
  have hok := h.ok
  have hbl : b.l.length ≤ 4096 := by obtain ⟨k1, k2, k3⟩ := hok; omega
  obtain ⟨Av, cv, rfl, -, -⟩ := (hv w (Mv.refl _ _)).at
  have HR := Lib.hid hR
  have HV := Lib.hid hv
  have HB := Lib.hid h
  have HOK := Lib.hid hok
  clear hR hv h hok
  by_cases h1 : to < 0 ∨ 255 < to
  · have hr := HR.out
    rw [if_pos h1] at hr
    have HR2 := Lib.hid hr; clear hr
    by_cases h0 : to < 0
    · clear h1
      go_enter Try.func11, Try.ntmps11
      go_wp2_with fail
      go_ret
      exact ⟨by rw [HR2.out]; rfl, ov, by rw [HR2.out]; exact RbWent.refl HB.out⟩
    · have h2 : 255 < to := by omega
      clear h1
      go_enter Try.func11, Try.ntmps11
      go_wp2_with fail
      go_ret
      exact ⟨by rw [HR2.out]; rfl, ov, by rw [HR2.out]; exact RbWent.refl HB.out⟩
  · have hr := HR.out
    rw [if_neg h1] at hr
    have h0 : ¬ to < 0 := by omega
    have h2 : ¬ 255 < to := by omega
    clear h1
    by_cases h3 : 131072 < t.length
    · rw [if_pos h3] at hr
      have HR2 := Lib.hid hr; clear hr
      have h4 : (131072 : Int) < (t.length : Int) := by omega
      go_enter Try.func11, Try.ntmps11
      go_wp2_with fail
      go_ret
      exact ⟨by rw [HR2.out]; rfl, ov, by rw [HR2.out]; exact RbWent.refl HB.out⟩
    · rw [if_neg h3] at hr
      have h4 : ¬ (131072 : Int) < (t.length : Int) := by omega
      have hlt := HB.out.low.2.1
      obtain ⟨A, c, hb, ho, hv0⟩ := HB.out.whole
      have c0 := hb.cell 0 _ rfl
      have c1 := hb.cell 1 _ rfl
      by_cases h5 : b.room ≤ b.l.length
      · rw [if_pos h5] at hr
        have HR2 := Lib.hid hr; clear hr ho hv0 hb
        have h6 : (b.room : Int) ≤ (b.l.length : Int) := by omega
        go_enter Try.func11, Try.ntmps11
        go_wp2_with fail
        refine wp_region_planB [(true, 0), (true, 1), (true, 2), (true, 3), (true, 4), (true, 5), (true, 6), (true, 7), (true, 8), (true, 9)] (by kernel_rfl) (by kernel_rfl) (fun _ _ d _ _ h => by cases d <;> exact h) ?_
        repeat (refine PlanB.take (v := ?_) rfl rfl ?_ ?_; rotate_left; (focus (intro W hW; have k0 := (hW.cell (p := ⟨r, 0, none⟩) hlt).trans c0; have k1 := (hW.cell (p := ⟨r, 1, none⟩) hlt).trans c1; go_simp; (try with_reducible rfl); done)); (try simp only [Act.put, List.setIfInBounds_toArray, List.set_cons_zero, List.set_cons_succ]))
        simp only [PlanB]
        go_wp2_with fail
        go_ret
        exact ⟨by rw [HR2.out]; rfl, ov, by rw [HR2.out]; exact RbWent.new' HB.out ((Below.refl _ w).drew)⟩
      · rw [if_neg h5] at hr
        have HR2 := Lib.hid hr; clear hr
        have h6 : ¬ (b.room : Int) ≤ (b.l.length : Int) := by omega
        have hok2 : Bg.Ok { b with l := b.l ++ [⟨to, t, false⟩] } := by
          have := HOK.out.send to t
          unfold Bg.send at this
          rw [if_neg (by omega), if_neg h3, if_neg h5] at this
          exact this
        have HOK2 := Lib.hid hok2
        have HRW := Lib.hid hb
        have HO := Lib.hid ho
        have HOV := Lib.hid hv0
        clear hb ho hv0 hok2 h5
        go_enter Try.func11, Try.ntmps11
        go_wp2_with fail
        refine wp_region_planB [(true, 0), (true, 1), (true, 2), (true, 3), (true, 4), (true, 5), (true, 6), (true, 7), (true, 8), (true, 9)] (by kernel_rfl) (by kernel_rfl) (fun _ _ d _ _ h => by cases d <;> exact h) ?_
        repeat (refine PlanB.take (v := ?_) rfl rfl ?_ ?_; rotate_left; (focus (intro W hW; have k0 := (hW.cell (p := ⟨r, 0, none⟩) hlt).trans c0; have k1 := (hW.cell (p := ⟨r, 1, none⟩) hlt).trans c1; go_simp; (try with_reducible rfl); done)); (try simp only [Act.put, List.setIfInBounds_toArray, List.set_cons_zero, List.set_cons_succ]))
        simp only [PlanB]
        clear c0 c1
        go_wp2_with fail
        obtain ⟨w0, hw0⟩ : ∃ w0, w0 = w.drew.drew := ⟨_, rfl⟩
        have hm0 : Mv (fun _ => False) w w0 := by rw [hw0]; exact ((Mv.refl _ w).drew).drew
        obtain ⟨S1, hS1⟩ : ∃ S1, S1 = strB t := ⟨_, rfl⟩
        have hS : ∀ W, Mv (RbD r ov) w W → (convert 32 9 (.slice Av t.length cv)).run Try.prog W = .ok (.string S1) W := fun W hW => by rw [hS1]; exact run_convB (HV.out W hW)
        have HS := Lib.hid hS
        have hm0' : Mv (RbD r ov) w w0 := hm0.mono (fun _ _ h => h.elim)
        have hb0 : RbAt w0 base r ov b := HB.out.mv hm0 (fun h => h) (fun _ _ h => h)
        have hrw : Whole w0 r 31 _ := hm0.whole HRW.out (fun h => h)
        have hoo : OwnL w0 base (.slice A b.l.length c) b.l := HO.out.mvG hm0 (fun _ _ h => h)
        obtain ⟨wf, hwf⟩ : ∃ wf, wf = w0.alloc (.cells #[.int .i64 to, .string S1, .bool false] 36) := ⟨_, rfl⟩
        have hF : Below w0.heap.size w0 wf := by rw [hwf]; exact (Below.refl _ w0).alloc (Nat.le_refl _) _
        have hone : Rd encL 3 wf (w0.heap.size + 1) (.slice (some ⟨w0.heap.size, 0, none⟩) 1 1) [⟨to, t, false⟩] := by rw [hwf, hS1]; exact RdL.one w0 ⟨to, t, false⟩
        have hmf := Mv.of_new hF (fun _ => False)
        have hsk : ∀ w4, Mv (fun i => some i = ov) wf w4 → Mv (RbD r ov) w w4 := fun w4 hm => ((hm0.mono (D' := RbD r ov) (fun _ _ h => h.elim)).trans (Mv.of_new hF (RbD r ov)) (fun _ _ h => h)).trans hm (fun i _ h => .inr h)
        have HB0 := Lib.hid hb0
        have HM0 := Lib.hid hm0
        have HF := Lib.hid hF
        have HONE := Lib.hid hone
        have HOF := Lib.hid (hoo.mvG hmf (fun _ _ h => h))
        have HRF := Lib.hid (hmf.whole hrw (fun h => h))
        have HAP := Lib.hid (show ov ≠ some r from fun e => HO.out.apart HRW.out (by decide) (HOV.out.trans e).symm)
        have HZB := Lib.hid (show base ≤ wf.heap.size from Nat.le_trans HB0.out.low.2.2 hF.size)
        have HSF := Lib.hid (HS.out wf (hm0'.trans (Mv.of_new hF (RbD r ov)) (fun _ _ h => h)))
        have HSK := Lib.hid (fun w4 (hm : Mv (fun i => some i = ov) wf w4) => HS.out w4 (hsk w4 hm))
        have HSL := Lib.hid (fun w4 (u : Value) (hm : Mv (fun i => some i = ov) wf w4) => HS.out (w4.setCell ⟨r, 0, none⟩ u) ((hsk w4 hm).setCell (p := ⟨r, 0, none⟩) (fun _ => .inl rfl) u))
        have HS0 := Lib.hid (HS.out w0 hm0')
        have HWF := Lib.hid hwf
        have HW0 := Lib.hid hw0
        clear hm0' hb0 hF hone hmf hsk hoo hS1 hwf hS
        refine wp_region_planT (fun W => (convert 32 9 (.slice Av t.length cv)).run Try.prog W = .ok (.string S1) W) (.take 0 (.take 1 (.take 2 (.take 3 (.take 5 (.take 6 (.take 7 (.take 8 (.fork 4 (.step 9 (.step 10 (.take 11 (.take 12 (.step 13 .done))))) 9 (.step 4 (.step 10 (.take 11 (.take 12 (.step 13 .done)))))))))))))) (by kernel_rfl) (by kernel_rfl) (fun _ _ d _ _ h => by cases d <;> exact h) (by rw [HW0.out] at HS0; exact HS0.out) ?_
        rw [← HW0.out]
        clear hw0
        (refine PlanT.takeI (v := ?_) rfl rfl ?_ ?_; rotate_left; (focus (intro W hW; have k0 := hW; go_simp; (try with_reducible rfl); done)); (try simp only [Act.put, List.setIfInBounds_toArray, List.set_cons_zero, List.set_cons_succ]))
        (refine PlanT.takeI (v := ?_) rfl rfl ?_ ?_; rotate_left; (focus (intro W hW; have k0 := hW; go_simp; (try with_reducible rfl); done)); (try simp only [Act.put, List.setIfInBounds_toArray, List.set_cons_zero, List.set_cons_succ]))
        (refine PlanT.takeI (v := ?_) rfl rfl ?_ ?_; rotate_left; (focus (intro W hW; have k0 := hW; go_simp; (try with_reducible rfl); done)); (try simp only [Act.put, List.setIfInBounds_toArray, List.set_cons_zero, List.set_cons_succ]))
        (refine PlanT.takeI (v := ?_) rfl rfl ?_ ?_; rotate_left; (focus (intro W hW; have k0 := hW; go_simp; (try with_reducible rfl); done)); (try simp only [Act.put, List.setIfInBounds_toArray, List.set_cons_zero, List.set_cons_succ]))
        (refine PlanT.takeI (v := ?_) rfl rfl ?_ ?_; rotate_left; (focus (intro W hW; have k0 := hW; go_simp; (try with_reducible rfl); done)); (try simp only [Act.put, List.setIfInBounds_toArray, List.set_cons_zero, List.set_cons_succ]))
        (refine PlanT.takeI (v := ?_) rfl rfl ?_ ?_; rotate_left; (focus (intro W hW; have k0 := hW; go_simp; (try with_reducible rfl); done)); (try simp only [Act.put, List.setIfInBounds_toArray, List.set_cons_zero, List.set_cons_succ]))
        (refine PlanT.takeI (v := ?_) rfl rfl ?_ ?_; rotate_left; (focus (intro W hW; have k0 := hW; go_simp; (try with_reducible rfl); done)); (try simp only [Act.put, List.setIfInBounds_toArray, List.set_cons_zero, List.set_cons_succ]))
        (refine PlanT.takeI (v := ?_) rfl rfl ?_ ?_; rotate_left; (focus (intro W hW; have k0 := hW; go_simp; (try with_reducible rfl); done)); (try simp only [Act.put, List.setIfInBounds_toArray, List.set_cons_zero, List.set_cons_succ]))
        refine ⟨wpOp_stepT rfl rfl (fun Kk hKk => ?_), wpOp_stepT rfl rfl (fun Kk hKk => ?_)⟩
        · have q0 := hrw.cell 0 _ rfl
          go_simp
          refine hKk.out _ _ HS0.out ?_
          clear hKk Kk q0
          (try simp only [Act.put, List.setIfInBounds_toArray, List.set_cons_zero, List.set_cons_succ])
          refine wpOp_stepT rfl rfl (fun Kk hKk => ?_)
          go_simp
          rw [← HWF.out]
          refine hKk.out _ _ HSF.out ?_
          clear hKk Kk
          (try simp only [Act.put, List.setIfInBounds_toArray, List.set_cons_zero, List.set_cons_succ])
          refine wpOp_stepT rfl rfl (fun Kk hKk => ?_)
          refine wp_addL _ _ rfl base (.slice A b.l.length c) b.l rfl HOF.out (w0.heap.size + 1) (.slice (some ⟨w0.heap.size, 0, none⟩) 1 1) [⟨to, t, false⟩] rfl HONE.out (by show _ + 1 ≤ _; omega) HZB.out (fun A4 c4 w4 ho4 hg4 hn4 => ?_)
          have hn4' : b.l.length + 1 = (b.l ++ [(⟨to, t, false⟩ : Ltr)]).length := by simp
          rw [← hn4'] at ho4 hn4
          have HN4 := Lib.hid hn4'; clear hn4'
          rw [HOV.out] at hg4 hn4
          have hm4 := Mv.of_grown hg4
          refine hKk.out _ _ (HSK.out w4 hm4) ?_
          clear hKk Kk hg4
          (try simp only [Act.put, List.setIfInBounds_toArray, List.set_cons_zero, List.set_cons_succ])
          (refine PlanT.takeI (v := ?_) rfl rfl ?_ ?_; rotate_left; (focus (intro W hW; go_simp; (try with_reducible rfl); done)); (try simp only [Act.put, List.setIfInBounds_toArray, List.set_cons_zero, List.set_cons_succ]))
          (refine PlanT.takeI (v := ?_) rfl rfl ?_ ?_; rotate_left; (focus (intro W hW; go_simp; (try with_reducible rfl); done)); (try simp only [Act.put, List.setIfInBounds_toArray, List.set_cons_zero, List.set_cons_succ]))
          have hr4 : Whole w4 r 31 _ := hm4.whole HRF.out (fun e => HAP.out e.symm)
          refine wpOp_stepT rfl rfl (fun Kk hKk => ?_)
          have q0 := hr4.cell 0 _ rfl
          have q0f := hr4.frozen 0
          go_simp
          refine hKk.out _ _ (HSL.out w4 _ hm4) ?_
          clear hKk Kk q0 q0f
          (try simp only [Act.put, List.setIfInBounds_toArray, List.set_cons_zero, List.set_cons_succ])
          simp only [PlanT]
          have hwent := RbAt.relist HB0.out HF.out hm4 HN4.out ho4 (fun g hg => by rcases hn4 g hg with h | h; exact .inl h; exact .inr (Nat.le_trans HF.out.size h)) HOK2.out
          have HWENT := Lib.hid (hwent.from HM0.out)
          clear hwent hr4 ho4 hn4 hm4
          go_wp2_with fail
          go_ret
          exact ⟨by rw [HR2.out]; rfl, _, by rw [HR2.out]; exact HWENT.out⟩
        · go_simp
          rw [← HWF.out]
          refine hKk.out _ _ HSF.out ?_
          clear hKk Kk
          (try simp only [Act.put, List.setIfInBounds_toArray, List.set_cons_zero, List.set_cons_succ])
          refine wpOp_stepT rfl rfl (fun Kk hKk => ?_)
          have q0 := HRF.out.cell 0 _ rfl
          go_simp
          refine hKk.out _ _ HSF.out ?_
          clear hKk Kk q0
          (try simp only [Act.put, List.setIfInBounds_toArray, List.set_cons_zero, List.set_cons_succ])
          refine wpOp_stepT rfl rfl (fun Kk hKk => ?_)
          refine wp_addL _ _ rfl base (.slice A b.l.length c) b.l rfl HOF.out (w0.heap.size + 1) (.slice (some ⟨w0.heap.size, 0, none⟩) 1 1) [⟨to, t, false⟩] rfl HONE.out (by show _ + 1 ≤ _; omega) HZB.out (fun A4 c4 w4 ho4 hg4 hn4 => ?_)
          have hn4' : b.l.length + 1 = (b.l ++ [(⟨to, t, false⟩ : Ltr)]).length := by simp
          rw [← hn4'] at ho4 hn4
          have HN4 := Lib.hid hn4'; clear hn4'
          rw [HOV.out] at hg4 hn4
          have hm4 := Mv.of_grown hg4
          refine hKk.out _ _ (HSK.out w4 hm4) ?_
          clear hKk Kk hg4
          (try simp only [Act.put, List.setIfInBounds_toArray, List.set_cons_zero, List.set_cons_succ])
          (refine PlanT.takeI (v := ?_) rfl rfl ?_ ?_; rotate_left; (focus (intro W hW; go_simp; (try with_reducible rfl); done)); (try simp only [Act.put, List.setIfInBounds_toArray, List.set_cons_zero, List.set_cons_succ]))
          (refine PlanT.takeI (v := ?_) rfl rfl ?_ ?_; rotate_left; (focus (intro W hW; go_simp; (try with_reducible rfl); done)); (try simp only [Act.put, List.setIfInBounds_toArray, List.set_cons_zero, List.set_cons_succ]))
          have hr4 : Whole w4 r 31 _ := hm4.whole HRF.out (fun e => HAP.out e.symm)
          refine wpOp_stepT rfl rfl (fun Kk hKk => ?_)
          have q0 := hr4.cell 0 _ rfl
          have q0f := hr4.frozen 0
          go_simp
          refine hKk.out _ _ (HSL.out w4 _ hm4) ?_
          clear hKk Kk q0 q0f
          (try simp only [Act.put, List.setIfInBounds_toArray, List.set_cons_zero, List.set_cons_succ])
          simp only [PlanT]
          have hwent := RbAt.relist HB0.out HF.out hm4 HN4.out ho4 (fun g hg => by rcases hn4 g hg with h | h; exact .inl h; exact .inr (Nat.le_trans HF.out.size h)) HOK2.out
          have HWENT := Lib.hid (hwent.from HM0.out)
          clear hwent hr4 ho4 hn4 hm4
          go_wp2_with fail
          go_ret
          exact ⟨by rw [HR2.out]; rfl, _, by rw [HR2.out]; exact HWENT.out⟩

set_option maxHeartbeats 8000000 in
set_option maxRecDepth 100000 in
theorem rtwin_any (base r : Nat) (ov : Option Nat) (b : Bg) (i : Int) (w : World) (h : RbAt w base r ov b) :
    Calls Try.prog 17 #[.pointer (some ⟨r, 0, none⟩), .int .i64 i] w fun e w' => e = .returned (.int .i64 (b.twin i).1) ∧ ∃ ov', RbWent w w' base r ov (b.twin i).2 ov' := by
  obtain ⟨R, hR⟩ : ∃ R, R = b.twin i := ⟨_, rfl⟩
  rw [← hR]
  unfold Bg.twin at hR
  have hok := h.ok
  have hbl : b.l.length ≤ 4096 := by obtain ⟨k1, k2, k3⟩ := hok; omega
  have HR := Lib.hid hR
  have HB := Lib.hid h
  have HOK := Lib.hid hok
  have hlook := rlook_any base r ov b i w h
  obtain ⟨⟨x, ex⟩, hx⟩ : ∃ X, X = b.look i := ⟨_, rfl⟩
  rw [← hx] at hlook
  have hxv : lval x = .agg #[.int .i64 x.to, .string (strB x.text), .bool x.sp] := rfl
  simp only [hxv] at hlook
  have HL := Lib.hid hlook
  have HX := Lib.hid hx
  clear hR h hok hlook hx hxv
  obtain ⟨S1, hS1⟩ : ∃ S1, S1 = strB x.text := ⟨_, rfl⟩
  rw [← hS1] at HL
  have HS1 := Lib.hid hS1; clear hS1
  have hrb : r < w.heap.size := HB.out.low.2.1
  go_enter Try.func17, Try.ntmps17
  go_wp2_with fail
  refine HL.out.mono ?_
  rintro e w1 ⟨rfl, hb1⟩
  have HB1 := Lib.hid hb1
  have hs1 := hb1.size
  clear hb1 HL
  by_cases hi : b.has i
  · have he : ex = 0 := by have := HX.out; rw [Bg.look_at hi] at this; exact (Prod.mk.inj this).2
    subst he
    have hr := HR.out
    rw [if_neg (by simpa using hi)] at hr
    have hxx : (b.look i).1 = x := by rw [← HX.out]
    rw [hxx] at hr
    have hW1 : Whole (w1.alloc (.cells #[.int .i64 x.to, .string S1, .bool x.sp] 36)) w1.heap.size 36 [.int .i64 x.to, .string S1, .bool x.sp] := Whole.fresh w1 _ [_, _, _]
    have hB2 : Below w.heap.size w (w1.alloc (.cells #[.int .i64 x.to, .string S1, .bool x.sp] 36)) := HB1.out.alloc hs1 _
    have HW1 := Lib.hid hW1
    have HB2 := Lib.hid hB2
    obtain ⟨w2, hw2⟩ : ∃ w2, w2 = w1.alloc (.cells #[.int .i64 x.to, .string S1, .bool x.sp] 36) := ⟨_, rfl⟩
    rw [← hw2] at HW1 HB2
    have HW2 := Lib.hid hw2
    have hb2 : RbAt w2 base r ov b := HB.out.mv (Mv.of_new HB2.out (fun _ => False)) (fun h => h) (fun _ _ h => h)
    have hlt := hb2.low.2.1
    obtain ⟨A, c, hb, ho, hv0⟩ := hb2.whole
    have c0 := hb.cell 0 _ rfl
    have c1 := hb.cell 1 _ rfl
    have HBB := Lib.hid hb2
    clear hW1 hB2 hw2 hxx hb2
    by_cases h5 : b.room ≤ b.l.length
    · rw [if_pos h5] at hr
      have HR2 := Lib.hid hr; clear hr ho hv0 hb
      have h6 : (b.room : Int) ≤ (b.l.length : Int) := by omega
      go_wp2_with fail
      rw [← HW2.out]
      refine wp_region_planB [(true, 0), (true, 1), (true, 2), (true, 3), (true, 4), (true, 5), (true, 6), (true, 7), (true, 8), (true, 9)] (by kernel_rfl) (by kernel_rfl) (fun _ _ d _ _ h => by cases d <;> exact h) ?_
      repeat (refine PlanB.take (v := ?_) rfl rfl ?_ ?_; rotate_left; (focus (intro W hW; have k0 := (hW.cell (p := ⟨r, 0, none⟩) hlt).trans c0; have k1 := (hW.cell (p := ⟨r, 1, none⟩) hlt).trans c1; go_simp; (try with_reducible rfl); done)); (try simp only [Act.put, List.setIfInBounds_toArray, List.set_cons_zero, List.set_cons_succ]))
      simp only [PlanB]
      go_wp2_with fail
      go_ret
      exact ⟨by rw [HR2.out]; rfl, ov, by rw [HR2.out]; exact RbWent.new' HB.out (HB2.out.drew)⟩
    · rw [if_neg h5] at hr
      have HR2 := Lib.hid hr; clear hr
      have h6 : ¬ (b.room : Int) ≤ (b.l.length : Int) := by omega
      have hok2 : Bg.Ok { b with l := b.l ++ [x] } := by
        have h7 := HOK.out.twin i
        unfold Bg.twin at h7
        rw [if_neg (by simpa using hi), if_neg h5, ← HX.out] at h7
        exact h7
      have HOK2 := Lib.hid hok2
      have HRW := Lib.hid hb
      have HO := Lib.hid ho
      have HOV := Lib.hid hv0
      clear hb ho hv0 hok2 h5
      go_wp2_with fail
      rw [← HW2.out]
      refine wp_region_planB [(true, 0), (true, 1), (true, 2), (true, 3), (true, 4), (true, 5), (true, 6), (true, 7), (true, 8), (true, 9)] (by kernel_rfl) (by kernel_rfl) (fun _ _ d _ _ h => by cases d <;> exact h) ?_
      repeat (refine PlanB.take (v := ?_) rfl rfl ?_ ?_; rotate_left; (focus (intro W hW; have k0 := (hW.cell (p := ⟨r, 0, none⟩) hlt).trans c0; have k1 := (hW.cell (p := ⟨r, 1, none⟩) hlt).trans c1; go_simp; (try with_reducible rfl); done)); (try simp only [Act.put, List.setIfInBounds_toArray, List.set_cons_zero, List.set_cons_succ]))
      simp only [PlanB]
      clear c0 c1
      go_wp2_with fail
      obtain ⟨w0, hw0⟩ : ∃ w0, w0 = w2.drew.drew := ⟨_, rfl⟩
      have hm2 : Mv (fun _ => False) w2 w0 := by rw [hw0]; exact ((Mv.refl _ w2).drew).drew
      have hm0 : Mv (fun _ => False) w w0 := (Mv.of_new HB2.out (fun _ => False)).trans hm2 (fun _ _ h => h)
      have hb0 : RbAt w0 base r ov b := HB.out.mv hm0 (fun h => h) (fun _ _ h => h)
      have hrw : Whole w0 r 31 _ := hm2.whole HRW.out (fun h => h)
      have hoo : OwnL w0 base (.slice A b.l.length c) b.l := HO.out.mvG hm2 (fun _ _ h => h)
      have hS0 : Whole w0 w1.heap.size 36 [.int .i64 x.to, .string S1, .bool x.sp] := hm2.whole HW1.out (fun h => h)
      obtain ⟨wf, hwf⟩ : ∃ wf, wf = w0.alloc (.cells #[.int .i64 x.to, .string S1, .bool x.sp] 36) := ⟨_, rfl⟩
      have hF : Below w0.heap.size w0 wf := by rw [hwf]; exact (Below.refl _ w0).alloc (Nat.le_refl _) _
      have hone : Rd encL 3 wf (w0.heap.size + 1) (.slice (some ⟨w0.heap.size, 0, none⟩) 1 1) [x] := by rw [hwf, HS1.out]; exact RdL.one w0 x
      have hmf := Mv.of_new hF (fun _ => False)
      have HB0 := Lib.hid hb0
      have HM0 := Lib.hid hm0
      have HF := Lib.hid hF
      have HONE := Lib.hid hone
      have HOF := Lib.hid (hoo.mvG hmf (fun _ _ h => h))
      have HRF := Lib.hid (hmf.whole hrw (fun h => h))
      have HAP := Lib.hid (show ov ≠ some r from fun e => HO.out.apart HRW.out (by decide) (HOV.out.trans e).symm)
      have HZB := Lib.hid (show base ≤ wf.heap.size from Nat.le_trans HB0.out.low.2.2 hF.size)
      have HSF := Lib.hid (hmf.whole hS0 (fun h => h))
      have hgo : ov ≠ some w1.heap.size := fun e => by have := (HB.out.row e).2; omega
      have HSK := Lib.hid (fun w4 (hm : Mv (fun i => some i = ov) wf w4) => hm.whole HSF.out (fun e => hgo e.symm))
      have HSL := Lib.hid (fun w4 (u : Value) (hm : Mv (fun i => some i = ov) wf w4) => (HSK.out w4 hm).away (p := ⟨r, 0, none⟩) (by show w1.heap.size ≠ r; omega) u)
      have HS0 := Lib.hid hS0
      have HWF := Lib.hid hwf
      have HW0 := Lib.hid hw0
      clear hb0 hF hone hmf hoo hwf hm0 hm2 hgo
      refine wp_region_planT (fun W => Whole W w1.heap.size 36 [.int .i64 x.to, .string S1, .bool x.sp]) (.take 0 (.take 1 (.take 2 (.take 3 (.take 5 (.fork 4 (.step 6 (.step 7 (.take 8 (.take 9 (.step 10 .done))))) 6 (.step 4 (.step 7 (.take 8 (.take 9 (.step 10 .done))))))))))) (by kernel_rfl) (by kernel_rfl) (fun _ _ d _ _ h => by cases d <;> exact h) (by rw [HW0.out] at HS0; exact HS0.out) ?_
      rw [← HW0.out]
      clear hw0
      (refine PlanT.takeI (v := ?_) rfl rfl ?_ ?_; rotate_left; (focus (intro W hW; have k0 := hW.cell 0 _ rfl; have k1 := hW.cell 1 _ rfl; have k2 := hW.cell 2 _ rfl; go_simp; (try with_reducible rfl); done)); (try simp only [Act.put, List.setIfInBounds_toArray, List.set_cons_zero, List.set_cons_succ]))
      (refine PlanT.takeI (v := ?_) rfl rfl ?_ ?_; rotate_left; (focus (intro W hW; have k0 := hW.cell 0 _ rfl; have k1 := hW.cell 1 _ rfl; have k2 := hW.cell 2 _ rfl; go_simp; (try with_reducible rfl); done)); (try simp only [Act.put, List.setIfInBounds_toArray, List.set_cons_zero, List.set_cons_succ]))
      (refine PlanT.takeI (v := ?_) rfl rfl ?_ ?_; rotate_left; (focus (intro W hW; have k0 := hW.cell 0 _ rfl; have k1 := hW.cell 1 _ rfl; have k2 := hW.cell 2 _ rfl; go_simp; (try with_reducible rfl); done)); (try simp only [Act.put, List.setIfInBounds_toArray, List.set_cons_zero, List.set_cons_succ]))
      (refine PlanT.takeI (v := ?_) rfl rfl ?_ ?_; rotate_left; (focus (intro W hW; have k0 := hW.cell 0 _ rfl; have k1 := hW.cell 1 _ rfl; have k2 := hW.cell 2 _ rfl; go_simp; (try with_reducible rfl); done)); (try simp only [Act.put, List.setIfInBounds_toArray, List.set_cons_zero, List.set_cons_succ]))
      (refine PlanT.takeI (v := ?_) rfl rfl ?_ ?_; rotate_left; (focus (intro W hW; have k0 := hW.cell 0 _ rfl; have k1 := hW.cell 1 _ rfl; have k2 := hW.cell 2 _ rfl; go_simp; (try with_reducible rfl); done)); (try simp only [Act.put, List.setIfInBounds_toArray, List.set_cons_zero, List.set_cons_succ]))
      refine ⟨wpOp_stepT rfl rfl (fun Kk hKk => ?_), wpOp_stepT rfl rfl (fun Kk hKk => ?_)⟩
      · have q0 := hrw.cell 0 _ rfl
        go_simp
        refine hKk.out _ _ HS0.out ?_
        clear hKk Kk q0
        (try simp only [Act.put, List.setIfInBounds_toArray, List.set_cons_zero, List.set_cons_succ])
        refine wpOp_stepT rfl rfl (fun Kk hKk => ?_)
        go_simp
        rw [← HWF.out]
        refine hKk.out _ _ HSF.out ?_
        clear hKk Kk
        (try simp only [Act.put, List.setIfInBounds_toArray, List.set_cons_zero, List.set_cons_succ])
        refine wpOp_stepT rfl rfl (fun Kk hKk => ?_)
        refine wp_addL _ _ rfl base (.slice A b.l.length c) b.l rfl HOF.out (w0.heap.size + 1) (.slice (some ⟨w0.heap.size, 0, none⟩) 1 1) [x] rfl HONE.out (by show _ + 1 ≤ _; omega) HZB.out (fun A4 c4 w4 ho4 hg4 hn4 => ?_)
        have hn4' : b.l.length + 1 = (b.l ++ [(x : Ltr)]).length := by simp
        rw [← hn4'] at ho4 hn4
        have HN4 := Lib.hid hn4'; clear hn4'
        rw [HOV.out] at hg4 hn4
        have hm4 := Mv.of_grown hg4
        refine hKk.out _ _ (HSK.out w4 hm4) ?_
        clear hKk Kk hg4
        (try simp only [Act.put, List.setIfInBounds_toArray, List.set_cons_zero, List.set_cons_succ])
        (refine PlanT.takeI (v := ?_) rfl rfl ?_ ?_; rotate_left; (focus (intro W hW; go_simp; (try with_reducible rfl); done)); (try simp only [Act.put, List.setIfInBounds_toArray, List.set_cons_zero, List.set_cons_succ]))
        (refine PlanT.takeI (v := ?_) rfl rfl ?_ ?_; rotate_left; (focus (intro W hW; go_simp; (try with_reducible rfl); done)); (try simp only [Act.put, List.setIfInBounds_toArray, List.set_cons_zero, List.set_cons_succ]))
        have hr4 : Whole w4 r 31 _ := hm4.whole HRF.out (fun e => HAP.out e.symm)
        refine wpOp_stepT rfl rfl (fun Kk hKk => ?_)
        have q0 := hr4.cell 0 _ rfl
        have q0f := hr4.frozen 0
        go_simp
        refine hKk.out _ _ (HSL.out w4 _ hm4) ?_
        clear hKk Kk q0 q0f
        (try simp only [Act.put, List.setIfInBounds_toArray, List.set_cons_zero, List.set_cons_succ])
        simp only [PlanT]
        have hwent := RbAt.relist HB0.out HF.out hm4 HN4.out ho4 (fun g hg => by rcases hn4 g hg with h | h; exact .inl h; exact .inr (Nat.le_trans HF.out.size h)) HOK2.out
        have HWENT := Lib.hid (hwent.from HM0.out)
        clear hwent hr4 ho4 hn4 hm4
        go_wp2_with fail
        go_ret
        exact ⟨by rw [HR2.out]; rfl, _, by rw [HR2.out]; exact HWENT.out⟩
      · go_simp
        rw [← HWF.out]
        refine hKk.out _ _ HSF.out ?_
        clear hKk Kk
        (try simp only [Act.put, List.setIfInBounds_toArray, List.set_cons_zero, List.set_cons_succ])
        refine wpOp_stepT rfl rfl (fun Kk hKk => ?_)
        have q0 := HRF.out.cell 0 _ rfl
        go_simp
        refine hKk.out _ _ HSF.out ?_
        clear hKk Kk q0
        (try simp only [Act.put, List.setIfInBounds_toArray, List.set_cons_zero, List.set_cons_succ])
        refine wpOp_stepT rfl rfl (fun Kk hKk => ?_)
        refine wp_addL _ _ rfl base (.slice A b.l.length c) b.l rfl HOF.out (w0.heap.size + 1) (.slice (some ⟨w0.heap.size, 0, none⟩) 1 1) [x] rfl HONE.out (by show _ + 1 ≤ _; omega) HZB.out (fun A4 c4 w4 ho4 hg4 hn4 => ?_)
        have hn4' : b.l.length + 1 = (b.l ++ [(x : Ltr)]).length := by simp
        rw [← hn4'] at ho4 hn4
        have HN4 := Lib.hid hn4'; clear hn4'
        rw [HOV.out] at hg4 hn4
        have hm4 := Mv.of_grown hg4
        refine hKk.out _ _ (HSK.out w4 hm4) ?_
        clear hKk Kk hg4
        (try simp only [Act.put, List.setIfInBounds_toArray, List.set_cons_zero, List.set_cons_succ])
        (refine PlanT.takeI (v := ?_) rfl rfl ?_ ?_; rotate_left; (focus (intro W hW; go_simp; (try with_reducible rfl); done)); (try simp only [Act.put, List.setIfInBounds_toArray, List.set_cons_zero, List.set_cons_succ]))
        (refine PlanT.takeI (v := ?_) rfl rfl ?_ ?_; rotate_left; (focus (intro W hW; go_simp; (try with_reducible rfl); done)); (try simp only [Act.put, List.setIfInBounds_toArray, List.set_cons_zero, List.set_cons_succ]))
        have hr4 : Whole w4 r 31 _ := hm4.whole HRF.out (fun e => HAP.out e.symm)
        refine wpOp_stepT rfl rfl (fun Kk hKk => ?_)
        have q0 := hr4.cell 0 _ rfl
        have q0f := hr4.frozen 0
        go_simp
        refine hKk.out _ _ (HSL.out w4 _ hm4) ?_
        clear hKk Kk q0 q0f
        (try simp only [Act.put, List.setIfInBounds_toArray, List.set_cons_zero, List.set_cons_succ])
        simp only [PlanT]
        have hwent := RbAt.relist HB0.out HF.out hm4 HN4.out ho4 (fun g hg => by rcases hn4 g hg with h | h; exact .inl h; exact .inr (Nat.le_trans HF.out.size h)) HOK2.out
        have HWENT := Lib.hid (hwent.from HM0.out)
        clear hwent hr4 ho4 hn4 hm4
        go_wp2_with fail
        go_ret
        exact ⟨by rw [HR2.out]; rfl, _, by rw [HR2.out]; exact HWENT.out⟩
  · have he : ex = 4 := by have := HX.out; unfold Bg.look at this; rw [if_neg hi] at this; exact (Prod.mk.inj this).2
    subst he
    have hr := HR.out
    rw [if_pos hi] at hr
    have HR2 := Lib.hid hr; clear hr
    go_wp2_with fail
    go_ret
    exact ⟨by rw [HR2.out]; rfl, ov, by rw [HR2.out]; exact RbWent.new' HB.out (HB1.out.alloc hs1 _)⟩
end Go.Proofs.Ytjkhdlmdgdcimaa

/- The reference's clock: Pass. -/
import Derived.Test.YtcigodaacdfagaaRm
namespace Go.Proofs.Ytcigodaacdfagaa
open Go.RowKit

theorem due_split {t : Int} {D R : List Bl} (hd : ∀ y ∈ D, y.at_ ≤ t) (hr : ∀ x R', R = x :: R' → ¬ x.at_ ≤ t) : Ck.due (D ++ R) t = D ∧ Ck.late (D ++ R) t = R := by
  unfold Ck.due Ck.late
  induction D with
  | nil =>
    cases R with
    | nil => exact ⟨rfl, rfl⟩
    | cons x R' =>
      have := hr x R' rfl
      simp only [List.nil_append]
      rw [List.takeWhile_cons, List.dropWhile_cons, if_neg (by simpa using this), if_neg (by simpa using this)]
      exact ⟨rfl, rfl⟩
  | cons y D ih =>
    obtain ⟨h1, h2⟩ := ih (fun z hz => hd z (List.mem_cons_of_mem _ hz))
    have hy : (decide (y.at_ ≤ t)) = true := by simpa using hd y (by simp)
    rw [List.cons_append, List.takeWhile_cons, List.dropWhile_cons, if_pos hy, if_pos hy, h1, h2]
    exact ⟨rfl, rfl⟩
def lenV : Value → Nat
  | .slice _ n _ => n
  | _ => 0
/-- the reference's clock with another time and other bells, its row where it was -/
theorem RkCells.here {w : World} {r : Nat} {G : Nat → Prop} {now : Int} {x : Bl} {l : List Bl} (h : RkCells w r G now (x :: l)) :
    ∃ b o cap, b ≠ r ∧ l.length + 1 ≤ cap ∧ Whole w r 29 [.int .i64 now, .slice (some ⟨b, o, none⟩) (l.length + 1) cap] ∧ w.cell? ⟨b, o, none⟩ = some (.int .i64 x.bell) ∧ w.cell? ⟨b, o + 1, none⟩ = some (.int .i64 x.at_) ∧
      ∀ (A : Option Addr), (1 < cap → A = some ⟨b, o + 2, none⟩) → RdG encBl 2 w w.heap.size (fun i => ¬ G i ∨ i = r) (.slice A l.length (cap - 1)) l := by
  obtain ⟨A, cap, hw, hrd⟩ := h
  obtain ⟨A2, c2, e, hc, hi⟩ := id hrd
  injection e with e1 _ e3
  subst e1 e3
  obtain ⟨b, o, rfl, hb, hg, hq⟩ := hi 0 (by simp)
  have q0 := hq 0 _ rfl
  have q1 := hq 1 _ rfl
  simp only [Nat.zero_mul, Nat.add_zero, List.getElem_cons_zero] at q0 q1
  simp only [List.length_cons] at hc
  refine ⟨b, o, cap, fun e => hg (.inr e), hc, hw, q0, q1, fun A hA => ?_⟩
  have := RdG.drop hrd 1 (cap - 1) (by simp) (by simp; omega) A (fun hl => by
    simp only [List.length_cons] at hl
    rw [hA (by omega)]
    rfl)
  simpa using this

theorem RkCells.tail {wr w4 : World} {r B : Nat} {G : Nat → Prop} {now : Int} {u : Value} {A : Option Addr} {cap : Nat} {l : List Bl} (hw : Whole wr r 29 [.int .i64 now, u]) (hd : RdG encBl 2 wr wr.heap.size (fun i => ¬ G i ∨ i = r) (.slice A l.length cap) l)
    (hm : Below B wr w4) (hlow : ∀ i, G i → i < B) (hr : G r) : RkCells (w4.setCell ⟨r, 1, none⟩ (.slice A l.length cap)) r G now l := by
  have h4 : Mv (fun i => B ≤ i) wr w4 := Mv.of_below hm
  have h5 : Mv (fun i => i = r) w4 (w4.setCell ⟨r, 1, none⟩ (.slice A l.length cap)) := (Mv.refl (fun i => i = r) w4).setCell (p := ⟨r, 1, none⟩) (fun _ => rfl) _
  refine ⟨A, cap, (h4.whole hw (by have := hlow r hr; omega)).put 1 _, ?_⟩
  have h6 := (hd.mv h4 (Nat.le_refl _) fun b _ hb => .inl fun hg => by have := hlow b hg; omega).mono (G' := fun i => ¬ G i ∨ i = r) h4.size fun _ _ h => h
  exact (h6.mv h5 (Nat.le_refl _) fun b _ hb => .inr hb).mono h5.size fun _ _ h => h

set_option maxHeartbeats 8000000 in
set_option maxRecDepth 100000 in
theorem rpass_any (base r : Nat) (G : Nat → Prop) (c : Ck) (n : Int) (w : World) (h : RkAt w base r G c) :
    Calls Try.prog 14 #[.pointer (some ⟨r, 0, none⟩), .int .i64 n] w fun e w' => ∃ A cap, e = .returned (.tuple #[.slice A (c.pass n).1.1.length cap, .int .i64 (c.pass n).1.2]) ∧ OwnI w' w.heap.size (.slice A (c.pass n).1.1.length cap) (c.pass n).1.1 ∧ RkAt w' base r G (c.pass n).2 ∧ Mv (fun i => i = r) w w' := by
  obtain ⟨⟨⟨RL, RE⟩, RC⟩, hR⟩ : ∃ R, R = c.pass n := ⟨_, rfl⟩
  rw [← hR]
  unfold Ck.pass at hR
  simp only
  have H := Lib.hid h
  obtain ⟨A0, cap0, hb0, _⟩ := h.blk
  have c0 := hb0.cell 0 _ rfl
  have f0 := hb0.frozen 0
  by_cases hn : n < 0
  · rw [if_pos hn] at hR
    obtain ⟨rfl, rfl, rfl⟩ : RL = [] ∧ RE = 1 ∧ RC = c := by simpa [and_assoc] using hR
    clear hR h hb0
    go_enter Try.func14, Try.ntmps14
    go_wp2_with fail
    exact bodyPost_ret (v := .tuple #[.slice none 0 0, .int .i64 1]) (by simp [results, Try.results14, go_sem]) rfl ⟨none, 0, rfl, Own.nil _ _, H.out, Mv.refl _ _⟩
  rw [if_neg hn] at hR
  have hlo := h.ok.low
  have hhi := h.ok.high
  have hw1 : IntKind.i64.wrap (1099511627776 - c.now) = 1099511627776 - c.now := by rw [IntKind.wrap_i64]; omega
  by_cases hbig : 1099511627776 - c.now < n
  · rw [if_pos hbig] at hR
    obtain ⟨rfl, rfl, rfl⟩ : RL = [] ∧ RE = 5 ∧ RC = c := by simpa [and_assoc] using hR
    clear hR h hb0
    go_enter Try.func14, Try.ntmps14
    go_wp2_with fail
    exact bodyPost_ret (v := .tuple #[.slice none 0 0, .int .i64 5]) (by simp [results, Try.results14, go_sem]) rfl ⟨none, 0, rfl, Own.nil _ _, H.out, Mv.refl _ _⟩
  rw [if_neg hbig] at hR
  have hok := h.ok.pass n
  unfold Ck.pass at hok
  rw [if_neg hn, if_neg hbig] at hok
  have hw2 : IntKind.i64.wrap (c.now + n) = c.now + n := by rw [IntKind.wrap_i64]; omega
  have hlen := h.ok.len
  obtain ⟨t, ht⟩ : ∃ t, t = c.now + n := ⟨_, rfl⟩
  rw [← ht] at hR hok
  have hw3 : IntKind.i64.wrap (c.now + n) = t := by rw [hw2, ht]
  clear hw2
  obtain ⟨L0, hL0⟩ : ∃ L0, L0 = c.l := ⟨_, rfl⟩
  have hcell0 : RkCells (w.setCell ⟨r, 0, none⟩ (.int .i64 t)) r G t L0 := by
    obtain ⟨A1, cap1, hb1, hrd1⟩ := h.blk
    rw [hL0]
    refine ⟨A1, cap1, hb1.put 0 _, (hrd1.mv ((Mv.refl (fun i => i = r) w).setCell (p := ⟨r, 0, none⟩) (fun _ => rfl) _) (Nat.le_refl _) fun b _ hd => .inr hd).mono (by simp) fun _ _ h => h⟩
  have hm0 : Mv (fun i => i = r) w (w.setCell ⟨r, 0, none⟩ (.int .i64 t)) := (Mv.refl (fun i => i = r) w).setCell (p := ⟨r, 0, none⟩) (fun _ => rfl) _
  rw [← hL0] at hR hok hlen
  have hrs : r < w.heap.size := hb0.size
  have HR := Lib.hid hR
  have HOK := Lib.hid hok
  have HT := Lib.hid ht
  have HC0 := Lib.hid hcell0
  have HM0 := Lib.hid hm0
  clear hR hok h hb0 hL0 hcell0 hm0 ht
  go_enter Try.func14, Try.ntmps14
  go_wp2_with fail
  have hz0 : (w.setCell ⟨r, 0, none⟩ (.int .i64 t)).heap.size = w.heap.size := by simp
  have hme := H.out.me
  have HS := Lib.hid (show OwnI ((w.setCell ⟨r, 0, none⟩ (.int .i64 t)).alloc (.cells #[] 3)) w.heap.size (.slice (some ⟨w.heap.size, 0, none⟩) 0 0) [] by
    have := Own.empty (enc := encI) (k := 1) (e := 3) (w.setCell ⟨r, 0, none⟩ (.int .i64 t)) w.heap.size (by rw [hz0]; exact Nat.le_refl _)
    rwa [hz0] at this)
  have HC1 := Lib.hid (HC0.out.mv ((Mv.refl (fun _ => False) _).alloc (.cells #[] 3)) hme (fun _ _ h => h))
  have HM1 := Lib.hid (HM0.out.alloc (.cells #[] 3))
  clear c0 f0 hw1 hw3 hz0 HC0 HM0 hlo hhi
  generalize (w.setCell ⟨r, 0, none⟩ (.int .i64 t)).alloc (.cells #[] 3) = w0 at HS HC1 HM1 ⊢
  go_loopw [6] (fun ov wr => ∃ (D R : List Bl) (A : Option Addr) (cap : Nat), L0 = D ++ R ∧ (∀ y ∈ D, y.at_ ≤ t) ∧ ov = .slice A D.length cap ∧ OwnI wr w.heap.size (.slice A D.length cap) (D.map (·.bell)) ∧ RkCells wr r G t R ∧ Mv (fun i => i = r) w wr) (fun ov _ => L0.length - lenV ov)
  case atStart => exact ⟨[], L0, _, _, rfl, by simp, rfl, HS.out, HC1.out, HM1.out⟩
  case round =>
    obtain ⟨D, R, A, cap, hsplit, hdue, rfl, ho, hc, hm⟩ := hrel
    have hdl : D.length + R.length = L0.length := by rw [hsplit, List.length_append]
    have HSP := Lib.hid hsplit
    have HD := Lib.hid hdue
    have HO := Lib.hid ho
    have HC := Lib.hid hc
    have HM := Lib.hid hm
    clear hsplit hdue ho hm HS HC1 HM1
    cases R with
    | nil =>
      obtain ⟨A1, cap1, hb1, _⟩ := hc
      have k0 : ∀ W, Below wr.drew.heap.size wr.drew W → W.cell? ⟨r, 1, none⟩ = some (.slice A1 0 cap1) := fun W hW => ((hb1.drew).below hW hb1.drew.size).cell 1 _ rfl
      have HK0 := Lib.hid k0
      have hfin : Ck.due L0 t = D ∧ Ck.late L0 t = [] := by
        rw [HSP.out]
        exact due_split HD.out (fun x R' e => by cases e)
      have HF := Lib.hid hfin
      clear k0 hb1 hfin hdl
      go_wp2_with fail
      refine wp_region_planB [(true, 0), (true, 1), (true, 2), (true, 3), (true, 4), (true, 5), (true, 6), (true, 7), (true, 8), (true, 9), (true, 10), (true, 11), (true, 12), (true, 13), (true, 14), (true, 15), (true, 16), (true, 17), (true, 18), (true, 19)] (by kernel_rfl) (by kernel_rfl) (fun _ _ d _ _ h => by cases d <;> exact h) ?_
      repeat (first | (refine PlanB.take (v := ?_) rfl rfl ?_ ?_; rotate_left; (focus (intro W hW; have k1 := HK0.out W hW; go_simp; (try with_reducible rfl); done)); (try simp only [Act.put, List.setIfInBounds_toArray, List.set_cons_zero, List.set_cons_succ])) | (refine PlanB.skip rfl rfl ?_; (try simp only [Act.put, List.setIfInBounds_toArray, List.set_cons_zero, List.set_cons_succ])))
      simp only [PlanB]
      go_wp2_with fail
      have hr := HR.out
      rw [HF.out.1, HF.out.2] at hr
      obtain ⟨⟨rfl, rfl⟩, rfl⟩ : (RL = D.map (·.bell) ∧ RE = 0) ∧ RC = ⟨t, []⟩ := by simpa using hr
      have hok := HOK.out
      rw [HF.out.2] at hok
      refine bodyPost_ret (v := .tuple #[.slice A D.length cap, .int .i64 0]) (by simp [results, Try.results14, go_sem]) rfl ⟨A, cap, by simp, by simpa using HO.out.drew, ?_, HM.out.drew⟩
      exact ⟨HC.out, H.out.me, ⟨Nat.le_trans H.out.low.1 HM.out.size, fun i hi => ⟨(H.out.low.2 i hi).1, Nat.lt_of_lt_of_le (H.out.low.2 i hi).2 HM.out.size⟩⟩, hok⟩
    | cons x R =>
      obtain ⟨b, o, cap1, hbr, hcap, hw, q0, q1, hdrop⟩ := hc.here
      have hdw : Below wr.heap.size wr wr.drew := (Below.refl _ _).drew
      have k0 : ∀ W, Below wr.drew.heap.size wr.drew W → W.cell? ⟨r, 1, none⟩ = some (.slice (some ⟨b, o, none⟩) (R.length + 1) cap1) ∧ W.cell? ⟨r, 0, none⟩ = some (.int .i64 t) ∧ W.cell? ⟨b, o + 1, none⟩ = some (.int .i64 x.at_) := fun W hW =>
        ⟨((hw.drew).below hW hw.drew.size).cell 1 _ rfl, ((hw.drew).below hW hw.drew.size).cell 0 _ rfl, (hW.cell (p := ⟨b, o + 1, none⟩) (World.block_lt_of_cell? _ _ q1)).trans q1⟩
      have HK0 := Lib.hid k0
      have HW := Lib.hid hw
      have HQ := Lib.hid q0
      have HDR := Lib.hid hdrop
      have HBR := Lib.hid hbr
      have HCAP := Lib.hid hcap
      obtain ⟨xb, xa⟩ := x
      simp only at HK0 HQ q1
      simp only [List.length_cons] at hdl
      have hpos : (0 : Int) < ((R.length + 1 : Nat) : Int) := by omega
      have h00 : (0 : Int) ≤ 0 := by omega
      obtain ⟨N, hN⟩ : ∃ N, N = R.length + 1 := ⟨_, rfl⟩
      rw [← hN] at hpos HK0 HW HCAP
      have hposN : 0 < N := by omega
      have HN := Lib.hid hN
      clear k0 hw q0 hdrop hbr hcap hdw q1 hc hN
      by_cases hx : xa ≤ t
      · go_wp2_with fail
        refine wp_region_planB [(true, 0), (true, 1), (true, 2), (true, 3), (true, 4), (true, 5), (true, 6), (true, 7), (true, 8), (true, 9), (true, 10), (true, 11), (true, 12), (true, 13), (true, 14), (true, 15), (true, 16), (true, 17), (true, 18), (true, 19)] (by kernel_rfl) (by kernel_rfl) (fun _ _ d _ _ h => by cases d <;> exact h) ?_
        repeat (first | (refine PlanB.take (v := ?_) rfl rfl ?_ ?_; rotate_left; (focus (intro W hW; obtain ⟨k1, k2, k3⟩ := HK0.out W hW; go_simp; (try with_reducible rfl); done)); (try simp only [Act.put, List.setIfInBounds_toArray, List.set_cons_zero, List.set_cons_succ])) | (refine PlanB.skip rfl rfl ?_; (try simp only [Act.put, List.setIfInBounds_toArray, List.set_cons_zero, List.set_cons_succ])))
        simp only [PlanB]
        have q0 : wr.drew.cell? ⟨b, o, none⟩ = some (.int .i64 xb) := HQ.out
        have p1 := HW.out.drew.cell 1 _ rfl
        have HOA := Lib.hid ((HO.out.drew).alloc (.cells #[.int .i64 xb] 3))
        have HRX := Lib.hid (RdI.one wr.drew xb)
        have HZA := Lib.hid (show w.heap.size ≤ (wr.drew.alloc (.cells #[.int .i64 xb] 3)).heap.size from Nat.le_trans HM.out.size (((Mv.refl (fun _ => False) wr).drew).alloc (.cells #[.int .i64 xb] 3)).size)
        have HLN := Lib.hid (show (D.map (·.bell)).length + [xb].length ≤ 28147497670000 by simp only [List.length_map, List.length_cons, List.length_nil]; omega)
        have HDL := Lib.hid (show (D.map (·.bell)).length = D.length by simp)
        obtain ⟨DB, hDB⟩ : ∃ DB, DB = D.map (·.bell) := ⟨_, rfl⟩
        rw [← hDB] at HOA HLN HDL
        have HDB := Lib.hid hDB
        clear hDB
        go_wp2_with (at_builtin; refine wpList_addI rfl _ _ rfl w.heap.size (.slice A D.length cap) DB rfl HOA.out (wr.drew.heap.size + 1) (.slice (some ⟨wr.drew.heap.size, 0, none⟩) 1 1) [xb] rfl HRX.out HLN.out HZA.out w.heap.size (wr.drew.alloc (.cells #[.int .i64 xb] 3)) (Below.refl _ _) (Nat.le_refl _) ?_)
        intro A4 c4 w4 ho4 hb4 hz4
        have hb5 : Below w.heap.size wr w4 := (((Below.refl w.heap.size wr).drew).alloc HM.out.size (.cells #[.int .i64 xb] 3)).trans hb4.out
        have hw4 := HW.out.below hb5 hrs
        have p1' := hw4.cell 1 _ rfl
        have p1f := hw4.frozen 1
        have HB5 := Lib.hid hb5
        have HO4 := ho4
        have HW4 := Lib.hid hw4
        have h1N : (1 : Int) ≤ (N : Int) := by omega
        have hNc : (N : Int) ≤ (cap1 : Int) := by have := HCAP.out; omega
        have h1c : (1 : Int) ≤ (cap1 : Int) := by omega
        have HMM := Lib.hid (HM.out.trans (Mv.of_below hb5) (D := fun i => i = r) (fun i hi h => by omega))
        clear ho4 hb4 hz4 hb5 hw4 p1 q0
        have HDU := Lib.hid (show ∀ y ∈ D ++ [(⟨xb, xa⟩ : Bl)], y.at_ ≤ t from fun y hy => by
          rcases List.mem_append.1 hy with h | h
          · exact HD.out y h
          · rw [List.mem_singleton.1 h]; exact hx)
        have HSQ := Lib.hid (show L0 = (D ++ [(⟨xb, xa⟩ : Bl)]) ++ R by rw [HSP.out]; simp)
        have HLOW := Lib.hid (show ∀ i, G i → i < w.heap.size from fun i hi => (H.out.low.2 i hi).2)
        have hNe := HN.out
        subst hNe
        clear hpos hposN
        by_cases hc1 : cap1 = 1
        case' pos =>
          subst hc1
          have HT5 := Lib.hid (fun A (hA : 1 < 1 → A = some ⟨b, o + 2, none⟩) => RkCells.tail HW.out (HDR.out A hA) HB5.out HLOW.out hme)
        case' neg =>
          have hc2 : (1 : Int) < (cap1 : Int) := by have := HCAP.out; omega
          have HT5 := Lib.hid (fun A (hA : 1 < cap1 → A = some ⟨b, o + 2, none⟩) => RkCells.tail HW.out (HDR.out A hA) HB5.out HLOW.out hme)
        all_goals
          go_wp2_with fail
          go_roundw
          case rel =>
            refine ⟨D ++ [⟨xb, xa⟩], R, A4, c4, HSQ.out, HDU.out, ?_, ?_, HT5.out _ (fun _ => by first | rfl | omega), HMM.out.setCell (p := ⟨r, 1, none⟩) (fun _ => rfl) _⟩
            · rw [HDL.out]; simp
            · have e1 : (D ++ [(⟨xb, xa⟩ : Bl)]).map (·.bell) = DB ++ [xb] := by rw [HDB.out]; simp
              have e2 : (D ++ [(⟨xb, xa⟩ : Bl)]).length = DB.length + 1 := by rw [HDL.out]; simp
              rw [e1, e2]
              exact Own.put HO4.out HW4.out (by decide) 1 _
          case measure =>
            have := HDL.out
            simp [lenV]
            omega
      · go_wp2_with fail
        refine wp_region_planB [(true, 0), (true, 1), (true, 2), (true, 3), (true, 4), (true, 5), (true, 6), (true, 7), (true, 8), (true, 9), (true, 10), (true, 11), (true, 12), (true, 13), (true, 14), (true, 15), (true, 16), (true, 17), (true, 18), (true, 19)] (by kernel_rfl) (by kernel_rfl) (fun _ _ d _ _ h => by cases d <;> exact h) ?_
        repeat (first | (refine PlanB.take (v := ?_) rfl rfl ?_ ?_; rotate_left; (focus (intro W hW; obtain ⟨k1, k2, k3⟩ := HK0.out W hW; go_simp; (try with_reducible rfl); done)); (try simp only [Act.put, List.setIfInBounds_toArray, List.set_cons_zero, List.set_cons_succ])) | (refine PlanB.skip rfl rfl ?_; (try simp only [Act.put, List.setIfInBounds_toArray, List.set_cons_zero, List.set_cons_succ])))
        simp only [PlanB]
        go_wp2_with fail
        have hfin : Ck.due L0 t = D ∧ Ck.late L0 t = ⟨xb, xa⟩ :: R := by
          rw [HSP.out]
          exact due_split HD.out (fun x R' e => by injection e with e _; rw [← e]; simp only; omega)
        have hr := HR.out
        rw [hfin.1, hfin.2] at hr
        obtain ⟨⟨rfl, rfl⟩, rfl⟩ : (RL = D.map (·.bell) ∧ RE = 0) ∧ RC = ⟨t, ⟨xb, xa⟩ :: R⟩ := by simpa using hr
        have hok := HOK.out
        rw [hfin.2] at hok
        refine bodyPost_ret (v := .tuple #[.slice A D.length cap, .int .i64 0]) (by simp [results, Try.results14, go_sem]) rfl ⟨A, cap, by simp, by simpa using HO.out.drew, ?_, HM.out.drew⟩
        exact ⟨HC.out, H.out.me, ⟨Nat.le_trans H.out.low.1 HM.out.size, fun i hi => ⟨(H.out.low.2 i hi).1, Nat.lt_of_lt_of_le (H.out.low.2 i hi).2 HM.out.size⟩⟩, hok⟩
end Go.Proofs.Ytcigodaacdfagaa

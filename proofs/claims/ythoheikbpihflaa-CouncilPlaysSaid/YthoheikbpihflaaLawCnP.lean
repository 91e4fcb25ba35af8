/- CouncilPlays' walk. -/
import Derived.Test.YthoheikbpihflaaFap
namespace Go.Proofs.Ythoheikbpihflaa
open Go.RowKit
attribute [local go_sem] less_eq same_eq le_eq ge_eq gt_eq

theorem PlanB.pass {P : Program} {ops : Array Oper} {Q : Exit → Act → World → Prop} {i : Nat} {o : Oper} {r : List (Bool × Nat)} {a : Act} {w : World} (hi : ops.toList[i]? = some o) (hw : Region.wanted o (yielded ops a.tmps) = false)
    (h : PlanB P ops Q r (a.put o.dst undef) w) : PlanB P ops Q ((false, i) :: r) a w := by
  show wpOp P ops Q i _ a w
  unfold wpOp
  have hi' : ops[i]? = some o := by simpa using hi
  simp only [hi', hw, Bool.false_eq_true, if_false]
  exact ⟨Below.refl _ _, h⟩

set_option maxHeartbeats 16000000 in
set_option maxRecDepth 100000 in
theorem councilPlays_walk (l : List CAct) (v : Value) (w : World) (hv : Rd encCA 9 w w.heap.size v l) (hok : ∀ a ∈ l, a.Ok w) (hl : l.length < 4611686018427387904) :
    Calls Try.prog 3 #[v] w fun e w' => e = .returned (.bool true) ∧ Below w.heap.size w w' := by
  obtain ⟨A, c0, rfl, hc0, hk⟩ := RdCA.at hv
  have HK := Lib.hid hk
  have HOK := Lib.hid (fun i (h : i < l.length) => hok l[i] (List.getElem_mem h))
  have HLL := Lib.hid hl
  have HN := Lib.hid (new_any 4000 (by decide) (by decide) w)
  clear hk hv hok hl
  go_enter Try.func3, Try.ntmps3
  go_wp2_with fail
  refine HN.out.mono ?_
  rintro e w1 ⟨p, rfl, ht, hb⟩
  have HO := Lib.hid (fresh_open 4000 (by decide) (by decide) w w1 p ht hb)
  clear ht hb HN
  go_wp2_with fail
  refine HO.out.mono ?_
  rintro e w2 ⟨q, G, rfl, hc2, hb2⟩
  have HC2 := Lib.hid hc2
  have HB2 := Lib.hid hb2
  clear hc2 hb2 HO
  go_wp2_with fail
  refine (awake_any w2).mono ?_
  rintro e w3 ⟨rfl, hb3⟩
  have hc3 := HC2.out.mv (Mv.of_new hb3 (fun _ => False)) (fun _ _ h => h)
  have hb3' := HB2.out.trans (hb3.mono HB2.out.size)
  obtain ⟨gN, hgN⟩ : ∃ gN, gN = w3.heap.size := ⟨_, rfl⟩
  obtain ⟨gC, hgC⟩ : ∃ gC, gC = w3.heap.size + 1 := ⟨_, rfl⟩
  have hbe : Below w3.heap.size w3 ((w3.alloc (.cells (vcells zeroV (.slice none 0 0)).toArray 37)).alloc (.cells (vcells zeroV (.slice none 0 0)).toArray 37)) := ((Below.refl _ w3).alloc (Nat.le_refl _) _).alloc (by simp) _
  have hki : CInv w ((w3.alloc (.cells (vcells zeroV (.slice none 0 0)).toArray 37)).alloc (.cells (vcells zeroV (.slice none 0 0)).toArray 37)) q p gN gC G (Co.start 4000) (.slice none 0 0) :=
    ⟨hc3.mv (Mv.of_new hbe (fun _ => False)) (fun _ _ h => h), by rw [hgN]; exact (Whole.fresh w3 _ _).alloc _, ⟨zeroV, .slice none 0 0, by
      have h := Whole.fresh (w3.alloc (.cells (vcells zeroV (.slice none 0 0)).toArray 37)) 37 (vcells zeroV (.slice none 0 0))
      rw [World.size_alloc] at h
      rw [hgC]; exact h⟩, RdG.none_ _ _ _ _ _, fun hg => by have := (hc3.low.2 _ hg).2; omega, fun hg => by have := (hc3.low.2 _ hg).2; omega, by omega, by rw [hgN]; exact hb3'.size, by have := hb3'.size; omega, hb3'.trans (hbe.mono hb3'.size)⟩
  have HKI := Lib.hid hki
  unfold vcells zeroV zeroS at HKI
  simp only at HKI
  clear hki hbe hc3 hb3' hb3 HC2 HB2
  go_wp2_with fail
  rw [← hgC, ← hgN]
  clear hgN hgC
  go_loopw [5, 9, 10] (fun cv dv iv wr => ∃ (i q : Nat) (G : Nat → Prop) (c : Co) (un : Value), i ≤ 60 ∧ iv = .int .i64 (i : Int) ∧ cv = .pointer (some ⟨q, 0, none⟩) ∧ dv = .bool c.dead ∧ CInv w wr q p gN gC G c un) (fun _ _ iv _ => 60 - (intOf iv).toNat)
  case atStart => exact ⟨0, q, G, _, _, by omega, rfl, rfl, rfl, HKI.out⟩
  case round =>
    obtain ⟨i, q2, G2, c, un, hi60, rfl, rfl, rfl, hinv⟩ := hrel
    clear HKI
    by_cases hgo : i < l.length ∧ i < 60
    case neg =>
      have hex : ¬ ((i : Int) < (l.length : Int)) ∨ ((i : Int) < (l.length : Int) ∧ ¬ ((i : Int) < 60)) := by omega
      have HBW := Lib.hid hinv.bl
      clear hgo hinv
      rcases hex with h1 | ⟨h1, h2⟩
      all_goals
        go_wp2_with fail
        go_ret
        exact ⟨rfl, HBW.out⟩
    obtain ⟨hil, hi2⟩ := hgo
    obtain ⟨An, nn, rfl⟩ := hinv.slice
    have h1 : (i : Int) < (l.length : Int) := by omega
    have h2 : (i : Int) < 60 := by omega
    obtain ⟨b, o, rfl, hbB, hcell⟩ := HK.out i hil
    have hbw := hinv.bl
    have HACT := Lib.hid (HOK.out i hil)
    have HCL := Lib.hid hcell
    have k0 := hcell wr hbw 0 _ rfl
    have k1 := hcell wr hbw 1 _ rfl
    have k2 := hcell wr hbw 2 _ rfl
    have k3 := hcell wr hbw 3 _ rfl
    have k4 := hcell wr hbw 4 _ rfl
    have k5 := hcell wr hbw 5 _ rfl
    have k6 := hcell wr hbw 6 _ rfl
    have k7 := hcell wr hbw 7 _ rfl
    have k8 := hcell wr hbw 8 _ rfl
    generalize l[i] = a at k0 k1 k2 k3 k4 k5 k6 k7 k8 HACT HCL
    obtain ⟨what, n, ⟨b1, b2⟩, ⟨s1, s2, s3, sh⟩, Aa, d, turn⟩ := a
    simp only [CAct.u] at k7 HACT
    simp only [Nat.add_zero] at k0 k1 k2 k3 k4 k5 k6 k7 k8
    obtain ⟨w4, hw4⟩ : ∃ w4, w4 = wr.alloc (.cells #[.int .i64 what, .int .i64 n, .int .i64 b1, .int .i64 b2, .int .i64 s1, .int .i64 s2, .int .i64 s3, .slice Aa sh.length d, .int .u8 (turn.toNat : Int)] 39) := ⟨_, rfl⟩
    have hb4 : Below wr.heap.size wr w4 := by rw [hw4]; exact (Below.refl _ wr).alloc (Nat.le_refl _) _
    have hwA : Whole w4 wr.heap.size 39 [.int .i64 what, .int .i64 n, .int .i64 b1, .int .i64 b2, .int .i64 s1, .int .i64 s2, .int .i64 s3, .slice Aa sh.length d, .int .u8 (turn.toNat : Int)] := by rw [hw4]; exact Whole.fresh wr _ _
    have hGA : ∀ i, G2 i → i < wr.heap.size := fun i hi => (hinv.co.low.2 i hi).2
    have hnA : gN < wr.heap.size := hinv.wn.size
    have hcA : gC < wr.heap.size := by obtain ⟨_, _, h⟩ := hinv.wc; exact h.size
    have HINV := Lib.hid (hinv.new hb4)
    have HWA := Lib.hid hwA
    have HGA := Lib.hid hGA
    have HB4 := Lib.hid hb4
    clear hcell hbw hinv hwA hGA hb4
    by_cases hw3 : what = 3
    case pos =>
      subst hw3
      obtain ⟨ov, htp, hTD⟩ := HINV.out.co.tape
      have HFA := Lib.hid (fail_any w.heap.size p ov c.t n HACT.out.n w4 htp)
      have HTP := Lib.hid htp
      have HTD := Lib.hid hTD
      clear htp hTD
      go_wp2_with fail
      rw [← hw4]
      clear hw4
      refine HFA.out.mono ?_
      rintro e w5 ⟨rfl, hw⟩
      obtain ⟨G5, hc5, hG5⟩ := HINV.out.co.fail HTP.out hw
      have HI5 := Lib.hid (HINV.out.moved hc5 hG5 (hw.moved.mono (fun i _ hi => HTD.out i hi)) rfl)
      clear hw hc5 hG5 k0 k1 k2 k3 k4 k5 k6 k7 k8
      go_wp2_with fail
      go_roundw
      case rel => exact ⟨i + 1, q2, G5, ({ c with left := n } : Co), _, by omega, by go_num, rfl, rfl, HI5.out⟩
      case measure => simp [intOf]; omega
    by_cases hw4b : 3 < what
    case pos =>
      have hne3 : (what == 3) = false := by simpa using hw3
      obtain ⟨ov, htp, hTD⟩ := HINV.out.co.tape
      have HCR := Lib.hid (crash_any w.heap.size p ov c.t n turn w4 htp)
      have HTD := Lib.hid hTD
      clear htp hTD
      go_wp2_with fail
      rw [← hw4]
      clear hw4
      refine HCR.out.mono ?_
      rintro e w5 ⟨rfl, hw⟩
      rw [Co.crash_t] at hw
      obtain ⟨c7, hc7⟩ : ∃ c7, c7 = ({ c with dead := false, left := -1 } : Co) := ⟨_, rfl⟩
      rw [← hc7] at hw
      have hv7 : c7.v = c.v := by rw [hc7]
      have hd7 : c7.dead = false := by rw [hc7]
      have HOP := Lib.hid (copen_any w.heap.size p ov c7 w5 hw.now (by rw [hc7]; exact Co.crash_ok HINV.out.co.ok) hd7)
      have HM5 := Lib.hid (hw.moved.mono (D' := G2) (fun i _ hi => HTD.out i hi))
      clear hw hc7 HCR k0 k1 k2 k3 k4 k5 k6 k7 k8
      go_wp2_with fail
      refine HOP.out.mono ?_
      rintro e w6 ⟨q6, G6, rfl, hc6, hG6, hm6⟩
      have hi6 : CInv w w6 q6 p gN gC G6 c7 (.slice An c.v.took.chests.length nn) := HINV.out.moved hc6 (fun i hi => by
        rcases hG6 i hi with h | h
        · exact .inl (HTD.out i h)
        · exact .inr (Nat.le_trans HM5.out.size h)) (HM5.out.trans (hm6.mono (fun i _ hi => HTD.out i hi)) (fun i _ hi => hi)) hv7
      rw [← hv7] at hi6
      have HI6 := Lib.hid hi6
      have HD7 := Lib.hid hd7
      clear hc6 hG6 hm6 hi6 HOP HM5 HTD HINV hv7 hd7
      go_wp2_with fail
      have HVW := Lib.hid (fun W (h : CInv w W q6 p gN gC G6 c7 (.slice An c7.v.took.chests.length nn)) => (show Calls Try.prog 12 #[.pointer (some ⟨q6, 0, none⟩)] W fun e w' => ∃ A n, e = .returned (.agg #[.int .i64 c7.v.prom.1, .int .i64 c7.v.prom.2, .int .i64 c7.v.at'.1, .int .i64 c7.v.at'.2, .int .i64 c7.v.took.gen, .int .i64 c7.v.took.epoch, .int .i64 c7.v.took.recd, .slice A c7.v.took.chests.length n]) ∧ RdG encI 1 w' w'.heap.size (fun i => G6 i ∨ i = gN ∨ i = gC) (.slice A c7.v.took.chests.length n) c7.v.took.chests ∧ Below W.heap.size W w' from by
        refine (cvow_any w.heap.size q6 p G6 c7 W h.co).mono ?_
        rintro e w' ⟨v, rfl, hn, hb⟩
        obtain ⟨_, _, hcz⟩ := h.wc
        have hr := RdG.mono (G' := fun i => G6 i ∨ i = gN ∨ i = gC) hn (Nat.le_refl _) (fun i _ hi => by
          rcases hi with hi | hi | hi
          · exact .inr hi
          · rw [hi]; exact .inl h.wn.size
          · rw [hi]; exact .inl hcz.size)
        have hr0 := hr
        obtain ⟨A, n, rfl, _⟩ := hr0
        exact ⟨A, n, rfl, hr, hb⟩))
      have HSA := Lib.hid (fun W A n A' n' (h1 : RdI W W.heap.size (.slice A c7.v.took.chests.length n) c7.v.took.chests) (h2 : RdI W W.heap.size (.slice A' c7.v.took.chests.length n') c7.v.took.chests) => rsameV_eq c7.v (by have := sound_len HI6.out.co.ok.sound; omega) _ _ W h1 h2)
      unfold vwv at HSA
      have HNC := Lib.hid (fun W (h : CInv w W q6 p gN gC G6 c7 (.slice An c7.v.took.chests.length nn)) W' (hW : Below W.heap.size W W') => (show W'.cell? ⟨gN, 0, none⟩ = some (.int .i64 c7.v.prom.1) ∧ W'.cell? ⟨gN, 1, none⟩ = some (.int .i64 c7.v.prom.2) ∧ W'.cell? ⟨gN, 2, none⟩ = some (.int .i64 c7.v.at'.1) ∧ W'.cell? ⟨gN, 3, none⟩ = some (.int .i64 c7.v.at'.2) ∧ W'.cell? ⟨gN, 4, none⟩ = some (.int .i64 c7.v.took.gen) ∧ W'.cell? ⟨gN, 5, none⟩ = some (.int .i64 c7.v.took.epoch) ∧ W'.cell? ⟨gN, 6, none⟩ = some (.int .i64 c7.v.took.recd) ∧ W'.cell? ⟨gN, 7, none⟩ = some (.slice An c7.v.took.chests.length nn) from ⟨(h.new hW).wn.cell 0 _ rfl, (h.new hW).wn.cell 1 _ rfl, (h.new hW).wn.cell 2 _ rfl, (h.new hW).wn.cell 3 _ rfl, (h.new hW).wn.cell 4 _ rfl, (h.new hW).wn.cell 5 _ rfl, (h.new hW).wn.cell 6 _ rfl, (h.new hW).wn.cell 7 _ rfl⟩))
      refine wp_region_planB [(true, 0), (true, 1), (true, 2), (true, 3), (true, 4), (true, 5), (true, 6), (true, 7), (true, 9), (false, 8), (false, 10), (true, 11), (true, 12), (true, 13), (true, 14), (true, 15), (true, 17), (false, 16), (false, 18), (true, 19), (true, 20), (true, 21), (true, 22)] (by kernel_rfl) (by kernel_rfl) (fun _ _ d _ _ h => by cases d <;> exact h) ?_
      obtain ⟨wd, hwd⟩ : ∃ wd, wd = w6.drew := ⟨_, rfl⟩
      have HId : Hid (CInv w wd q6 p gN gC G6 c7 (.slice An c7.v.took.chests.length nn)) := Lib.hid (by rw [hwd]; exact HI6.out.new (Below.refl _ _).drew)
      rw [← hwd]
      clear hwd HI6
      iterate 9 (refine PlanB.take (v := ?_) rfl rfl ?_ ?_; rotate_left; (focus (intro W hW; obtain ⟨q0, q1, q2, q3, q4, q5, q6, q7⟩ := HNC.out _ HId.out W hW; go_simp; (try with_reducible rfl); done)); (try simp only [Act.put, List.setIfInBounds_toArray, List.set_cons_zero, List.set_cons_succ]))
      refine PlanB.step rfl rfl (fun Kk hKk => ?_)
      go_simp
      refine (HVW.out wd HId.out).mono ?_
      rintro e wv1 ⟨Av1, nv1, rfl, hrv, hbv⟩
      refine hKk.out _ _ hbv ?_
      clear hKk Kk
      (try simp only [Act.put, List.setIfInBounds_toArray, List.set_cons_zero, List.set_cons_succ])
      have HIv1 := Lib.hid (HId.out.new hbv)
      have HRv1 := Lib.hid hrv
      clear hrv hbv
      refine PlanB.step rfl rfl (fun Kk hKk => ?_)
      go_simp
      refine (HSA.out wv1 Av1 nv1 An nn (RdG.rd HRv1.out) (RdG.rd HIv1.out.rn)).mono ?_
      rintro e wv2 ⟨rfl, hbv⟩
      refine hKk.out _ _ hbv ?_
      clear hKk Kk
      (try simp only [Act.put, List.setIfInBounds_toArray, List.set_cons_zero, List.set_cons_succ])
      have HIv2 := Lib.hid (HIv1.out.new hbv)
      clear hbv
      iterate 2 (refine PlanB.take (v := ?_) rfl rfl ?_ ?_; rotate_left; (focus (intro W hW; skip; go_simp; (try with_reducible rfl); done)); (try simp only [Act.put, List.setIfInBounds_toArray, List.set_cons_zero, List.set_cons_succ]))
      iterate 4 (refine PlanB.skip rfl rfl ?_; (try simp only [Act.put, List.setIfInBounds_toArray, List.set_cons_zero, List.set_cons_succ]))
      refine PlanB.pass rfl rfl ?_
      (try simp only [Act.put, List.setIfInBounds_toArray, List.set_cons_zero, List.set_cons_succ])
      refine PlanB.pass rfl rfl ?_
      (try simp only [Act.put, List.setIfInBounds_toArray, List.set_cons_zero, List.set_cons_succ])
      iterate 2 (refine PlanB.skip rfl rfl ?_; (try simp only [Act.put, List.setIfInBounds_toArray, List.set_cons_zero, List.set_cons_succ]))
      iterate 2 (refine PlanB.take (v := ?_) rfl rfl ?_ ?_; rotate_left; (focus (intro W hW; skip; go_simp; (try with_reducible rfl); done)); (try simp only [Act.put, List.setIfInBounds_toArray, List.set_cons_zero, List.set_cons_succ]))
      simp only [PlanB]
      have HV3 := Lib.hid (HVW.out wv2 HIv2.out)
      clear HSA HNC HRv1
      go_wp2_with fail
      refine HV3.out.mono ?_
      rintro e w8 ⟨A8, n8, rfl, hr8, hb8⟩
      have HI8 := Lib.hid (HIv2.out.new hb8)
      have HR8 := Lib.hid hr8
      clear hr8 hb8 HV3 HVW
      obtain ⟨xc, uc, hwc⟩ := HI8.out.wc
      have HWC := Lib.hid hwc
      clear hwc
      have gne1 : gN ≠ gC := HI8.out.ne
      have gne2 : gC ≠ gN := Ne.symm gne1
      have z0 := HI8.out.wn.cell 0 _ rfl
      have z1 := HI8.out.wn.cell 1 _ rfl
      have z2 := HI8.out.wn.cell 2 _ rfl
      have z3 := HI8.out.wn.cell 3 _ rfl
      have z4 := HI8.out.wn.cell 4 _ rfl
      have z5 := HI8.out.wn.cell 5 _ rfl
      have z6 := HI8.out.wn.cell 6 _ rfl
      have z7 := HI8.out.wn.cell 7 _ rfl
      have f0 := HI8.out.wn.frozen 0
      have f1 := HI8.out.wn.frozen 1
      have f2 := HI8.out.wn.frozen 2
      have f3 := HI8.out.wn.frozen 3
      have f4 := HI8.out.wn.frozen 4
      have f5 := HI8.out.wn.frozen 5
      have f6 := HI8.out.wn.frozen 6
      have f7 := HI8.out.wn.frozen 7
      have y0 := HWC.out.cell 0 _ rfl
      have y1 := HWC.out.cell 1 _ rfl
      have y2 := HWC.out.cell 2 _ rfl
      have y3 := HWC.out.cell 3 _ rfl
      have y4 := HWC.out.cell 4 _ rfl
      have y5 := HWC.out.cell 5 _ rfl
      have y6 := HWC.out.cell 6 _ rfl
      have y7 := HWC.out.cell 7 _ rfl
      have h0 := HWC.out.frozen 0
      have h1 := HWC.out.frozen 1
      have h2 := HWC.out.frozen 2
      have h3 := HWC.out.frozen 3
      have h4 := HWC.out.frozen 4
      have h5 := HWC.out.frozen 5
      have h6 := HWC.out.frozen 6
      have h7 := HWC.out.frozen 7
      go_wp2_with fail
      go_roundw
      case rel => exact ⟨i + 1, q6, G6, c7, .slice A8 c7.v.took.chests.length n8, by omega, by go_num, rfl, by rw [HD7.out], HI8.out.mid.store HR8.out⟩
      case measure => simp [intOf]; omega
    have hne3 : (what == 3) = false := by simpa using hw3
    have hw33 : what < 3 := by omega
    have hrd : RdI w w.heap.size (.slice Aa sh.length d) sh := HACT.out.rd
    have hsl : sh.length ≤ 17592186043904 := HACT.out.len
    have hbl := HINV.out.bl
    have hnx := rnext_any c.v what n (b1, b2) ⟨s1, s2, s3, sh⟩ (turn.toNat : Int) An c.v.took.chests.length nn Aa sh.length d w4 ((hrd.below hbl (Nat.le_refl _)).mono hbl.size) (by show sh.length < _; omega)
    obtain ⟨N, hN⟩ : ∃ N, N = nextV c.v what (b1, b2) ⟨s1, s2, s3, sh⟩ := ⟨_, rfl⟩
    rw [← hN] at hnx
    obtain ⟨S, hS⟩ : ∃ S, S = c.step what (b1, b2) ⟨s1, s2, s3, sh⟩ := ⟨_, rfl⟩
    have hlive := Co.step_live (c := c) (what := what) (b := (b1, b2)) (s := ⟨s1, s2, s3, sh⟩)
    have hdead := Co.step_dead (c := c) (what := what) (b := (b1, b2)) (s := ⟨s1, s2, s3, sh⟩)
    rw [← hN, ← hS] at hlive
    rw [← hS] at hdead
    obtain ⟨x1, ok1, bad1⟩ := N
    obtain ⟨E, O, c'⟩ := S
    unfold vwv acells at hnx
    simp only at hnx hlive
    have HNX := Lib.hid hnx
    have HRD := Lib.hid hrd
    have HLIVE := Lib.hid hlive
    have HDEAD := Lib.hid hdead
    have HST := Lib.hid hS
    have n0 := HINV.out.wn.cell 0 _ rfl
    have n1 := HINV.out.wn.cell 1 _ rfl
    have n2 := HINV.out.wn.cell 2 _ rfl
    have n3 := HINV.out.wn.cell 3 _ rfl
    have n4 := HINV.out.wn.cell 4 _ rfl
    have n5 := HINV.out.wn.cell 5 _ rfl
    have n6 := HINV.out.wn.cell 6 _ rfl
    have n7 := HINV.out.wn.cell 7 _ rfl
    rw [hw4] at n0 n1 n2 n3 n4 n5 n6 n7
    clear hN hS hnx hlive hdead hbl hrd
    go_wp2_with fail
    rw [← hw4]
    clear hw4 n0 n1 n2 n3 n4 n5 n6 n7 k0 k1 k2 k3 k4 k5 k6 k7 k8
    refine HNX.out.mono ?_
    rintro e w5 ⟨u', rfl, hu', hb5⟩
    have hi5 := HINV.out.new hb5
    have hrw : RdG encI 1 w5 w5.heap.size (fun i => G2 i ∨ i = gN ∨ i = gC) u' x1.took.chests := by
      rcases hu' with ⟨rfl, e⟩ | ⟨rfl, e⟩
      · rw [e]; exact hi5.rn
      · rw [e]
        refine (RdG.of (G := fun i => G2 i ∨ i = gN ∨ i = gC) (HRD.out.below hi5.bl (Nat.le_refl _)) (fun b hb hg => ?_)).mono hi5.bl.size (fun _ _ h => h)
        rcases hg with hg | hg | hg
        · have := (hi5.co.low.2 b hg).1; omega
        · have := hi5.ln; omega
        · have := hi5.lc; omega
    have hrw0 := hrw
    obtain ⟨Au, cu, rfl, -⟩ := hrw0
    obtain ⟨w7, hw7⟩ : ∃ w7, w7 = (w5.alloc (.cells #[.int .i64 x1.prom.1, .int .i64 x1.prom.2, .int .i64 x1.at'.1, .int .i64 x1.at'.2, .int .i64 x1.took.gen, .int .i64 x1.took.epoch, .int .i64 x1.took.recd, .slice Au x1.took.chests.length cu] 37)).alloc (.cells #[.int .i64 0, .int .i64 0, .int .i64 0, .int .i64 0, .int .i64 0, .int .i64 0, .int .i64 0, .slice none 0 0] 37) := ⟨_, rfl⟩
    have hb7 : Below w5.heap.size w5 w7 := by rw [hw7]; exact ((Below.refl _ w5).alloc (Nat.le_refl _) _).alloc (by simp) _
    have hz7 : w7.heap.size = w5.heap.size + 1 + 1 := by rw [hw7]; simp
    have hW7 : Whole w7 w5.heap.size 37 (vcells x1 (.slice Au x1.took.chests.length cu)) := by rw [hw7]; exact (Whole.fresh w5 _ [_, _, _, _, _, _, _, _]).alloc _
    have hV7 : Whole w7 (w5.heap.size + 1) 37 (vcells zeroV (.slice none 0 0)) := by
      have h := Whole.fresh (w5.alloc (.cells #[.int .i64 x1.prom.1, .int .i64 x1.prom.2, .int .i64 x1.at'.1, .int .i64 x1.at'.2, .int .i64 x1.took.gen, .int .i64 x1.took.epoch, .int .i64 x1.took.recd, .slice Au x1.took.chests.length cu] 37)) 37 (vcells zeroV (.slice none 0 0))
      rw [World.size_alloc] at h
      rw [hw7]; exact h
    have hwa5 := HWA.out.below hb5 HWA.out.size
    have hwa7 := hwa5.below hb7 hwa5.size
    have hc7 := hi5.co.mv (Mv.of_new hb7 (fun _ => False)) (fun _ _ h => h)
    have hz5 : wr.heap.size < w5.heap.size := hwa5.size
    have HGA5 := Lib.hid (fun i (hi : G2 i) => (show i < w5.heap.size from Nat.lt_trans (HGA.out i hi) hz5))
    have HI5 := Lib.hid hi5
    have HRW := Lib.hid hrw
    have HB7 := Lib.hid hb7
    have HW7 := Lib.hid hW7
    have HV7 := Lib.hid hV7
    have HWA7 := Lib.hid hwa7
    have HC7 := Lib.hid hc7
    have hru7 := HRD.out.below (HI5.out.bl.trans (hb7.mono HI5.out.bl.size)) (Nat.le_refl _)
    have HRU7 := Lib.hid (hru7.mono (HI5.out.bl.trans (hb7.mono HI5.out.bl.size)).size)
    clear hi5 hrw hb7 hW7 hV7 hwa5 hwa7 hc7 hru7 hu' hb5 HINV HNX HWA
    have a0 := HWA7.out.cell 0 _ rfl
    rw [hw7] at a0
    go_upto_if 116 with fail
    rw [← hw7]
    clear hw7 a0
    go_cut [15, 16] (fun ov gv wx => ∃ (G' : Nat → Prop) (y : Vw) (uy : Value), ov = .bool O ∧ gv = .int .i64 E ∧ CMid w wx q2 p gN gC G' c' ∧ (c'.v = c.v → CInv w wx q2 p gN gC G' c' (.slice An c.v.took.chests.length nn)) ∧ Whole wx w5.heap.size 37 (vcells x1 (.slice Au x1.took.chests.length cu)) ∧ Whole wx (w5.heap.size + 1) 37 (vcells y uy) ∧ Whole wx wr.heap.size 39 [.int .i64 what, .int .i64 n, .int .i64 b1, .int .i64 b2, .int .i64 s1, .int .i64 s2, .int .i64 s3, .slice Aa sh.length d, .int .u8 (turn.toNat : Int)] ∧ RdG encI 1 wx wx.heap.size (fun i => G' i ∨ i = gN ∨ i = gC) (.slice Au x1.took.chests.length cu) x1.took.chests ∧ (what < 2 → E = 0 → y = c'.v ∧ RdI wx wx.heap.size uy y.took.chests))
    case first =>
      by_cases h22 : what < 2
      · have hp := cprep_any w.heap.size q2 p G2 c (b1, b2) HACT.out.b1 HACT.out.b2 w7 HC7.out
        rw [← Co.step_prep (what := what) (s := ⟨s1, s2, s3, sh⟩) h22, ← HST.out] at hp
        unfold blv vwv at hp
        simp only at hp
        have HP := Lib.hid hp
        clear hp
        have a2 := HWA7.out.cell 2 _ rfl
        have a3 := HWA7.out.cell 3 _ rfl
        have a0 := HWA7.out.cell 0 _ rfl
        go_wp2_with fail
        refine HP.out.mono ?_
        rintro e w8 ⟨y, v8, G8, rfl, hn8, hy8, hc8, hG8, hm8⟩
        have hrd8 := hn8.rd
        obtain ⟨A8, n8, rfl, -, -⟩ := hrd8.at
        have hV8 := hm8.whole HV7.out (fun h => by have := HGA5.out _ h; omega)
        have hm58 : Mv G2 w5 w8 := (Mv.of_new HB7.out G2).trans hm8 (fun i _ hi => hi)
        have hG58 : ∀ i, G8 i → G2 i ∨ w5.heap.size ≤ i := fun i hi => by
          rcases hG8 i hi with h | h
          · exact .inl h
          · exact .inr (by omega)
        have hm59 : Mv G2 w5 (vput w8 (w5.heap.size + 1) y (.slice A8 y.took.chests.length n8)) := hm58.trans (Mv.put8 w8 (w5.heap.size + 1) y _) (fun i hi e => by omega)
        have hngV : ¬ G8 (w5.heap.size + 1) := fun h => by
          rcases hG8 _ h with k | k
          · have := HGA5.out _ k; omega
          · omega
        have hc9 := hc8.mv (Mv.put8 w8 (w5.heap.size + 1) y (.slice A8 y.took.chests.length n8)) (fun i hi e => hngV (e ▸ hi))
        have hmp := Mv.put8 w8 (w5.heap.size + 1) y (.slice A8 y.took.chests.length n8)
        have HM59 := Lib.hid hm59
        have HG58 := Lib.hid hG58
        have HC9 := Lib.hid hc9
        have HV8 := Lib.hid hV8
        have HV9 := Lib.hid (Whole.put8 (x := y) (u := .slice A8 y.took.chests.length n8) hV8)
        have HW9 := Lib.hid (hmp.whole (hm8.whole HW7.out (fun h => by have := HGA5.out _ h; omega)) (fun e => by omega))
        have HA9 := Lib.hid (hmp.whole (hm8.whole HWA7.out (fun h => by have := HGA.out _ h; omega)) (fun e => by omega))
        have HY := Lib.hid hy8
        have HR9 := Lib.hid (show RdI (vput w8 (w5.heap.size + 1) y (.slice A8 y.took.chests.length n8)) (vput w8 (w5.heap.size + 1) y (.slice A8 y.took.chests.length n8)).heap.size (.slice A8 y.took.chests.length n8) y.took.chests from by
          have h := (RdG.mono (G' := fun i => i = w5.heap.size + 1) hn8 (Nat.le_refl _) (fun b _ e => .inl (by omega))).mv hmp (Nat.le_refl _) (fun _ _ e => e)
          rw [vput_size]
          exact h.rd)
        clear hrd8 hn8 hy8 hc8 hG8 hm8 hm58 hG58 hm59 hngV hc9 hmp hV8 HP a0 a2 a3
        have z0 := HV8.out.cell 0 _ rfl
        have z1 := HV8.out.cell 1 _ rfl
        have z2 := HV8.out.cell 2 _ rfl
        have z3 := HV8.out.cell 3 _ rfl
        have z4 := HV8.out.cell 4 _ rfl
        have z5 := HV8.out.cell 5 _ rfl
        have z6 := HV8.out.cell 6 _ rfl
        have z7 := HV8.out.cell 7 _ rfl
        have f0 := HV8.out.frozen 0
        have f1 := HV8.out.frozen 1
        have f2 := HV8.out.frozen 2
        have f3 := HV8.out.frozen 3
        have f4 := HV8.out.frozen 4
        have f5 := HV8.out.frozen 5
        have f6 := HV8.out.frozen 6
        have f7 := HV8.out.frozen 7
        go_wp2_with fail
        go_meet
        case rel => exact ⟨G8, y, .slice A8 y.took.chests.length n8, rfl, rfl, HI5.out.mid.moved HC9.out HG58.out HM59.out, fun e => HI5.out.moved HC9.out HG58.out HM59.out e, HW9.out, HV9.out, HA9.out, rd_moved HRW.out HG58.out HM59.out, fun _ e => ⟨HY.out e, HR9.out⟩⟩
      · have ha := cacc_any w.heap.size q2 p G2 c (b1, b2) ⟨s1, s2, s3, sh⟩ (.slice Aa sh.length d) HACT.out.b1 HACT.out.b2 HACT.out.s hsl w7 HC7.out HRU7.out
        rw [← Co.step_acc (what := what) h22, ← HST.out] at ha
        unfold blv sval at ha
        simp only at ha
        have HP := Lib.hid ha
        clear ha
        have a0 := HWA7.out.cell 0 _ rfl
        have a2 := HWA7.out.cell 2 _ rfl
        have a3 := HWA7.out.cell 3 _ rfl
        have a4 := HWA7.out.cell 4 _ rfl
        have a5 := HWA7.out.cell 5 _ rfl
        have a6 := HWA7.out.cell 6 _ rfl
        have a7 := HWA7.out.cell 7 _ rfl
        go_wp2_with fail
        refine HP.out.mono ?_
        rintro e w8 ⟨G8, rfl, hc8, hG8, hm8⟩
        have hm58 : Mv G2 w5 w8 := (Mv.of_new HB7.out G2).trans hm8 (fun i _ hi => hi)
        have hG58 : ∀ i, G8 i → G2 i ∨ w5.heap.size ≤ i := fun i hi => by
          rcases hG8 i hi with h | h
          · exact .inl h
          · exact .inr (by omega)
        have HM58 := Lib.hid hm58
        have HG58 := Lib.hid hG58
        have HC8 := Lib.hid hc8
        have HV8 := Lib.hid (hm8.whole HV7.out (fun h => by have := HGA5.out _ h; omega))
        have HW8 := Lib.hid (hm8.whole HW7.out (fun h => by have := HGA5.out _ h; omega))
        have HA8 := Lib.hid (hm8.whole HWA7.out (fun h => by have := HGA.out _ h; omega))
        clear hc8 hG8 hm8 hm58 hG58 HP a0 a2 a3 a4 a5 a6 a7
        go_wp2_with fail
        go_meet
        case rel => exact ⟨G8, zeroV, .slice none 0 0, rfl, rfl, HI5.out.mid.moved HC8.out HG58.out HM58.out, fun e => HI5.out.moved HC8.out HG58.out HM58.out e, HW8.out, HV8.out, HA8.out, rd_moved HRW.out HG58.out HM58.out, fun h => by omega⟩
    case rest =>
      obtain ⟨G8, y, uy, rfl, rfl, hmid, hinvc, hW8, hV8, hA8, hR8, hy8⟩ := hcut
      obtain ⟨w8, hw8⟩ : ∃ w8, w8 = wc := ⟨_, rfl⟩
      rw [← hw8] at hmid hinvc hW8 hV8 hA8 hR8 hy8 ⊢
      clear hw8
      have HMID := Lib.hid hmid
      have HINC := Lib.hid hinvc
      have HW8 := Lib.hid hW8
      have HV8 := Lib.hid hV8
      have HA8 := Lib.hid hA8
      have HR8 := Lib.hid hR8
      have HY8 := Lib.hid hy8
      have HGC := Lib.hid hcA
      clear hmid hinvc hW8 hV8 hA8 hR8 hy8 HI5 HRW HB7 HW7 HV7 HWA7 HC7 HRU7
      have hgne1 : gN ≠ gC := HMID.out.ne
      have hgne2 : gC ≠ gN := Ne.symm hgne1
      have hwn1 : w5.heap.size ≠ gN := by omega
      have hwn2 : gN ≠ w5.heap.size := Ne.symm hwn1
      have hwc1 : w5.heap.size ≠ gC := by have := HGC.out; omega
      have hwc2 : gC ≠ w5.heap.size := Ne.symm hwc1
      have hdd : c.dead = true ∨ c.dead = false := by cases c.dead <;> simp
      rcases hdd with hd | hd
      · rw [hd]
        have e := HDEAD.out hd
        simp only [Prod.mk.injEq] at e
        obtain ⟨e1, e2, e3⟩ := e
        have e4 := e3.symm
        subst e1 e2 e4
        have HD := Lib.hid hd
        clear hd e3 hgne1 hgne2 hwn1 hwn2 hwc1 hwc2
        go_wp2_with fail
        refine wp_region_planB [(true, 0), (true, 1), (true, 2), (true, 3), (true, 5), (false, 4), (false, 6), (true, 7), (true, 8)] (by kernel_rfl) (by kernel_rfl) (fun _ _ d _ _ h => by cases d <;> exact h) ?_
        iterate 3 (refine PlanB.take (v := ?_) rfl rfl ?_ ?_; rotate_left; (focus (intro W hW; skip; go_simp; (try with_reducible rfl); done)); (try simp only [Act.put, List.setIfInBounds_toArray, List.set_cons_zero, List.set_cons_succ]))
        iterate 2 (refine PlanB.skip rfl rfl ?_; (try simp only [Act.put, List.setIfInBounds_toArray, List.set_cons_zero, List.set_cons_succ]))
        refine PlanB.pass rfl rfl ?_
        (try simp only [Act.put, List.setIfInBounds_toArray, List.set_cons_zero, List.set_cons_succ])
        refine PlanB.pass rfl rfl ?_
        (try simp only [Act.put, List.setIfInBounds_toArray, List.set_cons_zero, List.set_cons_succ])
        iterate 1 (refine PlanB.skip rfl rfl ?_; (try simp only [Act.put, List.setIfInBounds_toArray, List.set_cons_zero, List.set_cons_succ]))
        iterate 1 (refine PlanB.take (v := ?_) rfl rfl ?_ ?_; rotate_left; (focus (intro W hW; skip; go_simp; (try with_reducible rfl); done)); (try simp only [Act.put, List.setIfInBounds_toArray, List.set_cons_zero, List.set_cons_succ]))
        simp only [PlanB]
        go_wp2_with fail
        go_roundw
        case rel => exact ⟨i + 1, q2, G8, c, _, by omega, by go_num, rfl, by rw [HD.out], (HINC.out (by first | rfl | trivial)).new (Below.refl _ _).drew⟩
        case measure => simp [intOf]; omega
      rw [hd]
      rcases HLIVE.out hd with ⟨hb, hs⟩ | ⟨hb, hE, hO, hd', hv⟩ | ⟨hb, hE, hO, hd', hv⟩
      · simp only [Prod.mk.injEq] at hs
        obtain ⟨e1, e2, e3⟩ := hs
        have e4 := e3.symm
        have e5 := e1.symm
        subst e5 e2 e4
        have HD := Lib.hid hd
        have hbb : (bad1 == 0) = false := by simpa using hb
        have HI8 := Lib.hid (HINC.out (by first | rfl | trivial))
        clear hd e3 hgne1 hgne2 hwn1 hwn2 hwc1 hwc2 e1
        go_wp2_with fail
        have HVW := Lib.hid (fun W (h : CInv w W q2 p gN gC G8 c (.slice An c.v.took.chests.length nn)) => (show Calls Try.prog 12 #[.pointer (some ⟨q2, 0, none⟩)] W fun e w' => ∃ A n, e = .returned (.agg #[.int .i64 c.v.prom.1, .int .i64 c.v.prom.2, .int .i64 c.v.at'.1, .int .i64 c.v.at'.2, .int .i64 c.v.took.gen, .int .i64 c.v.took.epoch, .int .i64 c.v.took.recd, .slice A c.v.took.chests.length n]) ∧ RdG encI 1 w' w'.heap.size (fun i => G8 i ∨ i = gN ∨ i = gC) (.slice A c.v.took.chests.length n) c.v.took.chests ∧ Below W.heap.size W w' from by
          refine (cvow_any w.heap.size q2 p G8 c W h.co).mono ?_
          rintro e w' ⟨v, rfl, hn, hb⟩
          obtain ⟨_, _, hcz⟩ := h.wc
          have hr := RdG.mono (G' := fun i => G8 i ∨ i = gN ∨ i = gC) hn (Nat.le_refl _) (fun i _ hi => by
            rcases hi with hi | hi | hi
            · exact .inr hi
            · rw [hi]; exact .inl h.wn.size
            · rw [hi]; exact .inl hcz.size)
          have hr0 := hr
          obtain ⟨A, n, rfl, _⟩ := hr0
          exact ⟨A, n, rfl, hr, hb⟩))
        have HSA := Lib.hid (fun W A n A' n' (h1 : RdI W W.heap.size (.slice A c.v.took.chests.length n) c.v.took.chests) (h2 : RdI W W.heap.size (.slice A' c.v.took.chests.length n') c.v.took.chests) => rsameV_eq c.v (by have := sound_len HI8.out.co.ok.sound; omega) _ _ W h1 h2)
        unfold vwv at HSA
        have HNC := Lib.hid (fun W (h : CInv w W q2 p gN gC G8 c (.slice An c.v.took.chests.length nn)) W' (hW : Below W.heap.size W W') => (show W'.cell? ⟨gN, 0, none⟩ = some (.int .i64 c.v.prom.1) ∧ W'.cell? ⟨gN, 1, none⟩ = some (.int .i64 c.v.prom.2) ∧ W'.cell? ⟨gN, 2, none⟩ = some (.int .i64 c.v.at'.1) ∧ W'.cell? ⟨gN, 3, none⟩ = some (.int .i64 c.v.at'.2) ∧ W'.cell? ⟨gN, 4, none⟩ = some (.int .i64 c.v.took.gen) ∧ W'.cell? ⟨gN, 5, none⟩ = some (.int .i64 c.v.took.epoch) ∧ W'.cell? ⟨gN, 6, none⟩ = some (.int .i64 c.v.took.recd) ∧ W'.cell? ⟨gN, 7, none⟩ = some (.slice An c.v.took.chests.length nn) from ⟨(h.new hW).wn.cell 0 _ rfl, (h.new hW).wn.cell 1 _ rfl, (h.new hW).wn.cell 2 _ rfl, (h.new hW).wn.cell 3 _ rfl, (h.new hW).wn.cell 4 _ rfl, (h.new hW).wn.cell 5 _ rfl, (h.new hW).wn.cell 6 _ rfl, (h.new hW).wn.cell 7 _ rfl⟩))
        refine wp_region_planB [(true, 0), (true, 1), (true, 2), (true, 3), (true, 5), (false, 4), (false, 6), (true, 7), (true, 8)] (by kernel_rfl) (by kernel_rfl) (fun _ _ d _ _ h => by cases d <;> exact h) ?_
        obtain ⟨wd, hwd⟩ : ∃ wd, wd = w8.drew := ⟨_, rfl⟩
        have HId : Hid (CInv w wd q2 p gN gC G8 c (.slice An c.v.took.chests.length nn)) := Lib.hid (by rw [hwd]; exact HI8.out.new (Below.refl _ _).drew)
        rw [← hwd]
        clear hwd
        iterate 5 (refine PlanB.take (v := ?_) rfl rfl ?_ ?_; rotate_left; (focus (intro W hW; obtain ⟨q0, q1, q2, q3, q4, q5, q6, q7⟩ := HNC.out _ HId.out W hW; go_simp; (try with_reducible rfl); done)); (try simp only [Act.put, List.setIfInBounds_toArray, List.set_cons_zero, List.set_cons_succ]))
        refine PlanB.step rfl rfl (fun Kk hKk => ?_)
        go_simp
        refine (HVW.out wd HId.out).mono ?_
        rintro e wv1 ⟨Av1, nv1, rfl, hrv, hbv⟩
        refine hKk.out _ _ hbv ?_
        clear hKk Kk
        (try simp only [Act.put, List.setIfInBounds_toArray, List.set_cons_zero, List.set_cons_succ])
        have HIv1 := Lib.hid (HId.out.new hbv)
        have HRv1 := Lib.hid hrv
        clear hrv hbv
        refine PlanB.step rfl rfl (fun Kk hKk => ?_)
        go_simp
        refine (HSA.out wv1 Av1 nv1 An nn (RdG.rd HRv1.out) (RdG.rd HIv1.out.rn)).mono ?_
        rintro e wv2 ⟨rfl, hbv⟩
        refine hKk.out _ _ hbv ?_
        clear hKk Kk
        (try simp only [Act.put, List.setIfInBounds_toArray, List.set_cons_zero, List.set_cons_succ])
        have HIv2 := Lib.hid (HIv1.out.new hbv)
        clear hbv
        iterate 2 (refine PlanB.take (v := ?_) rfl rfl ?_ ?_; rotate_left; (focus (intro W hW; skip; go_simp; (try with_reducible rfl); done)); (try simp only [Act.put, List.setIfInBounds_toArray, List.set_cons_zero, List.set_cons_succ]))
        simp only [PlanB]
        clear HSA HNC HRv1 HVW
        go_wp2_with fail
        go_roundw
        case rel => exact ⟨i + 1, q2, G8, c, .slice An c.v.took.chests.length nn, by omega, by go_num, rfl, by rw [HD.out], HIv2.out⟩
        case measure => simp [intOf]; omega
      · subst hb hE hO
        have HD' := Lib.hid hd'
        have HI8 := Lib.hid (HINC.out hv)
        clear hd hd' hv hwn1 hwn2 hgne1 hgne2
        obtain ⟨xc, uc, hwc⟩ := HI8.out.wc
        have HWC := Lib.hid hwc
        clear hwc
        have m0 := HW8.out.cell 0 _ rfl
        have m1 := HW8.out.cell 1 _ rfl
        have m2 := HW8.out.cell 2 _ rfl
        have m3 := HW8.out.cell 3 _ rfl
        have m4 := HW8.out.cell 4 _ rfl
        have m5 := HW8.out.cell 5 _ rfl
        have m6 := HW8.out.cell 6 _ rfl
        have m7 := HW8.out.cell 7 _ rfl
        have y0 := HWC.out.cell 0 _ rfl
        have y1 := HWC.out.cell 1 _ rfl
        have y2 := HWC.out.cell 2 _ rfl
        have y3 := HWC.out.cell 3 _ rfl
        have y4 := HWC.out.cell 4 _ rfl
        have y5 := HWC.out.cell 5 _ rfl
        have y6 := HWC.out.cell 6 _ rfl
        have y7 := HWC.out.cell 7 _ rfl
        have h0 := HWC.out.frozen 0
        have h1 := HWC.out.frozen 1
        have h2 := HWC.out.frozen 2
        have h3 := HWC.out.frozen 3
        have h4 := HWC.out.frozen 4
        have h5 := HWC.out.frozen 5
        have h6 := HWC.out.frozen 6
        have h7 := HWC.out.frozen 7
        obtain ⟨w11, hw11⟩ : ∃ w11, w11 = vput w8 gC x1 (.slice Au x1.took.chests.length cu) := ⟨_, rfl⟩
        have HI11 : Hid (CInv w w11 q2 p gN gC G8 c' (.slice An c.v.took.chests.length nn)) := Lib.hid (by rw [hw11]; exact HI8.out.cut)
        unfold vput at hw11
        go_wp2_with fail
        rw [← hw11]
        clear hw11 m0 m1 m2 m3 m4 m5 m6 m7 y0 y1 y2 y3 y4 y5 y6 y7 h0 h1 h2 h3 h4 h5 h6 h7
        refine wp_region_planB [(true, 0), (true, 1), (true, 2), (true, 3), (true, 5), (false, 4), (false, 6), (true, 7), (true, 8)] (by kernel_rfl) (by kernel_rfl) (fun _ _ d _ _ h => by cases d <;> exact h) ?_
        iterate 3 (refine PlanB.take (v := ?_) rfl rfl ?_ ?_; rotate_left; (focus (intro W hW; skip; go_simp; (try with_reducible rfl); done)); (try simp only [Act.put, List.setIfInBounds_toArray, List.set_cons_zero, List.set_cons_succ]))
        iterate 2 (refine PlanB.skip rfl rfl ?_; (try simp only [Act.put, List.setIfInBounds_toArray, List.set_cons_zero, List.set_cons_succ]))
        refine PlanB.pass rfl rfl ?_
        (try simp only [Act.put, List.setIfInBounds_toArray, List.set_cons_zero, List.set_cons_succ])
        refine PlanB.pass rfl rfl ?_
        (try simp only [Act.put, List.setIfInBounds_toArray, List.set_cons_zero, List.set_cons_succ])
        iterate 1 (refine PlanB.skip rfl rfl ?_; (try simp only [Act.put, List.setIfInBounds_toArray, List.set_cons_zero, List.set_cons_succ]))
        iterate 1 (refine PlanB.take (v := ?_) rfl rfl ?_ ?_; rotate_left; (focus (intro W hW; skip; go_simp; (try with_reducible rfl); done)); (try simp only [Act.put, List.setIfInBounds_toArray, List.set_cons_zero, List.set_cons_succ]))
        simp only [PlanB]
        go_wp2_with fail
        go_roundw
        case rel => exact ⟨i + 1, q2, G8, c', _, by omega, by go_num, rfl, by rw [HD'.out], HI11.out.new (Below.refl _ _).drew⟩
        case measure => simp [intOf]; omega
      · subst hb hE hO hv
        have HD' := Lib.hid hd'
        clear hd hd'
        by_cases h22 : what < 2
        · obtain ⟨ey, hry⟩ := HY8.out h22 rfl
          subst ey
          obtain ⟨Ay, cy, rfl, -, -⟩ := hry.at
          have hS := rsameV_eq c'.v (by have := sound_len HMID.out.co.ok.sound; omega) _ _ w8 hry (RdG.rd HR8.out)
          unfold vwv at hS
          have HS8 := Lib.hid hS
          have a0 := HA8.out.cell 0 _ rfl
          clear hS hry
          have v0 := HV8.out.cell 0 _ rfl
          have v1 := HV8.out.cell 1 _ rfl
          have v2 := HV8.out.cell 2 _ rfl
          have v3 := HV8.out.cell 3 _ rfl
          have v4 := HV8.out.cell 4 _ rfl
          have v5 := HV8.out.cell 5 _ rfl
          have v6 := HV8.out.cell 6 _ rfl
          have v7 := HV8.out.cell 7 _ rfl
          have m0 := HW8.out.cell 0 _ rfl
          have m1 := HW8.out.cell 1 _ rfl
          have m2 := HW8.out.cell 2 _ rfl
          have m3 := HW8.out.cell 3 _ rfl
          have m4 := HW8.out.cell 4 _ rfl
          have m5 := HW8.out.cell 5 _ rfl
          have m6 := HW8.out.cell 6 _ rfl
          have m7 := HW8.out.cell 7 _ rfl
          go_wp2_with fail
          refine HS8.out.mono ?_
          rintro e w9 ⟨rfl, hb9⟩
          have HM9 := Lib.hid (HMID.out.moved (HMID.out.co.mv (Mv.of_new hb9 (fun _ => False)) (fun _ _ h => h)) (fun i hi => .inl hi) (Mv.of_new hb9 G8))
          have HW9 := Lib.hid (HW8.out.below hb9 HW8.out.size)
          have HR9 := Lib.hid (rd_moved (G' := G8) HR8.out (fun i hi => .inl hi) (Mv.of_new hb9 G8))
          clear hb9 v0 v1 v2 v3 v4 v5 v6 v7 m0 m1 m2 m3 m4 m5 m6 m7 a0
          obtain ⟨xc, uc, hwc⟩ := HM9.out.wc
          obtain ⟨xn, un, hwn⟩ := HM9.out.wn
          have HWC := Lib.hid hwc
          have HWN := Lib.hid hwn
          obtain ⟨w11, hw11⟩ : ∃ w11, w11 = vput (vput w9 gN c'.v (.slice Au c'.v.took.chests.length cu)) gC c'.v (.slice Au c'.v.took.chests.length cu) := ⟨_, rfl⟩
          have HI11 : Hid (CInv w w11 q2 p gN gC G8 c' (.slice Au c'.v.took.chests.length cu)) := Lib.hid (by rw [hw11]; exact HM9.out.store HR9.out)
          unfold vput at hw11
          clear hwc hwn
          have m0 := HW9.out.cell 0 _ rfl
          have m1 := HW9.out.cell 1 _ rfl
          have m2 := HW9.out.cell 2 _ rfl
          have m3 := HW9.out.cell 3 _ rfl
          have m4 := HW9.out.cell 4 _ rfl
          have m5 := HW9.out.cell 5 _ rfl
          have m6 := HW9.out.cell 6 _ rfl
          have m7 := HW9.out.cell 7 _ rfl
          have z0 := HWN.out.cell 0 _ rfl
          have z1 := HWN.out.cell 1 _ rfl
          have z2 := HWN.out.cell 2 _ rfl
          have z3 := HWN.out.cell 3 _ rfl
          have z4 := HWN.out.cell 4 _ rfl
          have z5 := HWN.out.cell 5 _ rfl
          have z6 := HWN.out.cell 6 _ rfl
          have z7 := HWN.out.cell 7 _ rfl
          have f0 := HWN.out.frozen 0
          have f1 := HWN.out.frozen 1
          have f2 := HWN.out.frozen 2
          have f3 := HWN.out.frozen 3
          have f4 := HWN.out.frozen 4
          have f5 := HWN.out.frozen 5
          have f6 := HWN.out.frozen 6
          have f7 := HWN.out.frozen 7
          have y0 := HWC.out.cell 0 _ rfl
          have y1 := HWC.out.cell 1 _ rfl
          have y2 := HWC.out.cell 2 _ rfl
          have y3 := HWC.out.cell 3 _ rfl
          have y4 := HWC.out.cell 4 _ rfl
          have y5 := HWC.out.cell 5 _ rfl
          have y6 := HWC.out.cell 6 _ rfl
          have y7 := HWC.out.cell 7 _ rfl
          have h0 := HWC.out.frozen 0
          have h1 := HWC.out.frozen 1
          have h2 := HWC.out.frozen 2
          have h3 := HWC.out.frozen 3
          have h4 := HWC.out.frozen 4
          have h5 := HWC.out.frozen 5
          have h6 := HWC.out.frozen 6
          have h7 := HWC.out.frozen 7
          go_wp2_with fail
          rw [← hw11]
          clear hw11 m0 m1 m2 m3 m4 m5 m6 m7 z0 z1 z2 z3 z4 z5 z6 z7 f0 f1 f2 f3 f4 f5 f6 f7 y0 y1 y2 y3 y4 y5 y6 y7 h0 h1 h2 h3 h4 h5 h6 h7
          have HVW := Lib.hid (fun W (h : CInv w W q2 p gN gC G8 c' (.slice Au c'.v.took.chests.length cu)) => (show Calls Try.prog 12 #[.pointer (some ⟨q2, 0, none⟩)] W fun e w' => ∃ A n, e = .returned (.agg #[.int .i64 c'.v.prom.1, .int .i64 c'.v.prom.2, .int .i64 c'.v.at'.1, .int .i64 c'.v.at'.2, .int .i64 c'.v.took.gen, .int .i64 c'.v.took.epoch, .int .i64 c'.v.took.recd, .slice A c'.v.took.chests.length n]) ∧ RdG encI 1 w' w'.heap.size (fun i => G8 i ∨ i = gN ∨ i = gC) (.slice A c'.v.took.chests.length n) c'.v.took.chests ∧ Below W.heap.size W w' from by
            refine (cvow_any w.heap.size q2 p G8 c' W h.co).mono ?_
            rintro e w' ⟨v, rfl, hn, hb⟩
            obtain ⟨_, _, hcz⟩ := h.wc
            have hr := RdG.mono (G' := fun i => G8 i ∨ i = gN ∨ i = gC) hn (Nat.le_refl _) (fun i _ hi => by
              rcases hi with hi | hi | hi
              · exact .inr hi
              · rw [hi]; exact .inl h.wn.size
              · rw [hi]; exact .inl hcz.size)
            have hr0 := hr
            obtain ⟨A, n, rfl, _⟩ := hr0
            exact ⟨A, n, rfl, hr, hb⟩))
          have HSA := Lib.hid (fun W A n A' n' (h1 : RdI W W.heap.size (.slice A c'.v.took.chests.length n) c'.v.took.chests) (h2 : RdI W W.heap.size (.slice A' c'.v.took.chests.length n') c'.v.took.chests) => rsameV_eq c'.v (by have := sound_len HI11.out.co.ok.sound; omega) _ _ W h1 h2)
          unfold vwv at HSA
          have HNC := Lib.hid (fun W (h : CInv w W q2 p gN gC G8 c' (.slice Au c'.v.took.chests.length cu)) W' (hW : Below W.heap.size W W') => (show W'.cell? ⟨gN, 0, none⟩ = some (.int .i64 c'.v.prom.1) ∧ W'.cell? ⟨gN, 1, none⟩ = some (.int .i64 c'.v.prom.2) ∧ W'.cell? ⟨gN, 2, none⟩ = some (.int .i64 c'.v.at'.1) ∧ W'.cell? ⟨gN, 3, none⟩ = some (.int .i64 c'.v.at'.2) ∧ W'.cell? ⟨gN, 4, none⟩ = some (.int .i64 c'.v.took.gen) ∧ W'.cell? ⟨gN, 5, none⟩ = some (.int .i64 c'.v.took.epoch) ∧ W'.cell? ⟨gN, 6, none⟩ = some (.int .i64 c'.v.took.recd) ∧ W'.cell? ⟨gN, 7, none⟩ = some (.slice Au c'.v.took.chests.length cu) from ⟨(h.new hW).wn.cell 0 _ rfl, (h.new hW).wn.cell 1 _ rfl, (h.new hW).wn.cell 2 _ rfl, (h.new hW).wn.cell 3 _ rfl, (h.new hW).wn.cell 4 _ rfl, (h.new hW).wn.cell 5 _ rfl, (h.new hW).wn.cell 6 _ rfl, (h.new hW).wn.cell 7 _ rfl⟩))
          refine wp_region_planB [(true, 0), (true, 1), (true, 2), (true, 3), (true, 5), (false, 4), (false, 6), (true, 7), (true, 8)] (by kernel_rfl) (by kernel_rfl) (fun _ _ d _ _ h => by cases d <;> exact h) ?_
          obtain ⟨wd, hwd⟩ : ∃ wd, wd = w11.drew := ⟨_, rfl⟩
          have HId : Hid (CInv w wd q2 p gN gC G8 c' (.slice Au c'.v.took.chests.length cu)) := Lib.hid (by rw [hwd]; exact HI11.out.new (Below.refl _ _).drew)
          rw [← hwd]
          clear hwd
          iterate 5 (refine PlanB.take (v := ?_) rfl rfl ?_ ?_; rotate_left; (focus (intro W hW; obtain ⟨q0, q1, q2, q3, q4, q5, q6, q7⟩ := HNC.out _ HId.out W hW; go_simp; (try with_reducible rfl); done)); (try simp only [Act.put, List.setIfInBounds_toArray, List.set_cons_zero, List.set_cons_succ]))
          refine PlanB.step rfl rfl (fun Kk hKk => ?_)
          go_simp
          refine (HVW.out wd HId.out).mono ?_
          rintro e wv1 ⟨Av1, nv1, rfl, hrv, hbv⟩
          refine hKk.out _ _ hbv ?_
          clear hKk Kk
          (try simp only [Act.put, List.setIfInBounds_toArray, List.set_cons_zero, List.set_cons_succ])
          have HIv1 := Lib.hid (HId.out.new hbv)
          have HRv1 := Lib.hid hrv
          clear hrv hbv
          refine PlanB.step rfl rfl (fun Kk hKk => ?_)
          go_simp
          refine (HSA.out wv1 Av1 nv1 Au cu (RdG.rd HRv1.out) (RdG.rd HIv1.out.rn)).mono ?_
          rintro e wv2 ⟨rfl, hbv⟩
          refine hKk.out _ _ hbv ?_
          clear hKk Kk
          (try simp only [Act.put, List.setIfInBounds_toArray, List.set_cons_zero, List.set_cons_succ])
          have HIv2 := Lib.hid (HIv1.out.new hbv)
          clear hbv
          iterate 2 (refine PlanB.take (v := ?_) rfl rfl ?_ ?_; rotate_left; (focus (intro W hW; skip; go_simp; (try with_reducible rfl); done)); (try simp only [Act.put, List.setIfInBounds_toArray, List.set_cons_zero, List.set_cons_succ]))
          simp only [PlanB]
          clear HSA HNC HRv1 HVW
          go_wp2_with fail
          go_roundw
          case rel => exact ⟨i + 1, q2, G8, c', .slice Au c'.v.took.chests.length cu, by omega, by go_num, rfl, by rw [HD'.out], HIv2.out⟩
          case measure => simp [intOf]; omega
        · have a0 := HA8.out.cell 0 _ rfl
          obtain ⟨xc, uc, hwc⟩ := HMID.out.wc
          obtain ⟨xn, un, hwn⟩ := HMID.out.wn
          have HWC := Lib.hid hwc
          have HWN := Lib.hid hwn
          obtain ⟨w11, hw11⟩ : ∃ w11, w11 = vput (vput w8 gN c'.v (.slice Au c'.v.took.chests.length cu)) gC c'.v (.slice Au c'.v.took.chests.length cu) := ⟨_, rfl⟩
          have HI11 : Hid (CInv w w11 q2 p gN gC G8 c' (.slice Au c'.v.took.chests.length cu)) := Lib.hid (by rw [hw11]; exact HMID.out.store HR8.out)
          unfold vput at hw11
          clear hwc hwn
          have m0 := HW8.out.cell 0 _ rfl
          have m1 := HW8.out.cell 1 _ rfl
          have m2 := HW8.out.cell 2 _ rfl
          have m3 := HW8.out.cell 3 _ rfl
          have m4 := HW8.out.cell 4 _ rfl
          have m5 := HW8.out.cell 5 _ rfl
          have m6 := HW8.out.cell 6 _ rfl
          have m7 := HW8.out.cell 7 _ rfl
          have z0 := HWN.out.cell 0 _ rfl
          have z1 := HWN.out.cell 1 _ rfl
          have z2 := HWN.out.cell 2 _ rfl
          have z3 := HWN.out.cell 3 _ rfl
          have z4 := HWN.out.cell 4 _ rfl
          have z5 := HWN.out.cell 5 _ rfl
          have z6 := HWN.out.cell 6 _ rfl
          have z7 := HWN.out.cell 7 _ rfl
          have f0 := HWN.out.frozen 0
          have f1 := HWN.out.frozen 1
          have f2 := HWN.out.frozen 2
          have f3 := HWN.out.frozen 3
          have f4 := HWN.out.frozen 4
          have f5 := HWN.out.frozen 5
          have f6 := HWN.out.frozen 6
          have f7 := HWN.out.frozen 7
          have y0 := HWC.out.cell 0 _ rfl
          have y1 := HWC.out.cell 1 _ rfl
          have y2 := HWC.out.cell 2 _ rfl
          have y3 := HWC.out.cell 3 _ rfl
          have y4 := HWC.out.cell 4 _ rfl
          have y5 := HWC.out.cell 5 _ rfl
          have y6 := HWC.out.cell 6 _ rfl
          have y7 := HWC.out.cell 7 _ rfl
          have h0 := HWC.out.frozen 0
          have h1 := HWC.out.frozen 1
          have h2 := HWC.out.frozen 2
          have h3 := HWC.out.frozen 3
          have h4 := HWC.out.frozen 4
          have h5 := HWC.out.frozen 5
          have h6 := HWC.out.frozen 6
          have h7 := HWC.out.frozen 7
          go_wp2_with fail
          rw [← hw11]
          clear hw11 m0 m1 m2 m3 m4 m5 m6 m7 z0 z1 z2 z3 z4 z5 z6 z7 f0 f1 f2 f3 f4 f5 f6 f7 y0 y1 y2 y3 y4 y5 y6 y7 h0 h1 h2 h3 h4 h5 h6 h7
          have HVW := Lib.hid (fun W (h : CInv w W q2 p gN gC G8 c' (.slice Au c'.v.took.chests.length cu)) => (show Calls Try.prog 12 #[.pointer (some ⟨q2, 0, none⟩)] W fun e w' => ∃ A n, e = .returned (.agg #[.int .i64 c'.v.prom.1, .int .i64 c'.v.prom.2, .int .i64 c'.v.at'.1, .int .i64 c'.v.at'.2, .int .i64 c'.v.took.gen, .int .i64 c'.v.took.epoch, .int .i64 c'.v.took.recd, .slice A c'.v.took.chests.length n]) ∧ RdG encI 1 w' w'.heap.size (fun i => G8 i ∨ i = gN ∨ i = gC) (.slice A c'.v.took.chests.length n) c'.v.took.chests ∧ Below W.heap.size W w' from by
            refine (cvow_any w.heap.size q2 p G8 c' W h.co).mono ?_
            rintro e w' ⟨v, rfl, hn, hb⟩
            obtain ⟨_, _, hcz⟩ := h.wc
            have hr := RdG.mono (G' := fun i => G8 i ∨ i = gN ∨ i = gC) hn (Nat.le_refl _) (fun i _ hi => by
              rcases hi with hi | hi | hi
              · exact .inr hi
              · rw [hi]; exact .inl h.wn.size
              · rw [hi]; exact .inl hcz.size)
            have hr0 := hr
            obtain ⟨A, n, rfl, _⟩ := hr0
            exact ⟨A, n, rfl, hr, hb⟩))
          have HSA := Lib.hid (fun W A n A' n' (h1 : RdI W W.heap.size (.slice A c'.v.took.chests.length n) c'.v.took.chests) (h2 : RdI W W.heap.size (.slice A' c'.v.took.chests.length n') c'.v.took.chests) => rsameV_eq c'.v (by have := sound_len HI11.out.co.ok.sound; omega) _ _ W h1 h2)
          unfold vwv at HSA
          have HNC := Lib.hid (fun W (h : CInv w W q2 p gN gC G8 c' (.slice Au c'.v.took.chests.length cu)) W' (hW : Below W.heap.size W W') => (show W'.cell? ⟨gN, 0, none⟩ = some (.int .i64 c'.v.prom.1) ∧ W'.cell? ⟨gN, 1, none⟩ = some (.int .i64 c'.v.prom.2) ∧ W'.cell? ⟨gN, 2, none⟩ = some (.int .i64 c'.v.at'.1) ∧ W'.cell? ⟨gN, 3, none⟩ = some (.int .i64 c'.v.at'.2) ∧ W'.cell? ⟨gN, 4, none⟩ = some (.int .i64 c'.v.took.gen) ∧ W'.cell? ⟨gN, 5, none⟩ = some (.int .i64 c'.v.took.epoch) ∧ W'.cell? ⟨gN, 6, none⟩ = some (.int .i64 c'.v.took.recd) ∧ W'.cell? ⟨gN, 7, none⟩ = some (.slice Au c'.v.took.chests.length cu) from ⟨(h.new hW).wn.cell 0 _ rfl, (h.new hW).wn.cell 1 _ rfl, (h.new hW).wn.cell 2 _ rfl, (h.new hW).wn.cell 3 _ rfl, (h.new hW).wn.cell 4 _ rfl, (h.new hW).wn.cell 5 _ rfl, (h.new hW).wn.cell 6 _ rfl, (h.new hW).wn.cell 7 _ rfl⟩))
          refine wp_region_planB [(true, 0), (true, 1), (true, 2), (true, 3), (true, 5), (false, 4), (false, 6), (true, 7), (true, 8)] (by kernel_rfl) (by kernel_rfl) (fun _ _ d _ _ h => by cases d <;> exact h) ?_
          obtain ⟨wd, hwd⟩ : ∃ wd, wd = w11.drew := ⟨_, rfl⟩
          have HId : Hid (CInv w wd q2 p gN gC G8 c' (.slice Au c'.v.took.chests.length cu)) := Lib.hid (by rw [hwd]; exact HI11.out.new (Below.refl _ _).drew)
          rw [← hwd]
          clear hwd
          iterate 5 (refine PlanB.take (v := ?_) rfl rfl ?_ ?_; rotate_left; (focus (intro W hW; obtain ⟨q0, q1, q2, q3, q4, q5, q6, q7⟩ := HNC.out _ HId.out W hW; go_simp; (try with_reducible rfl); done)); (try simp only [Act.put, List.setIfInBounds_toArray, List.set_cons_zero, List.set_cons_succ]))
          refine PlanB.step rfl rfl (fun Kk hKk => ?_)
          go_simp
          refine (HVW.out wd HId.out).mono ?_
          rintro e wv1 ⟨Av1, nv1, rfl, hrv, hbv⟩
          refine hKk.out _ _ hbv ?_
          clear hKk Kk
          (try simp only [Act.put, List.setIfInBounds_toArray, List.set_cons_zero, List.set_cons_succ])
          have HIv1 := Lib.hid (HId.out.new hbv)
          have HRv1 := Lib.hid hrv
          clear hrv hbv
          refine PlanB.step rfl rfl (fun Kk hKk => ?_)
          go_simp
          refine (HSA.out wv1 Av1 nv1 Au cu (RdG.rd HRv1.out) (RdG.rd HIv1.out.rn)).mono ?_
          rintro e wv2 ⟨rfl, hbv⟩
          refine hKk.out _ _ hbv ?_
          clear hKk Kk
          (try simp only [Act.put, List.setIfInBounds_toArray, List.set_cons_zero, List.set_cons_succ])
          have HIv2 := Lib.hid (HIv1.out.new hbv)
          clear hbv
          iterate 2 (refine PlanB.take (v := ?_) rfl rfl ?_ ?_; rotate_left; (focus (intro W hW; skip; go_simp; (try with_reducible rfl); done)); (try simp only [Act.put, List.setIfInBounds_toArray, List.set_cons_zero, List.set_cons_succ]))
          simp only [PlanB]
          clear HSA HNC HRv1 HVW
          go_wp2_with fail
          go_roundw
          case rel => exact ⟨i + 1, q2, G8, c', .slice Au c'.v.took.chests.length cu, by omega, by go_num, rfl, by rw [HD'.out], HIv2.out⟩
          case measure => simp [intOf]; omega
end Go.Proofs.Ythoheikbpihflaa

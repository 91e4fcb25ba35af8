/- RefereePlays's walk. -/
import Derived.Test.YtgppgecglkellaaGreatFat
import Derived.Deep.CutBlock
import Derived.Deep.DeepCutAuto
import Derived.Deep.Cut
import Derived.Deep.CutRange
namespace Go.Proofs.YtgppgecglkellaaGreat
open Go.RowKit
attribute [local go_sem] less_eq same_eq le_eq ge_eq gt_eq

set_option maxHeartbeats 16000000 in
set_option maxRecDepth 100000 in
theorem refereePlays_walk (l : List RAct) (v : Value) (w : World) (hv : Rd encRA 5 w w.heap.size v l) (_hl : l.length ≤ 140737488351232) (hall : ∀ a ∈ l, I64 a.ep ∧ I64 a.pv ∧ I64 a.ver ∧ TxOk w a.v a.ts) :
    Calls Tryz.prog 3 #[v] w fun e w' => e = .returned (.bool true) ∧ Below w.heap.size w w' := by
  obtain ⟨A, cl, rfl, hc, -⟩ := RdRA.at hv
  have HV := Lib.hid hv; clear hv
  have HALL := Lib.hid hall; clear hall
  have HN := Lib.hid (rfnew_any w)
  go_enter Tryz.func3, Tryz.ntmps3
  go_wp2_with fail
  refine HN.out.mono ?_
  rintro e w1 ⟨q, G0, rfl, ht, hb⟩
  have HA := Lib.hid (rfawake_any w1)
  have H1 := Lib.hid ht
  have HB := Lib.hid hb
  clear ht hb HN
  go_wp2_with fail
  refine HA.out.mono ?_
  rintro e w2 ⟨rfl, hb⟩
  have H2 := Lib.hid (H1.out.new hb)
  have HB2 := Lib.hid (HB.out.trans (hb.mono HB.out.size))
  clear hb HA H1 HB
  obtain ⟨w3, hw3⟩ : ∃ W, W = w2.alloc (.cells #[.int .i64 0, .int .i64 0, .pointer none, .bool false, .slice none 0 0] 30) := ⟨_, rfl⟩
  obtain ⟨g0, hg0⟩ : ∃ g, g = w2.heap.size := ⟨_, rfl⟩
  have hb3 : Below w2.heap.size w2 w3 := by rw [hw3]; exact (Below.refl _ w2).alloc (Nat.le_refl _) _
  have hW3 : Whole w3 g0 30 [.int .i64 0, .int .i64 0, .pointer none, .bool false, .slice none 0 0] := by rw [hw3, hg0]; exact Whole.fresh w2 _ [_, _, _, _, _]
  have HM3 := Lib.hid (show Two w3 w.heap.size q g0 G0 none 0 0 Rf.new Rf.new (.slice none 0 0) from ⟨H2.out.new hb3, GmAt.zero hW3 (by rw [hg0]; exact HB2.out.size), fun i hi hG => by
    have e1 := (H2.out.low.2 i hG).2
    rcases hi with rfl | ⟨x, hx, _⟩
    · omega
    · cases hx⟩)
  have HB3 := Lib.hid (HB2.out.trans (hb3.mono HB2.out.size))
  go_wp2_with fail
  rw [← hw3, ← hg0]
  clear H2 HB2 hb3 hW3 hw3 hg0
  go_loopw [4, 5] (fun gv iv wr => ∃ (i g : Nat) (G : Nat → Prop) (mo : Mo) (tv : Value) (n n' : Nat) (r : Rf), i ≤ 14 ∧ iv = .int .i64 (i : Int) ∧ gv = .pointer (some ⟨g, 0, none⟩) ∧ n ≤ 4 * i ∧ n' ≤ 96 * i ∧ r.told.length ≤ 4 ∧ Two wr w.heap.size q g G mo n n' r r tv ∧ Below w.heap.size w wr) (fun _ iv _ => 14 - (intOf iv).toNat)
  case atStart => exact ⟨0, g0, G0, none, _, 0, 0, Rf.new, by omega, rfl, rfl, by omega, by omega, by simp [Rf.new], HM3.out, HB3.out⟩
  case round =>
    obtain ⟨i, g, G, mo, tv, n, n', r, hi3, rfl, rfl, hn, hn', hto, hm, hb⟩ := hrel
    have HM := Lib.hid hm
    have HB := Lib.hid hb
    have HTO := Lib.hid hto
    have hbs := hb.size
    clear hm hb hto HM3 HB3
    by_cases hgo : i < l.length ∧ i < 14
    · obtain ⟨hil, hi4⟩ := hgo
      have h1 : (i : Int) < (l.length : Int) := by omega
      have h2 : (i : Int) < 14 := by omega
      have h0 : (0 : Int) ≤ (i : Int) := by omega
      obtain ⟨A', c', e, -, hcell⟩ := RdRA.at (HV.out.below HB.out (Nat.le_refl _))
      injection e with e1 e2 e3
      subst e1 e3
      obtain ⟨ba, o, rfl, hbl, q0, q1, q2, q3, q4⟩ := hcell i hil
      clear hcell
      obtain ⟨hep, hpv, hvr, htx⟩ := HALL.out l[i] (List.getElem_mem hil)
      generalize l[i] = a at q0 q1 q2 q3 q4 hep hpv hvr htx
      obtain ⟨what, ep, pv, vr, av, ts⟩ := a
      simp only at q0 q1 q2 q3 q4 hep hpv hvr htx
      obtain ⟨Aa, ca, rfl, _, _⟩ := htx.rd.at
      have HTX := Lib.hid htx
      clear htx
      obtain ⟨w4, hw4⟩ : ∃ W, W = wr.alloc (.cells #[.int .i64 what, .int .i64 ep, .int .i64 pv, .int .i64 vr, .slice Aa ts.length ca] 33) := ⟨_, rfl⟩
      obtain ⟨gA, hgA⟩ : ∃ g, g = wr.heap.size := ⟨_, rfl⟩
      have hG : Whole w4 gA 33 [.int .i64 what, .int .i64 ep, .int .i64 pv, .int .i64 vr, .slice Aa ts.length ca] := by rw [hw4, hgA]; exact Whole.fresh wr _ [_, _, _, _, _]
      have hmv : Below wr.heap.size wr w4 := by rw [hw4]; exact (Below.refl wr.heap.size wr).alloc (Nat.le_refl _) _
      have HNG := Lib.hid (HM.out.fresh (show wr.heap.size ≤ gA by omega))
      have HM4 := Lib.hid (HM.out.same hmv)
      have HB4 := Lib.hid (HB.out.trans (hmv.mono hbs))
      have HG := Lib.hid hG
      clear hG hmv HM HB hbs
      by_cases hw0 : what = 0
      case pos =>
        subst hw0
        have HC := Lib.hid (rfbegin_any w.heap.size q n G r ep vr hep hvr w4 HM4.out.rf)
        go_wp2_with fail
        rw [← hw4, ← hgA]
        refine HC.out.mono ?_
        rintro e w5 ⟨rfl, G5, hr5, hG5, hm5⟩
        have HMG := Lib.hid (HM4.out.prog hr5 hG5 hm5)
        have HGw5 := Lib.hid (hm5.whole HG.out HNG.out.1)
        have HBw5 := Lib.hid (HB4.out.trans (HM4.out.below hm5))
        clear hr5 hG5 hm5 HC hw4 hgA
        have c1 := HGw5.out.cell 1 _ rfl
        have c3 := HGw5.out.cell 3 _ rfl
        have hcase : ep < 1 ∨ (¬ ep < 1 ∧ vr < 0) ∨ (¬ ep < 1 ∧ ¬ vr < 0 ∧ ep < r.epoch) ∨ (¬ ep < 1 ∧ ¬ vr < 0 ∧ ep = r.epoch) ∨ (¬ ep < 1 ∧ ¬ vr < 0 ∧ r.epoch < ep) := by omega
        rcases hcase with h1 | ⟨h1, h2⟩ | ⟨h1, h2, h3⟩ | ⟨h1, h2, h3⟩ | ⟨h1, h2, h3⟩
        · have hbg : r.begin_ ep vr = (1, r) := by unfold Rf.begin_; rw [if_pos (.inl h1)]
          rw [hbg] at HMG
          rw [hbg]
          clear hbg
          have HMw5 := Lib.hid HMG.out
          have hb1 := decide_eq_true h1
          go_wp2_with fail
          go_roundw
          case rel => exact ⟨i + 1, g, G5, mo, tv, n, n', r, by omega, by go_num, rfl, by omega, by omega, HTO.out, HMw5.out, HBw5.out⟩
          case measure => simp [intOf]; omega
        · have hbg : r.begin_ ep vr = (1, r) := by unfold Rf.begin_; rw [if_pos (.inr h2)]
          rw [hbg] at HMG
          rw [hbg]
          clear hbg
          have HMw5 := Lib.hid HMG.out
          have hb1 := decide_eq_false h1
          have hb2 := decide_eq_true h2
          go_wp2_with fail
          go_roundw
          case rel => exact ⟨i + 1, g, G5, mo, tv, n, n', r, by omega, by go_num, rfl, by omega, by omega, HTO.out, HMw5.out, HBw5.out⟩
          case measure => simp [intOf]; omega
        · have hbg : r.begin_ ep vr = (7, r) := by unfold Rf.begin_; rw [if_neg (by omega), if_pos h3]
          rw [hbg] at HMG
          rw [hbg]
          clear hbg
          have HMw5 := Lib.hid HMG.out
          have hb1 := decide_eq_false h1
          have hb2 := decide_eq_false h2
          have hb3 := decide_eq_true h3
          go_wp2_with fail
          clear c1 c3
          obtain ⟨w6, hww6⟩ : ∃ W, W = w5.drew := ⟨_, rfl⟩
          have hbw6 : Below w5.heap.size w5 w6 := by rw [hww6]; exact (Below.refl _ _).drew
          have HMw6 := Lib.hid (HMw5.out.same hbw6)
          have HBw6 := Lib.hid (HBw5.out.trans (hbw6.mono HBw5.out.size))
          have HGw6 := Lib.hid (HGw5.out.below hbw6 HGw5.out.size)
          refine wp_region_planT (fun W => W.cell? ⟨gA, 1, none⟩ = some (.int .i64 ep) ∧ W.cell? ⟨g, 0, none⟩ = some (.int .i64 r.epoch) ∧ True) (.take 0 (.take 1 (.take 2 (.take 3 (.take 4 (.take 5 (.take 6 (.take 7 .done)))))))) (by kernel_rfl) (by kernel_rfl) (fun _ _ d _ _ h => by cases d <;> exact h) (by rw [← hww6]; exact ⟨HGw6.out.cell 1 _ rfl, HMw6.out.gm.wh.cell 0 _ rfl, trivial⟩) ?_
          rw [← hww6]
          clear hww6 hbw6
          (refine PlanT.takeI (v := ?_) rfl rfl ?_ ?_; rotate_left; (focus (intro W hW; obtain ⟨k0, k1, k2⟩ := hW; go_simp; (try with_reducible rfl); done)); (try simp only [Act.put, List.setIfInBounds_toArray, List.set_cons_zero, List.set_cons_succ]))
          (refine PlanT.takeI (v := ?_) rfl rfl ?_ ?_; rotate_left; (focus (intro W hW; obtain ⟨k0, k1, k2⟩ := hW; go_simp; (try with_reducible rfl); done)); (try simp only [Act.put, List.setIfInBounds_toArray, List.set_cons_zero, List.set_cons_succ]))
          (refine PlanT.takeI (v := ?_) rfl rfl ?_ ?_; rotate_left; (focus (intro W hW; obtain ⟨k0, k1, k2⟩ := hW; go_simp; (try with_reducible rfl); done)); (try simp only [Act.put, List.setIfInBounds_toArray, List.set_cons_zero, List.set_cons_succ]))
          (refine PlanT.takeI (v := ?_) rfl rfl ?_ ?_; rotate_left; (focus (intro W hW; obtain ⟨k0, k1, k2⟩ := hW; go_simp; (try with_reducible rfl); done)); (try simp only [Act.put, List.setIfInBounds_toArray, List.set_cons_zero, List.set_cons_succ]))
          (refine PlanT.takeI (v := ?_) rfl rfl ?_ ?_; rotate_left; (focus (intro W hW; obtain ⟨k0, k1, k2⟩ := hW; go_simp; (try with_reducible rfl); done)); (try simp only [Act.put, List.setIfInBounds_toArray, List.set_cons_zero, List.set_cons_succ]))
          (refine PlanT.takeI (v := ?_) rfl rfl ?_ ?_; rotate_left; (focus (intro W hW; obtain ⟨k0, k1, k2⟩ := hW; go_simp; (try with_reducible rfl); done)); (try simp only [Act.put, List.setIfInBounds_toArray, List.set_cons_zero, List.set_cons_succ]))
          (refine PlanT.takeI (v := .bool true) rfl rfl ?_ ?_; (focus (intro W hW; obtain ⟨k0, k1, k2⟩ := hW; go_simp; (try with_reducible rfl); done)); (try simp only [Act.put, List.setIfInBounds_toArray, List.set_cons_zero, List.set_cons_succ]))
          (refine PlanT.takeI (v := .bool true) rfl rfl ?_ ?_; (focus (intro W hW; obtain ⟨k0, k1, k2⟩ := hW; go_simp; (try with_reducible rfl); done)); (try simp only [Act.put, List.setIfInBounds_toArray, List.set_cons_zero, List.set_cons_succ]))
          simp only [PlanT]
          go_wp2_with fail
          go_roundw
          case rel => exact ⟨i + 1, g, G5, mo, tv, n, n', r, by omega, by go_num, rfl, by omega, by omega, HTO.out, HMw6.out, HBw6.out⟩
          case measure => simp [intOf]; omega
        · have hbg : r.begin_ ep vr = (0, r) := by unfold Rf.begin_; rw [if_neg (by omega), if_neg (by omega), if_pos h3]
          rw [hbg] at HMG
          rw [hbg]
          clear hbg
          have HMw5 := Lib.hid HMG.out
          have hb1 := decide_eq_false h1
          have hb2 := decide_eq_false h2
          have hb3 : decide (ep < r.epoch) = false := decide_eq_false (by omega)
          have hb4 : decide (r.epoch < ep) = false := decide_eq_false (by omega)
          clear h3
          go_wp2_with fail
          clear c1 c3
          obtain ⟨w6, hww6⟩ : ∃ W, W = w5.drew := ⟨_, rfl⟩
          have hbw6 : Below w5.heap.size w5 w6 := by rw [hww6]; exact (Below.refl _ _).drew
          have HMw6 := Lib.hid (HMw5.out.same hbw6)
          have HBw6 := Lib.hid (HBw5.out.trans (hbw6.mono HBw5.out.size))
          have HGw6 := Lib.hid (HGw5.out.below hbw6 HGw5.out.size)
          refine wp_region_planT (fun W => W.cell? ⟨gA, 1, none⟩ = some (.int .i64 ep) ∧ W.cell? ⟨g, 0, none⟩ = some (.int .i64 r.epoch) ∧ True) (.take 0 (.take 1 (.take 2 (.take 3 (.take 4 (.take 5 (.take 6 (.take 7 .done)))))))) (by kernel_rfl) (by kernel_rfl) (fun _ _ d _ _ h => by cases d <;> exact h) (by rw [← hww6]; exact ⟨HGw6.out.cell 1 _ rfl, HMw6.out.gm.wh.cell 0 _ rfl, trivial⟩) ?_
          rw [← hww6]
          clear hww6 hbw6
          (refine PlanT.takeI (v := ?_) rfl rfl ?_ ?_; rotate_left; (focus (intro W hW; obtain ⟨k0, k1, k2⟩ := hW; go_simp; (try with_reducible rfl); done)); (try simp only [Act.put, List.setIfInBounds_toArray, List.set_cons_zero, List.set_cons_succ]))
          (refine PlanT.takeI (v := ?_) rfl rfl ?_ ?_; rotate_left; (focus (intro W hW; obtain ⟨k0, k1, k2⟩ := hW; go_simp; (try with_reducible rfl); done)); (try simp only [Act.put, List.setIfInBounds_toArray, List.set_cons_zero, List.set_cons_succ]))
          (refine PlanT.takeI (v := ?_) rfl rfl ?_ ?_; rotate_left; (focus (intro W hW; obtain ⟨k0, k1, k2⟩ := hW; go_simp; (try with_reducible rfl); done)); (try simp only [Act.put, List.setIfInBounds_toArray, List.set_cons_zero, List.set_cons_succ]))
          (refine PlanT.takeI (v := ?_) rfl rfl ?_ ?_; rotate_left; (focus (intro W hW; obtain ⟨k0, k1, k2⟩ := hW; go_simp; (try with_reducible rfl); done)); (try simp only [Act.put, List.setIfInBounds_toArray, List.set_cons_zero, List.set_cons_succ]))
          (refine PlanT.takeI (v := ?_) rfl rfl ?_ ?_; rotate_left; (focus (intro W hW; obtain ⟨k0, k1, k2⟩ := hW; go_simp; (try with_reducible rfl); done)); (try simp only [Act.put, List.setIfInBounds_toArray, List.set_cons_zero, List.set_cons_succ]))
          (refine PlanT.takeI (v := ?_) rfl rfl ?_ ?_; rotate_left; (focus (intro W hW; obtain ⟨k0, k1, k2⟩ := hW; go_simp; (try with_reducible rfl); done)); (try simp only [Act.put, List.setIfInBounds_toArray, List.set_cons_zero, List.set_cons_succ]))
          (refine PlanT.takeI (v := .bool false) rfl rfl ?_ ?_; (focus (intro W hW; obtain ⟨k0, k1, k2⟩ := hW; go_simp; (try with_reducible rfl); done)); (try simp only [Act.put, List.setIfInBounds_toArray, List.set_cons_zero, List.set_cons_succ]))
          (refine PlanT.takeI (v := .bool false) rfl rfl ?_ ?_; (focus (intro W hW; obtain ⟨k0, k1, k2⟩ := hW; go_simp; (try with_reducible rfl); done)); (try simp only [Act.put, List.setIfInBounds_toArray, List.set_cons_zero, List.set_cons_succ]))
          simp only [PlanT]
          go_wp2_with fail
          obtain ⟨w7, hww7⟩ : ∃ W, W = w6.drew := ⟨_, rfl⟩
          have hbw7 : Below w6.heap.size w6 w7 := by rw [hww7]; exact (Below.refl _ _).drew
          have HMw7 := Lib.hid (HMw6.out.same hbw7)
          have HBw7 := Lib.hid (HBw6.out.trans (hbw7.mono HBw6.out.size))
          have HGw7 := Lib.hid (HGw6.out.below hbw7 HGw6.out.size)
          refine wp_region_planT (fun W => W.cell? ⟨gA, 1, none⟩ = some (.int .i64 ep) ∧ W.cell? ⟨g, 0, none⟩ = some (.int .i64 r.epoch) ∧ True) (.take 0 (.take 1 (.take 2 (.take 3 (.take 4 (.take 5 (.take 6 (.take 7 .done)))))))) (by kernel_rfl) (by kernel_rfl) (fun _ _ d _ _ h => by cases d <;> exact h) (by rw [← hww7]; exact ⟨HGw7.out.cell 1 _ rfl, HMw7.out.gm.wh.cell 0 _ rfl, trivial⟩) ?_
          rw [← hww7]
          clear hww7 hbw7
          (refine PlanT.takeI (v := ?_) rfl rfl ?_ ?_; rotate_left; (focus (intro W hW; obtain ⟨k0, k1, k2⟩ := hW; go_simp; (try with_reducible rfl); done)); (try simp only [Act.put, List.setIfInBounds_toArray, List.set_cons_zero, List.set_cons_succ]))
          (refine PlanT.takeI (v := ?_) rfl rfl ?_ ?_; rotate_left; (focus (intro W hW; obtain ⟨k0, k1, k2⟩ := hW; go_simp; (try with_reducible rfl); done)); (try simp only [Act.put, List.setIfInBounds_toArray, List.set_cons_zero, List.set_cons_succ]))
          (refine PlanT.takeI (v := ?_) rfl rfl ?_ ?_; rotate_left; (focus (intro W hW; obtain ⟨k0, k1, k2⟩ := hW; go_simp; (try with_reducible rfl); done)); (try simp only [Act.put, List.setIfInBounds_toArray, List.set_cons_zero, List.set_cons_succ]))
          (refine PlanT.takeI (v := ?_) rfl rfl ?_ ?_; rotate_left; (focus (intro W hW; obtain ⟨k0, k1, k2⟩ := hW; go_simp; (try with_reducible rfl); done)); (try simp only [Act.put, List.setIfInBounds_toArray, List.set_cons_zero, List.set_cons_succ]))
          (refine PlanT.takeI (v := ?_) rfl rfl ?_ ?_; rotate_left; (focus (intro W hW; obtain ⟨k0, k1, k2⟩ := hW; go_simp; (try with_reducible rfl); done)); (try simp only [Act.put, List.setIfInBounds_toArray, List.set_cons_zero, List.set_cons_succ]))
          (refine PlanT.takeI (v := ?_) rfl rfl ?_ ?_; rotate_left; (focus (intro W hW; obtain ⟨k0, k1, k2⟩ := hW; go_simp; (try with_reducible rfl); done)); (try simp only [Act.put, List.setIfInBounds_toArray, List.set_cons_zero, List.set_cons_succ]))
          (refine PlanT.takeI (v := .bool false) rfl rfl ?_ ?_; (focus (intro W hW; obtain ⟨k0, k1, k2⟩ := hW; go_simp; (try with_reducible rfl); done)); (try simp only [Act.put, List.setIfInBounds_toArray, List.set_cons_zero, List.set_cons_succ]))
          (refine PlanT.takeI (v := .bool false) rfl rfl ?_ ?_; (focus (intro W hW; obtain ⟨k0, k1, k2⟩ := hW; go_simp; (try with_reducible rfl); done)); (try simp only [Act.put, List.setIfInBounds_toArray, List.set_cons_zero, List.set_cons_succ]))
          simp only [PlanT]
          go_wp2_with fail
          go_roundw
          case rel => exact ⟨i + 1, g, G5, mo, tv, n, n', r, by omega, by go_num, rfl, by omega, by omega, HTO.out, HMw7.out, HBw7.out⟩
          case measure => simp [intOf]; omega
        · have hbg : r.begin_ ep vr = (0, ⟨ep, vr, mnew vr, false, []⟩) := by unfold Rf.begin_; rw [if_neg (by omega), if_neg (by omega), if_neg (by omega)]
          rw [hbg] at HMG
          rw [hbg]
          clear hbg
          have hb1 := decide_eq_false h1
          have hb2 := decide_eq_false h2
          have hb3 : decide (ep < r.epoch) = false := decide_eq_false (by omega)
          have hb4 : decide (r.epoch < ep) = true := decide_eq_true h3
          have HEP := Lib.hid (show 1 ≤ ep by omega)
          clear h3
          go_wp2_with fail
          clear c1 c3
          obtain ⟨w6, hww6⟩ : ∃ W, W = w5.drew := ⟨_, rfl⟩
          have hbw6 : Below w5.heap.size w5 w6 := by rw [hww6]; exact (Below.refl _ _).drew
          have HMw6 := Lib.hid (HMG.out.same hbw6)
          have HBw6 := Lib.hid (HBw5.out.trans (hbw6.mono HBw5.out.size))
          have HGw6 := Lib.hid (HGw5.out.below hbw6 HGw5.out.size)
          refine wp_region_planT (fun W => W.cell? ⟨gA, 1, none⟩ = some (.int .i64 ep) ∧ W.cell? ⟨g, 0, none⟩ = some (.int .i64 r.epoch) ∧ True) (.take 0 (.take 1 (.take 2 (.take 3 (.take 4 (.take 5 (.take 6 (.take 7 .done)))))))) (by kernel_rfl) (by kernel_rfl) (fun _ _ d _ _ h => by cases d <;> exact h) (by rw [← hww6]; exact ⟨HGw6.out.cell 1 _ rfl, HMw6.out.gm.wh.cell 0 _ rfl, trivial⟩) ?_
          rw [← hww6]
          clear hww6 hbw6
          (refine PlanT.takeI (v := ?_) rfl rfl ?_ ?_; rotate_left; (focus (intro W hW; obtain ⟨k0, k1, k2⟩ := hW; go_simp; (try with_reducible rfl); done)); (try simp only [Act.put, List.setIfInBounds_toArray, List.set_cons_zero, List.set_cons_succ]))
          (refine PlanT.takeI (v := ?_) rfl rfl ?_ ?_; rotate_left; (focus (intro W hW; obtain ⟨k0, k1, k2⟩ := hW; go_simp; (try with_reducible rfl); done)); (try simp only [Act.put, List.setIfInBounds_toArray, List.set_cons_zero, List.set_cons_succ]))
          (refine PlanT.takeI (v := ?_) rfl rfl ?_ ?_; rotate_left; (focus (intro W hW; obtain ⟨k0, k1, k2⟩ := hW; go_simp; (try with_reducible rfl); done)); (try simp only [Act.put, List.setIfInBounds_toArray, List.set_cons_zero, List.set_cons_succ]))
          (refine PlanT.takeI (v := ?_) rfl rfl ?_ ?_; rotate_left; (focus (intro W hW; obtain ⟨k0, k1, k2⟩ := hW; go_simp; (try with_reducible rfl); done)); (try simp only [Act.put, List.setIfInBounds_toArray, List.set_cons_zero, List.set_cons_succ]))
          (refine PlanT.takeI (v := ?_) rfl rfl ?_ ?_; rotate_left; (focus (intro W hW; obtain ⟨k0, k1, k2⟩ := hW; go_simp; (try with_reducible rfl); done)); (try simp only [Act.put, List.setIfInBounds_toArray, List.set_cons_zero, List.set_cons_succ]))
          (refine PlanT.takeI (v := ?_) rfl rfl ?_ ?_; rotate_left; (focus (intro W hW; obtain ⟨k0, k1, k2⟩ := hW; go_simp; (try with_reducible rfl); done)); (try simp only [Act.put, List.setIfInBounds_toArray, List.set_cons_zero, List.set_cons_succ]))
          (refine PlanT.takeI (v := .bool false) rfl rfl ?_ ?_; (focus (intro W hW; obtain ⟨k0, k1, k2⟩ := hW; go_simp; (try with_reducible rfl); done)); (try simp only [Act.put, List.setIfInBounds_toArray, List.set_cons_zero, List.set_cons_succ]))
          (refine PlanT.takeI (v := .bool false) rfl rfl ?_ ?_; (focus (intro W hW; obtain ⟨k0, k1, k2⟩ := hW; go_simp; (try with_reducible rfl); done)); (try simp only [Act.put, List.setIfInBounds_toArray, List.set_cons_zero, List.set_cons_succ]))
          simp only [PlanT]
          go_wp2_with fail
          obtain ⟨w7, hww7⟩ : ∃ W, W = w6.drew := ⟨_, rfl⟩
          have hbw7 : Below w6.heap.size w6 w7 := by rw [hww7]; exact (Below.refl _ _).drew
          have HMw7 := Lib.hid (HMw6.out.same hbw7)
          have HBw7 := Lib.hid (HBw6.out.trans (hbw7.mono HBw6.out.size))
          have HGw7 := Lib.hid (HGw6.out.below hbw7 HGw6.out.size)
          refine wp_region_planT (fun W => W.cell? ⟨gA, 1, none⟩ = some (.int .i64 ep) ∧ W.cell? ⟨g, 0, none⟩ = some (.int .i64 r.epoch) ∧ True) (.take 0 (.take 1 (.take 2 (.take 3 (.take 4 (.take 5 (.take 6 (.take 7 .done)))))))) (by kernel_rfl) (by kernel_rfl) (fun _ _ d _ _ h => by cases d <;> exact h) (by rw [← hww7]; exact ⟨HGw7.out.cell 1 _ rfl, HMw7.out.gm.wh.cell 0 _ rfl, trivial⟩) ?_
          rw [← hww7]
          clear hww7 hbw7
          (refine PlanT.takeI (v := ?_) rfl rfl ?_ ?_; rotate_left; (focus (intro W hW; obtain ⟨k0, k1, k2⟩ := hW; go_simp; (try with_reducible rfl); done)); (try simp only [Act.put, List.setIfInBounds_toArray, List.set_cons_zero, List.set_cons_succ]))
          (refine PlanT.takeI (v := ?_) rfl rfl ?_ ?_; rotate_left; (focus (intro W hW; obtain ⟨k0, k1, k2⟩ := hW; go_simp; (try with_reducible rfl); done)); (try simp only [Act.put, List.setIfInBounds_toArray, List.set_cons_zero, List.set_cons_succ]))
          (refine PlanT.takeI (v := ?_) rfl rfl ?_ ?_; rotate_left; (focus (intro W hW; obtain ⟨k0, k1, k2⟩ := hW; go_simp; (try with_reducible rfl); done)); (try simp only [Act.put, List.setIfInBounds_toArray, List.set_cons_zero, List.set_cons_succ]))
          (refine PlanT.takeI (v := ?_) rfl rfl ?_ ?_; rotate_left; (focus (intro W hW; obtain ⟨k0, k1, k2⟩ := hW; go_simp; (try with_reducible rfl); done)); (try simp only [Act.put, List.setIfInBounds_toArray, List.set_cons_zero, List.set_cons_succ]))
          (refine PlanT.takeI (v := ?_) rfl rfl ?_ ?_; rotate_left; (focus (intro W hW; obtain ⟨k0, k1, k2⟩ := hW; go_simp; (try with_reducible rfl); done)); (try simp only [Act.put, List.setIfInBounds_toArray, List.set_cons_zero, List.set_cons_succ]))
          (refine PlanT.takeI (v := ?_) rfl rfl ?_ ?_; rotate_left; (focus (intro W hW; obtain ⟨k0, k1, k2⟩ := hW; go_simp; (try with_reducible rfl); done)); (try simp only [Act.put, List.setIfInBounds_toArray, List.set_cons_zero, List.set_cons_succ]))
          (refine PlanT.takeI (v := .bool true) rfl rfl ?_ ?_; (focus (intro W hW; obtain ⟨k0, k1, k2⟩ := hW; go_simp; (try with_reducible rfl); done)); (try simp only [Act.put, List.setIfInBounds_toArray, List.set_cons_zero, List.set_cons_succ]))
          (refine PlanT.takeI (v := .bool true) rfl rfl ?_ ?_; (focus (intro W hW; obtain ⟨k0, k1, k2⟩ := hW; go_simp; (try with_reducible rfl); done)); (try simp only [Act.put, List.setIfInBounds_toArray, List.set_cons_zero, List.set_cons_succ]))
          simp only [PlanT]
          go_wp2_with fail
          obtain ⟨w8, hw8⟩ : ∃ W, W = w7.drew := ⟨_, rfl⟩
          have hb8 : Below w7.heap.size w7 w8 := by rw [hw8]; exact (Below.refl _ _).drew
          have HMw8 := Lib.hid (HMw7.out.same hb8)
          have HBw8 := Lib.hid (HBw7.out.trans (hb8.mono HBw7.out.size))
          have HGw8 := Lib.hid (HGw7.out.below hb8 HGw7.out.size)
          refine wp_region_planT (fun W => W.cell? ⟨gA, 1, none⟩ = some (.int .i64 ep) ∧ W.cell? ⟨gA, 3, none⟩ = some (.int .i64 vr) ∧ True) (.take 0 (.take 1 (.take 2 (.take 3 (.take 4 (.take 5 (.step 6 (.take 7 (.step 8 (.take 9 .done)))))))))) (by kernel_rfl) (by kernel_rfl) (fun _ _ d _ _ h => by cases d <;> exact h) (by rw [← hw8]; exact ⟨HGw8.out.cell 1 _ rfl, HGw8.out.cell 3 _ rfl, trivial⟩) ?_
          rw [← hw8]
          clear hw8 hb8
          (refine PlanT.takeI (v := ?_) rfl rfl ?_ ?_; rotate_left; (focus (intro W hW; obtain ⟨k0, k1, k2⟩ := hW; go_simp; (try with_reducible rfl); done)); (try simp only [Act.put, List.setIfInBounds_toArray, List.set_cons_zero, List.set_cons_succ]))
          (refine PlanT.takeI (v := ?_) rfl rfl ?_ ?_; rotate_left; (focus (intro W hW; obtain ⟨k0, k1, k2⟩ := hW; go_simp; (try with_reducible rfl); done)); (try simp only [Act.put, List.setIfInBounds_toArray, List.set_cons_zero, List.set_cons_succ]))
          (refine PlanT.takeI (v := ?_) rfl rfl ?_ ?_; rotate_left; (focus (intro W hW; obtain ⟨k0, k1, k2⟩ := hW; go_simp; (try with_reducible rfl); done)); (try simp only [Act.put, List.setIfInBounds_toArray, List.set_cons_zero, List.set_cons_succ]))
          (refine PlanT.takeI (v := ?_) rfl rfl ?_ ?_; rotate_left; (focus (intro W hW; obtain ⟨k0, k1, k2⟩ := hW; go_simp; (try with_reducible rfl); done)); (try simp only [Act.put, List.setIfInBounds_toArray, List.set_cons_zero, List.set_cons_succ]))
          (refine PlanT.takeI (v := ?_) rfl rfl ?_ ?_; rotate_left; (focus (intro W hW; obtain ⟨k0, k1, k2⟩ := hW; go_simp; (try with_reducible rfl); done)); (try simp only [Act.put, List.setIfInBounds_toArray, List.set_cons_zero, List.set_cons_succ]))
          (refine PlanT.takeI (v := ?_) rfl rfl ?_ ?_; rotate_left; (focus (intro W hW; obtain ⟨k0, k1, k2⟩ := hW; go_simp; (try with_reducible rfl); done)); (try simp only [Act.put, List.setIfInBounds_toArray, List.set_cons_zero, List.set_cons_succ]))
          refine wpOp_stepT rfl rfl (fun Kk hKk => ?_)
          go_simp
          go_at_call 9
          refine (rmnew_any vr hvr.2 w8).mono ?_
          rintro e w9 ⟨p, rfl, hp9, hb9⟩
          have hG9 := HGw8.out.below hb9 HGw8.out.size
          refine hKk.out _ _ ⟨hG9.cell 1 _ rfl, hG9.cell 3 _ rfl, trivial⟩ ?_
          clear hKk Kk
          (try simp only [Act.put, List.setIfInBounds_toArray, List.set_cons_zero, List.set_cons_succ])
          (refine PlanT.takeI (v := ?_) rfl rfl ?_ ?_; rotate_left; (focus (intro W hW; obtain ⟨k0, k1, k2⟩ := hW; go_simp; (try with_reducible rfl); done)); (try simp only [Act.put, List.setIfInBounds_toArray, List.set_cons_zero, List.set_cons_succ]))
          refine wpOp_stepT rfl rfl (fun Kk hKk => ?_)
          go_simp
          obtain ⟨w10, hw10⟩ : ∃ W, W = w9.alloc (.cells #[.int .i64 ep, .int .i64 vr, .pointer (some ⟨p, 0, none⟩), .bool false, .slice none 0 0] 30) := ⟨_, rfl⟩
          have hb10 : Below w9.heap.size w9 w10 := by rw [hw10]; exact (Below.refl _ w9).alloc (Nat.le_refl _) _
          have hW10 : Whole w10 w9.heap.size 30 [.int .i64 ep, .int .i64 vr, .pointer (some ⟨p, 0, none⟩), .bool false, .slice none 0 0] := by rw [hw10]; exact Whole.fresh w9 _ [_, _, _, _, _]
          have hG10 := hG9.below hb10 hG9.size
          rw [← hw10]
          refine hKk.out _ _ ⟨hG10.cell 1 _ rfl, hG10.cell 3 _ rfl, trivial⟩ ?_
          clear hKk Kk
          (try simp only [Act.put, List.setIfInBounds_toArray, List.set_cons_zero, List.set_cons_succ])
          (refine PlanT.takeI (v := ?_) rfl rfl ?_ ?_; rotate_left; (focus (intro W hW; obtain ⟨k0, k1, k2⟩ := hW; go_simp; (try with_reducible rfl); done)); (try simp only [Act.put, List.setIfInBounds_toArray, List.set_cons_zero, List.set_cons_succ]))
          simp only [PlanT]
          have hrf10 := (HMw8.out.rf.new hb9).new hb10
          have hgm10 : GmAt w10 w.heap.size w9.heap.size (some (p, none)) 0 ⟨ep, vr, mnew vr, false, []⟩ (.slice none 0 0) G5 := GmAt.fresh (hp9.lower HBw8.out.size) hb10 hW10 (Nat.le_refl _) HEP.out
          have HMw10 := Lib.hid (show Two w10 w.heap.size q w9.heap.size G5 (some (p, none)) n 0 _ _ _ from ⟨hrf10, hgm10, fun i hi hG => by
            have e1 := (HMw8.out.rf.low.2 i hG).2
            have e2 := hb9.size
            have e3 := hp9.low
            rcases hi with rfl | ⟨x, hx, hi⟩
            · omega
            · injection hx with hx
              subst hx
              rcases hi with rfl | hi
              · omega
              · cases hi⟩)
          have HBw10 := Lib.hid ((HBw8.out.trans (hb9.mono HBw8.out.size)).trans (hb10.mono (Nat.le_trans HBw8.out.size hb9.size)))
          clear hp9 hb9 hG9 hw10 hb10 hW10 hG10 hrf10 hgm10
          have HTO := Lib.hid (show ([] : List Int).length ≤ 4 by simp)
          go_wp2_with fail
          go_roundw
          case rel => exact ⟨i + 1, w9.heap.size, G5, some (p, none), .slice none 0 0, n, 0, ⟨ep, vr, mnew vr, false, []⟩, by omega, by go_num, rfl, by omega, by omega, HTO.out, HMw10.out, HBw10.out⟩
          case measure => simp [intOf]; omega
      case neg =>
        have hwb : (what == 0) = false := by simpa using hw0
        have hsh := r.judge_short HTO.out ep pv vr (ts.map (·.t))
        have HC := Lib.hid (rfjudge_any w.heap.size q n G r ep pv vr hep hpv hvr ts _ w4 HM4.out.rf (HTX.out.offR HB4.out HM4.out.rf) HTX.out.fit HTX.out.read (by omega))
        obtain ⟨J, hJ⟩ : ∃ J, J = r.judge ep pv vr (ts.map (·.t)) := ⟨_, rfl⟩
        rw [← hJ] at HC hsh
        have HJ := Lib.hid hJ
        have HSH := Lib.hid hsh
        clear hJ hsh
        go_wp2_with fail
        rw [← hw4, ← hgA]
        refine HC.out.mono ?_
        rintro e w5 ⟨A5, cap5, rfl, G5, hr5, hG5, hm5, hx5⟩
        have HM5 := Lib.hid (HM4.out.prog hr5 hG5 hm5)
        have HG5 := Lib.hid (hm5.whole HG.out HNG.out.1)
        have HB5 := Lib.hid (HB4.out.trans (HM4.out.below hm5))
        have HX5 := Lib.hid (hx5.mono (G' := GmD g mo) (Nat.le_refl _) fun i _ hi => .inr (HM4.out.away hi))
        have HR := Lib.hid (gmjudge_any w.heap.size g n' mo r tv G5 what ep pv vr hvr ts Aa ca w5 HM5.out.gm (HTX.out.next HB5.out) HTX.out.fit (by omega) (fun i hi => (HM5.out.rf.low.2 i hi).2))
        rw [← HJ.out] at HR
        have hge : J.2.2.epoch = J.2.2.epoch := rfl
        clear hr5 hG5 hm5 hx5 HC hw4 hgA hge
        unfold gav at HR
        have c0 := HG5.out.cell 0 _ rfl
        have c1 := HG5.out.cell 1 _ rfl
        have c2 := HG5.out.cell 2 _ rfl
        have c3 := HG5.out.cell 3 _ rfl
        have c4 := HG5.out.cell 4 _ rfl
        go_wp2_with fail
        refine HR.out.mono ?_
        rintro e w6 ⟨A6, cap6, rfl, mo6, tv6, hg6, hd6, hm6, hrd6⟩
        have HX6 := Lib.hid (((HX5.out.mv hm6 (Nat.le_refl _) fun _ _ h => h).mono hm6.size fun _ _ h => h).rd)
        have HY6 := Lib.hid hrd6
        have HM6 := Lib.hid (HM5.out.game hg6 hd6 hm6)
        have HB6 := Lib.hid (HB5.out.trans (HM5.out.belowg hm6))
        have HE := Lib.hid (rfends_any w.heap.size q (n + 4) G5 J.2.2 w6 HM6.out.rf)
        clear hg6 hd6 hm6 hrd6 HR c0 c1 c2 c3 c4
        go_wp2_with fail
        refine HE.out.mono ?_
        rintro e w7 ⟨rfl, hb7⟩
        have HM7 := Lib.hid (HM6.out.same hb7)
        have HB7 := Lib.hid (HB6.out.trans (hb7.mono HB6.out.size))
        have hi := ints_any J.1 J.1 _ _ w7 ((HX6.out.below hb7 (Nat.le_refl _)).mono hb7.size) ((HY6.out.below hb7 (Nat.le_refl _)).mono hb7.size) (by have := HSH.out; omega) (by have := HSH.out; omega)
        rw [show decide (J.1 = J.1) = true from decide_eq_true rfl] at hi
        have HI := Lib.hid hi
        clear hb7 hi HE
        go_wp2_with fail
        refine HI.out.mono ?_
        rintro e w8 ⟨rfl, hb8⟩
        have HM8 := Lib.hid (HM7.out.same hb8)
        have HB8 := Lib.hid (HB7.out.trans (hb8.mono HB7.out.size))
        have g0 := HM8.out.gm.wh.cell 0 _ rfl
        have g1 := HM8.out.gm.wh.cell 1 _ rfl
        clear hb8 HI
        have HTO2 := Lib.hid HSH.out.2
        go_wp2_with fail
        go_roundw
        case rel => exact ⟨i + 1, g, G5, mo6, tv6, n + 4, n' + 96, J.2.2, by omega, by go_num, rfl, by omega, by omega, HTO2.out, HM8.out, HB8.out⟩
        case measure => simp [intOf]; omega
    · have hex : ¬ ((i : Int) < (l.length : Int)) ∨ ((i : Int) < (l.length : Int) ∧ ¬ ((i : Int) < 14)) := by omega
      clear hgo
      rcases hex with h1 | ⟨h1, h2⟩
      all_goals
        go_wp2_with fail
        go_ret
        exact ⟨rfl, HB.out⟩
end Go.Proofs.YtgppgecglkellaaGreat

/- MarksSplit's walk. -/
import Derived.Test.YtcmpbhcldaogiaaDuo
import Derived.Deep.CutBlock
import Derived.Deep.DeepCutAuto
import Derived.Deep.Cut
import Derived.Deep.CutRange
namespace Go.Proofs.Ytcmpbhcldaogiaa
open Go.RowKit
attribute [local go_sem] less_eq same_eq le_eq ge_eq gt_eq

set_option maxHeartbeats 32000000 in
set_option maxRecDepth 100000 in
theorem marksSplit_walk (ts : List TxV) (vv : Value) (t : Txn) (v1 v2 : Value) (at_ : K) (w : World) (hl : TxOk w vv ts) (ht : TxIn w t v1 v2) :
    Calls Try.prog 4 #[vv, tval t v1 v2, .string at_] w fun e w' => e = .returned (.bool true) ∧ Below w.heap.size w w' := by
  obtain ⟨Av, cv, rfl, hcv, hvi⟩ := hl.rd.at
  obtain ⟨A1, c1, A2, c2, rfl, rfl⟩ := ht.slices
  have HT := Lib.hid ht
  have HL := Lib.hid hl
  have HVI := Lib.hid hvi
  obtain ⟨w0, hw0⟩ : ∃ w0, w.alloc (.cells #[.int .i64 t.read, .slice A1 t.reads.length c1, .slice A2 t.chgs.length c2] 32) = w0 := ⟨_, rfl⟩
  have hG : Whole w0 w.heap.size 32 [.int .i64 t.read, .slice A1 t.reads.length c1, .slice A2 t.chgs.length c2] := by rw [← hw0]; exact Whole.fresh w _ [_, _, _]
  have hb0 : Below w.heap.size w w0 := by rw [← hw0]; exact (Below.refl _ w).alloc (Nat.le_refl _) _
  have hz0 : w0.heap.size = w.heap.size + 1 := by rw [← hw0]; simp
  have HN := Lib.hid (mknew_any 0 (by unfold I64; omega) w0)
  have HG := Lib.hid hG
  have HB0 := Lib.hid hb0
  have HZ0 := Lib.hid hz0
  have HW0 := Lib.hid hw0
  clear hG hb0 hz0 hl ht hvi hw0
  unfold tval
  go_enter Try.func4, Try.ntmps4
  go_wp2_with fail
  rw [HW0.out]
  refine HN.out.mono ?_
  rintro e w1 ⟨q, Ga, rfl, hk1, hb1⟩
  have HG1 := Lib.hid (HG.out.below hb1 HG.out.size)
  have HB1 := Lib.hid (HB0.out.trans (hb1.mono HB0.out.size))
  have HK1 := Lib.hid hk1
  have HN2 := Lib.hid (mknew_any 0 (by unfold I64; omega) w1)
  have hz1 := hb1.size
  clear hk1 hb1 HN HW0 HG
  go_wp2_with fail
  refine HN2.out.mono ?_
  rintro e w2 ⟨q2, Gb, rfl, hk2, hb2⟩
  have HG2 := Lib.hid (HG1.out.below hb2 HG1.out.size)
  have HB2 := Lib.hid (HB1.out.trans (hb2.mono HB1.out.size))
  have HD2 := Lib.hid (show Duo w2 w0.heap.size w1.heap.size q q2 Ga Gb 0 0 (mnew 0) (mnew 0) from ⟨HK1.out.new hb2, hk2, fun i hi hg => by have := (HK1.out.low.2 i hi).2; have := (hk2.low.2 i hg).1; omega⟩)
  have HLO := Lib.hid (show (∀ i, Ga i → w.heap.size < i) ∧ (∀ i, Gb i → w.heap.size < i) from ⟨fun i hi => by have := (HK1.out.low.2 i hi).1; have := HZ0.out; omega, fun i hi => by have := (hk2.low.2 i hi).1; have := HZ0.out; omega⟩)
  have HA := Lib.hid (awake_any w2)
  clear hk2 hb2 HN2 HG1 HB1 HK1 hz1
  go_wp2_with fail
  refine HA.out.mono ?_
  rintro e w3 ⟨rfl, hb3⟩
  have HG3 := Lib.hid (HG2.out.below hb3 HG2.out.size)
  have HB3 := Lib.hid (HB2.out.trans (hb3.mono HB2.out.size))
  have HD3 := Lib.hid (HD2.out.new hb3)
  have HX := Lib.hid (HT.out.sound HB3.out)
  unfold tval at HX
  have g0 := HG3.out.cell 0 _ rfl
  have g1 := HG3.out.cell 1 _ rfl
  have g2 := HG3.out.cell 2 _ rfl
  clear hb3 HA HG2 HB2 HD2
  by_cases hs : soundT t
  case neg =>
    have hsb := decide_eq_false hs
    go_wp2_with fail
    refine HX.out.mono ?_
    rw [hsb]
    rintro e w4 ⟨rfl, hb4⟩
    have HBB := HB3.out.trans (hb4.mono HB3.out.size)
    clear hb4 HX g0 g1 g2
    have HA2 := Lib.hid (awake_any w4)
    go_wp2_with fail
    refine HA2.out.mono ?_
    rintro e wy ⟨rfl, hby⟩
    have HBY := Lib.hid (HBB.trans (hby.mono HBB.size))
    go_wp2_with fail
    go_ret
    exact ⟨rfl, HBY.out⟩
  have hsb := decide_eq_true hs
  have HSD := Lib.hid hs
  clear hs
  by_cases hat : at_.size ≤ 16
  case neg =>
    have hai : (16 : Int) < (at_.size : Int) := by omega
    go_wp2_with fail
    refine HX.out.mono ?_
    rw [hsb]
    rintro e w4 ⟨rfl, hb4⟩
    have HBB := HB3.out.trans (hb4.mono HB3.out.size)
    clear hb4 HX g0 g1 g2
    have HA2 := Lib.hid (awake_any w4)
    go_wp2_with fail
    refine HA2.out.mono ?_
    rintro e wy ⟨rfl, hby⟩
    have HBY := Lib.hid (HBB.trans (hby.mono HBB.size))
    go_wp2_with fail
    go_ret
    exact ⟨rfl, HBY.out⟩
  have hai : ¬ (16 : Int) < (at_.size : Int) := by omega
  go_wp2_with fail
  refine HX.out.mono ?_
  rw [hsb]
  rintro e w4 ⟨rfl, hb4⟩
  have HG4 := Lib.hid (HG3.out.below hb4 HG3.out.size)
  have HB4 := Lib.hid (HB3.out.trans (hb4.mono HB3.out.size))
  have HD4 := Lib.hid (HD3.out.new hb4)
  clear hb4 HX g0 g1 g2 HG3 HB3 HD3 hsb hai
  go_wp2_with fail
  have HE0 := Lib.hid (show OwnBT (w4.alloc (.cells #[] 32)) w4.heap.size (.slice (some ⟨w4.heap.size, 0, none⟩) 0 0) [] from Own.empty w4 _ (Nat.le_refl _))
  go_loopw [9, 10] (fun ov iv wr => ∃ (i : Nat) (A' : Option Addr) (c' : Nat) (bl : List BTx), i ≤ ts.length ∧ i ≤ 4 ∧ iv = .int .i64 (i : Int) ∧ ov = .slice A' i c' ∧ bl.length = i ∧ OwnBT wr w4.heap.size (.slice A' i c') bl ∧ (∀ x ∈ bl, BTxOk w x) ∧ Below w4.heap.size w4 wr) (fun _ iv _ => 4 - (intOf iv).toNat)
  case atStart => exact ⟨0, _, _, [], Nat.zero_le _, by omega, rfl, rfl, rfl, HE0.out, by simp, (Below.refl _ w4).alloc (Nat.le_refl _) _⟩
  case round =>
    obtain ⟨i, A', c', bl, hil, hi4, rfl, rfl, hbl, hob, hbo, hbw⟩ := hrel
    have HO := Lib.hid hob
    have HBO := Lib.hid hbo
    have HBW := Lib.hid hbw
    have hz4 := hbw.size
    have HBWW := Lib.hid (HB4.out.trans (hbw.mono HB4.out.size))
    clear hob hbo hbw HE0
    by_cases hgo : i < ts.length ∧ i < 4
    · as_aux_lemma =>
        obtain ⟨hlt, hlt4⟩ := hgo
        obtain ⟨b, o, rfl, hbB, _, k0, k1, k2⟩ := HVI.out i hlt
        rw [← HBWW.out.cell (p := ⟨b, o + i * 3 + 2, none⟩) hbB] at k2
        have hmem := List.getElem_mem hlt
        have hpt := (HL.out.rd.parts _ hmem).2
        have hft := HL.out.fit _ hmem
        obtain ⟨Ac, kc, hv2, _, _⟩ := hpt.rd
        have hbk : BTxOk w ⟨ts[i].t.chgs, Ac, kc⟩ := ⟨by unfold BTx.v; rw [← hv2]; exact hpt.rd, hft.2.2.2, hft.2.2.1⟩
        rw [hv2] at k2
        generalize ts[i].t.chgs = cs at k2 hbk
        have hall : ∀ x ∈ bl ++ [⟨cs, Ac, kc⟩], BTxOk w x := fun x hx => by
          rcases List.mem_append.1 hx with hx | hx
          · exact HBO.out x hx
          · rw [List.mem_singleton] at hx; subst hx; exact hbk
        have HALL := Lib.hid hall
        have HOA := Lib.hid (HO.out.alloc (.cells #[.int .i64 0, .slice none 0 0, .slice Ac cs.length kc] 32))
        have HRD := Lib.hid (RdBT.one wr ⟨cs, Ac, kc⟩)
        have HZ2 := Lib.hid (show w4.heap.size ≤ (wr.alloc (.cells #[.int .i64 0, .slice none 0 0, .slice Ac cs.length kc] 32)).heap.size by simp; omega)
        have hBA := HBW.out.alloc hz4 (.cells #[.int .i64 0, .slice none 0 0, .slice Ac cs.length kc] 32)
        have HBA := Lib.hid hBA
        have HBL := Lib.hid hbl
        have h0 : (0 : Int) ≤ (i : Int) := by omega
        have h1 : (i : Int) < (ts.length : Int) := by omega
        have h2 : (i : Int) < 4 := by omega
        have h3 : IntKind.i64.wrap ((i : Int) + 1) = ((i + 1 : Nat) : Int) := by rw [IntKind.wrap_i64]; omega
        clear hall hbk hpt hft hmem hv2 hBA k0 k1
        go_wp2_with (at_builtin; refine wpList_addBT rfl _ _ rfl w4.heap.size (.slice A' i c') bl rfl HOA.out (wr.heap.size + 1) (.slice (some ⟨wr.heap.size, 0, none⟩) 1 1) [⟨cs, Ac, kc⟩] rfl HRD.out (by rw [HBL.out]; simp only [List.length_cons, List.length_nil]; omega) HZ2.out ?_)
        intro A5 c5 w5 ho5 hg5
        have HO5 := Lib.hid ho5.out
        have HB5 := Lib.hid (HBA.out.grown hg5.out (by simp; omega) (fun j hj => (Own.low HOA.out hj).1))
        clear ho5 hg5 k2
        go_wp2_with fail
        go_roundw
        case rel => exact ⟨i + 1, A5, c5, bl ++ [⟨cs, Ac, kc⟩], by omega, by omega, rfl, rfl, by rw [List.length_append, HBL.out]; rfl, by simpa [HBL.out] using HO5.out, HALL.out, HB5.out⟩
        case measure => simp [intOf]; omega
    · have hex : ¬ ((i : Int) < (ts.length : Int)) ∨ ((i : Int) < (ts.length : Int) ∧ ¬ ((i : Int) < 4)) := by omega
      have hoff : ∀ b, w4.heap.size ≤ b → ¬ Ga b ∧ ¬ Gb b := fun b hb => ⟨fun h => by have := (HD4.out.a.low.2 b h).2; omega, fun h => by have := (HD4.out.b.low.2 b h).2; omega⟩
      have HOFF := Lib.hid hoff
      have HD5 := Lib.hid (HD4.out.new HBW.out)
      have htx := RdTx.bt (G := Ga) HO.out HBWW.out HBO.out (fun b hb => (HOFF.out b hb).1) (fun b hb h => by have := HLO.out.1 b h; omega)
      have HJ := Lib.hid (mkjudge_any _ q 0 Ga (mnew 0) 5 (by unfold I64; omega) _ _ wr HD5.out.a htx (fun x hx => by obtain ⟨y, hy, rfl⟩ := List.mem_map.1 hx; exact (HBO.out y hy).fit) (fun x hx => by obtain ⟨y, hy, rfl⟩ := List.mem_map.1 hx; unfold I64; simp [BTx.tx]) (by omega))
      obtain ⟨BL, hBL⟩ : ∃ BL, (bl.map BTx.tx).map (·.t) = BL := ⟨_, rfl⟩
      obtain ⟨E, hE⟩ : ∃ E, jerr (mnew 0) 5 BL = E := ⟨_, rfl⟩
      obtain ⟨M, hM⟩ : ∃ M, jnext (mnew 0) 5 BL = M := ⟨_, rfl⟩
      rw [hBL, hE, hM] at HJ
      have HBL := Lib.hid hBL
      have HE := Lib.hid hE
      have HM := Lib.hid hM
      have HG5 := Lib.hid (HG4.out.below HBW.out HG4.out.size)
      clear hBL hE hM
      clear hgo hoff htx HBW HD4 HG4
      -- both are judged; then a and b stand alike
      have hrest : True := trivial
      rcases hex with h1 | ⟨h1, h2⟩
      all_goals
        as_aux_lemma =>
          go_wp2_with fail
          refine HJ.out.mono ?_
          rintro e w6 ⟨A6, cap6, rfl, Ga6, hk6, hG6, hm6, _⟩
          have HO6 := Lib.hid (HO.out.mvG hm6 (fun g hg => (HOFF.out g (Own.low HO.out hg).1).1))
          have HD6 := Lib.hid (HD5.out.progA hk6 hG6 hm6)
          have HG6 := Lib.hid (hm6.whole HG5.out (fun h => by have := HLO.out.1 _ h; omega))
          have HB6 := Lib.hid (HBWW.out.trans (hm6.below HBWW.out.size (fun i hi => by have := HLO.out.1 i hi; omega)))
          have hz6 := hm6.size
          have HLA := Lib.hid (show ∀ i, Ga6 i → w.heap.size < i from fun i hi => by
            rcases hG6 i hi with h | h
            · exact HLO.out.1 i h
            · have := HG5.out.size; omega)
          have htx := RdTx.bt (G := Gb) HO6.out HB6.out HBO.out (fun b hb => (HOFF.out b hb).2) (fun b hb h => by have := HLO.out.2 b h; omega)
          have HJ2 := Lib.hid (mkjudge_any _ q2 0 Gb (mnew 0) 5 (by unfold I64; omega) _ _ w6 HD6.out.b htx (fun x hx => by obtain ⟨y, hy, rfl⟩ := List.mem_map.1 hx; exact (HBO.out y hy).fit) (fun x hx => by obtain ⟨y, hy, rfl⟩ := List.mem_map.1 hx; unfold I64; simp [BTx.tx]) (by omega))
          rw [HBL.out, HE.out, HM.out] at HJ2
          clear hk6 hG6 hm6 htx HJ HO HD5 HG5 HBWW
          go_wp2_with fail
          refine HJ2.out.mono ?_
          rintro e w7 ⟨A7, cap7, rfl, Gb7, hk7, hG7, hm7, _⟩
          have HD7 := Lib.hid (HD6.out.progB hk7 hG7 hm7)
          have HG7 := Lib.hid (hm7.whole HG6.out (fun h => by have := HLO.out.2 _ h; omega))
          have HB7 := Lib.hid (HB6.out.trans (hm7.below HB6.out.size (fun i hi => by have := HLO.out.2 i hi; omega)))
          have HLB := Lib.hid (show ∀ i, Gb7 i → w.heap.size < i from fun i hi => by
            rcases hG7 i hi with h | h
            · exact HLO.out.2 i h
            · have := HG6.out.size; omega)
          clear hk7 hG7 hm7 HJ2 HO6 HD6 HG6 HB6 HOFF HLO
          by_cases he : E = 0
          case neg =>
            have heb : (E == 0) = false := by simpa using he
            have hec : (E == E) = true := by simp
            go_wp2_with fail
            go_ret
            exact ⟨rfl, HB7.out⟩
          subst he
          have hp := split_pure hat HSD.out HE.out
          rw [HM.out] at hp
          have HP := Lib.hid hp
          clear hp HE HM HBL
          go_upto_region 13 with fail
          have hBt : ∀ W, Below w7.heap.size w7 W → Whole W w.heap.size 32 [.int .i64 t.read, .slice A1 t.reads.length c1, .slice A2 t.chgs.length c2] := fun W hW => HG7.out.below hW HG7.out.size
          have HBT := Lib.hid hBt
          clear hBt
          go_cut [15, 16] (fun pl ph wx => ∃ gl gh : Nat, pl = .pointer (some ⟨gl, 0, none⟩) ∧ ph = .pointer (some ⟨gh, 0, none⟩) ∧ gl ≠ gh ∧ w7.heap.size ≤ gl ∧ w7.heap.size ≤ gh ∧ Whole wx gl 32 [.int .i64 t.read, .slice A1 t.reads.length c1, .slice A2 t.chgs.length c2] ∧ Whole wx gh 32 [.int .i64 t.read, .slice A1 t.reads.length c1, .slice A2 t.chgs.length c2] ∧ Below w7.heap.size w7 wx)
          case first =>
            as_aux_lemma =>
              refine wp_region_planT (fun W => Below w7.heap.size w7 W) (.take 0 (.take 1 (.fork 2 (.step 3 (.step 4 (.step 5 .done))) 3 (.step 2 (.step 4 (.step 5 .done)))))) (by kernel_rfl) (by kernel_rfl) (fun _ _ d _ _ h => by cases d <;> exact h) ((Below.refl _ _).drew) ?_
              (refine PlanT.takeI (v := ?_) rfl rfl ?_ ?_; rotate_left; (focus (intro W hW; have q0 := (HBT.out W hW).cell 0 _ rfl; have q1 := (HBT.out W hW).cell 1 _ rfl; have q2 := (HBT.out W hW).cell 2 _ rfl; go_simp; (try with_reducible rfl); done)); (try simp only [Act.put, List.setIfInBounds_toArray, List.set_cons_zero, List.set_cons_succ]))
              (refine PlanT.takeI (v := ?_) rfl rfl ?_ ?_; rotate_left; (focus (intro W hW; have q0 := (HBT.out W hW).cell 0 _ rfl; have q1 := (HBT.out W hW).cell 1 _ rfl; have q2 := (HBT.out W hW).cell 2 _ rfl; go_simp; (try with_reducible rfl); done)); (try simp only [Act.put, List.setIfInBounds_toArray, List.set_cons_zero, List.set_cons_succ]))
              refine ⟨wpOp_stepT rfl rfl (fun Kk hK => ?_), wpOp_stepT rfl rfl (fun Kk hK => ?_)⟩
              all_goals
                go_simp
                refine hK.out _ _ (by ((repeat' (first | exact Below.refl _ _ | refine Below.alloc ?_ ?_ _ | refine Below.setCell ?_ ?_ _ | refine Below.drew ?_)); all_goals ((try simp only [World.size_setCell, World.size_alloc, World.drew]); omega))) ?_
                clear hK Kk
                (try simp only [Act.put, List.setIfInBounds_toArray, List.set_cons_zero, List.set_cons_succ])
                refine wpOp_stepT rfl rfl (fun Kk hK => ?_)
                go_simp
                refine hK.out _ _ (by ((repeat' (first | exact Below.refl _ _ | refine Below.alloc ?_ ?_ _ | refine Below.setCell ?_ ?_ _ | refine Below.drew ?_)); all_goals ((try simp only [World.size_alloc]); omega))) ?_
                clear hK Kk
                (try simp only [Act.put, List.setIfInBounds_toArray, List.set_cons_zero, List.set_cons_succ])
                refine wpOp_stepT rfl rfl (fun Kk hK => ?_)
                go_simp
                refine hK.out _ _ (by ((repeat' (first | exact Below.refl _ _ | refine Below.alloc ?_ ?_ _ | refine Below.setCell ?_ ?_ _ | refine Below.drew ?_)); all_goals ((try simp only [World.size_alloc]); omega))) ?_
                clear hK Kk
                (try simp only [Act.put, List.setIfInBounds_toArray, List.set_cons_zero, List.set_cons_succ])
                refine wpOp_stepT rfl rfl (fun Kk hK => ?_)
                go_simp
                refine hK.out _ _ (by ((repeat' (first | exact Below.refl _ _ | refine Below.alloc ?_ ?_ _ | refine Below.setCell ?_ ?_ _ | refine Below.drew ?_)); all_goals ((try simp only [World.size_alloc]); omega))) ?_
                clear hK Kk
                (try simp only [Act.put, List.setIfInBounds_toArray, List.set_cons_zero, List.set_cons_succ])
                simp only [PlanT]
                (try go_wp2_with fail)
                have x1 : Whole ((w7.alloc (.cells #[.int .i64 t.read, .slice A1 t.reads.length c1, .slice A2 t.chgs.length c2] 32)).alloc (.cells #[.int .i64 t.read, .slice A1 t.reads.length c1, .slice A2 t.chgs.length c2] 32)).drew w7.heap.size 32 [.int .i64 t.read, .slice A1 t.reads.length c1, .slice A2 t.chgs.length c2] := ((Whole.fresh w7 _ [_, _, _]).alloc _).drew
                have x2 : Whole ((w7.alloc (.cells #[.int .i64 t.read, .slice A1 t.reads.length c1, .slice A2 t.chgs.length c2] 32)).alloc (.cells #[.int .i64 t.read, .slice A1 t.reads.length c1, .slice A2 t.chgs.length c2] 32)).drew (w7.heap.size + 1) 32 [.int .i64 t.read, .slice A1 t.reads.length c1, .slice A2 t.chgs.length c2] := by
                  have := (Whole.fresh (w7.alloc (.cells #[.int .i64 t.read, .slice A1 t.reads.length c1, .slice A2 t.chgs.length c2] 32)) 32 [.int .i64 t.read, .slice A1 t.reads.length c1, .slice A2 t.chgs.length c2]).drew
                  simp only [World.size_alloc] at this
                  exact this
                have x3 : Below w7.heap.size w7 ((w7.alloc (.cells #[.int .i64 t.read, .slice A1 t.reads.length c1, .slice A2 t.chgs.length c2] 32)).alloc (.cells #[.int .i64 t.read, .slice A1 t.reads.length c1, .slice A2 t.chgs.length c2] 32)).drew := (((Below.refl _ w7).alloc (Nat.le_refl _) _).alloc (by simp) _).drew
                go_meet
                case rel => first | exact ⟨w7.heap.size, w7.heap.size + 1, rfl, rfl, by omega, by omega, by omega, x1, x2, x3⟩ | exact ⟨w7.heap.size + 1, w7.heap.size, rfl, rfl, by omega, by omega, by omega, x2, x1, x3⟩
          case rest =>
            as_aux_lemma =>
              obtain ⟨gl, gh, rfl, rfl, hne, hgl, hgh, hWl, hWh, hbx⟩ := hcut
              have l1 := hWl.cell 1 _ rfl
              have lf1 := hWl.frozen 1
              have hWh1 := hWh.away (p := ⟨gl, 1, none⟩) (fun e => hne e.symm) (.slice none 0 0)
              have m1 := hWh1.cell 1 _ rfl
              have mf1 := hWh1.frozen 1
              have hst : SplSt ((wc.setCell ⟨gl, 1, none⟩ (.slice none 0 0)).setCell ⟨gh, 1, none⟩ (.slice none 0 0)) w7.heap.size gl gh t.read (.slice A2 t.chgs.length c2) [] [] (.slice none 0 0) (.slice none 0 0) :=
                ⟨(hWl.put 1 (.slice none 0 0)).away hne _, Own.nil _ _, hWh1.put 1 (.slice none 0 0), Own.nil _ _, by simp [Value.ownBlock], hne, hgl, hgh⟩
              have hbst : Below w7.heap.size w7 ((wc.setCell ⟨gl, 1, none⟩ (.slice none 0 0)).setCell ⟨gh, 1, none⟩ (.slice none 0 0)) := (hbx.setCell (p := ⟨gl, 1, none⟩) hgl _).setCell (p := ⟨gh, 1, none⟩) hgh _
              have HST := Lib.hid hst
              have HBST := Lib.hid hbst
              clear hWl hWh hWh1 hbx hst hbst hgl hgh hne
              go_wp2_with fail
              clear l1 lf1 m1 mf1
              go_loopw [17] (fun iv wr => ∃ (i : Nat) (vl vh : Value), i ≤ t.reads.length ∧ iv = .int .i64 (i : Int) ∧ SplSt wr w7.heap.size gl gh t.read (.slice A2 t.chgs.length c2) (lowR at_ (t.reads.take i)) (highR at_ (t.reads.take i)) vl vh ∧ Below w7.heap.size w7 wr) (fun iv _ => t.reads.length - (intOf iv).toNat)
              case atStart => exact ⟨0, _, _, Nat.zero_le _, rfl, HST.out, HBST.out⟩
              case round =>
                obtain ⟨i, vl, vh, hir, rfl, hst, hbr⟩ := hrel
                have HBR := Lib.hid hbr
                have HTB := Lib.hid (HBT.out wr hbr)
                clear HST HBST
                by_cases hlt : i < t.reads.length
                · obtain ⟨Al, cl, rfl, _, _⟩ := Own.rd cellsS_len hst.ol
                  obtain ⟨Ah, ch, rfl, _, _⟩ := Own.rd cellsS_len hst.oh
                  obtain ⟨_, _, e, _, hri⟩ := HT.out.reads.at
                  injection e with e1 _ e3
                  subst e1 e3
                  obtain ⟨b, o, rfl, hbB, r0, r1⟩ := hri i hlt
                  have hww : Below w.heap.size w wr := HB7.out.trans (hbr.mono HB7.out.size)
                  rw [← hww.cell (p := ⟨b, o + i * 2, none⟩) hbB] at r0
                  rw [← hww.cell (p := ⟨b, o + i * 2 + 1, none⟩) hbB] at r1
                  have HLT := Lib.hid (lowR_take at_ t.reads i hlt)
                  have HHT := Lib.hid (highR_take at_ t.reads i hlt)
                  have hl24 : (lowR at_ (t.reads.take i)).length ≤ 24 := by have h1 := lowR_len at_ (t.reads.take i); have h2 : (t.reads.take i).length ≤ i := by rw [List.length_take]; omega
                                                                            have := HSD.out.2.1; omega
                  have hh24 : (highR at_ (t.reads.take i)).length ≤ 24 := by have h1 := highR_len at_ (t.reads.take i); have h2 : (t.reads.take i).length ≤ i := by rw [List.length_take]; omega
                                                                             have := HSD.out.2.1; omega
                  generalize t.reads[i] = x at r0 r1 HLT HHT
                  obtain ⟨sf, st⟩ := x
                  simp only at r0 r1
                  generalize lowR at_ (t.reads.take i) = Lp at hst hl24 HLT
                  generalize highR at_ (t.reads.take i) = Hp at hst hh24 HHT
                  have h0 : (0 : Int) ≤ (i : Int) := by omega
                  have h1 : (i : Int) < (t.reads.length : Int) := by omega
                  have h2 : IntKind.i64.wrap ((i : Int) + 1) = ((i + 1 : Nat) : Int) := by rw [IntKind.wrap_i64]; have := HSD.out.2.1; omega
                  have b0 := HTB.out.cell 1 _ rfl
                  obtain ⟨ws, hws⟩ : ∃ ws, wr.alloc (.cells #[.string sf, .string st] 24) = ws := ⟨_, rfl⟩
                  have hbs : Below wr.heap.size wr ws := by rw [← hws]; exact (Below.refl _ wr).alloc (Nat.le_refl _) _
                  have hzs : ws.heap.size = wr.heap.size + 1 := by rw [← hws]; simp
                  have HSS := Lib.hid (show Whole ws wr.heap.size 24 [.string sf, .string st] by rw [← hws]; exact Whole.fresh wr _ [_, _])
                  have HSP := Lib.hid (hst.new hbs)
                  have HBS := Lib.hid (hbr.trans (hbs.mono (by have := hst.lo.1; have := hst.hl.size; omega)))
                  have hrl : ∀ g, Value.ownBlock (.slice Al Lp.length cl) = some g → g ≠ wr.heap.size := fun g hg e => by have := (Own.low hst.ol hg).2; omega
                  have hrh : ∀ g, Value.ownBlock (.slice Ah Hp.length ch) = some g → g ≠ wr.heap.size := fun g hg e => by have := (Own.low hst.oh hg).2; omega
                  have hgls : wr.heap.size ≠ gl ∧ wr.heap.size ≠ gh := ⟨by have := hst.hl.size; omega, by have := hst.hh.size; omega⟩
                  have HRL := Lib.hid hrl
                  have HRH := Lib.hid hrh
                  have HGS := Lib.hid hgls
                  have HWS := Lib.hid hws
                  have HZS := Lib.hid hzs
                  have hzw : w7.heap.size ≤ ws.heap.size := by have := hst.lo.1; have := hst.hl.size; omega
                  have HZW := Lib.hid hzw
                  clear hst hbs hzs hrl hrh hgls hri hww hzw hbr
                  go_upto_block 4 with fail
                  clear hws
                  have k0 := HSS.out.cell 0 _ rfl
                  have k1 := HSS.out.cell 1 _ rfl
                  have y1 := HSP.out.hl.cell 1 _ rfl
                  have y2 := HSP.out.hh.cell 1 _ rfl
                  by_cases e1 : st ≤ at_
                  · as_aux_lemma =>
                      have e1b := decide_eq_true e1
                      have hsl : splL at_ (sf, st) = [(sf, st)] ∧ splH at_ (sf, st) = [] := by unfold splL splH; rw [if_pos e1, if_pos e1]; exact ⟨rfl, rfl⟩
                      have HSL := Lib.hid hsl
                      have HBF := Lib.hid (show Below ws.heap.size ws (ws.alloc (.cells #[.string sf, .string st] 24)) from (Below.refl _ ws).alloc (Nat.le_refl _) _)
                      have HON := Lib.hid (RdS.one ws (sf, st))
                      have HOF := Lib.hid (HSP.out.ol.alloc (.cells #[.string sf, .string st] 24))
                      clear hsl
                      go_wp2_with (at_builtin; refine wpList_addTn rfl _ _ rfl w7.heap.size (.slice Al Lp.length cl) Lp rfl HOF.out (ws.heap.size + 1) (.slice (some ⟨ws.heap.size, 0, none⟩) 1 1) [(sf, st)] rfl HON.out (by simp only [List.length_cons, List.length_nil]; omega) (by have := HZW.out; simp; omega) ?_)
                      intro A5 c5 w5 ho5 hg5 hn5
                      have HS5 := Lib.hid (HSP.out.low HBF.out ho5.out hg5.out hn5.out)
                      have HB5 := Lib.hid (HSP.out.below (v' := .slice A5 (Lp.length + 1) c5) HBF.out hg5.out HBS.out)
                      have M5 := HSP.out.mid HBF.out hg5.out
                      have m1 := M5.cell 1 _ rfl
                      have mf1 := M5.frozen 1
                      clear ho5 hg5 hn5 M5 k0 k1 y1 y2
                      go_wp2_with fail
                      go_roundw
                      case rel => exact ⟨i + 1, _, _, by omega, rfl, by rw [HLT.out, HHT.out, HSL.out.1, HSL.out.2, List.append_nil]; exact HS5.out, HB5.out⟩
                      case measure => simp [intOf]; omega
                  · as_aux_lemma =>
                      have e1b := decide_eq_false e1
                      by_cases e2 : at_ ≤ sf
                      · as_aux_lemma =>
                          have e2b := decide_eq_true e2
                          have hsl : splL at_ (sf, st) = [] ∧ splH at_ (sf, st) = [(sf, st)] := by unfold splL splH; rw [if_neg e1, if_neg e1, if_pos e2, if_pos e2]; exact ⟨rfl, rfl⟩
                          have HSL := Lib.hid hsl
                          have HSPS := Lib.hid HSP.out.swap
                          have HBF := Lib.hid (show Below ws.heap.size ws (ws.alloc (.cells #[.string sf, .string st] 24)) from (Below.refl _ ws).alloc (Nat.le_refl _) _)
                          have HON := Lib.hid (RdS.one ws (sf, st))
                          have HOF := Lib.hid (HSP.out.oh.alloc (.cells #[.string sf, .string st] 24))
                          clear hsl
                          go_wp2_with (at_builtin; refine wpList_addTn rfl _ _ rfl w7.heap.size (.slice Ah Hp.length ch) Hp rfl HOF.out (ws.heap.size + 1) (.slice (some ⟨ws.heap.size, 0, none⟩) 1 1) [(sf, st)] rfl HON.out (by simp only [List.length_cons, List.length_nil]; omega) (by have := HZW.out; simp; omega) ?_)
                          intro A5 c5 w5 ho5 hg5 hn5
                          have HS5 := Lib.hid (HSPS.out.low HBF.out ho5.out hg5.out hn5.out).swap
                          have HB5 := Lib.hid (HSPS.out.below (v' := .slice A5 (Hp.length + 1) c5) HBF.out hg5.out HBS.out)
                          have M5 := HSPS.out.mid HBF.out hg5.out
                          have m1 := M5.cell 1 _ rfl
                          have mf1 := M5.frozen 1
                          clear ho5 hg5 hn5 M5 k0 k1 y1 y2
                          go_wp2_with fail
                          go_roundw
                          case rel => exact ⟨i + 1, _, _, by omega, rfl, by rw [HLT.out, HHT.out, HSL.out.1, HSL.out.2, List.append_nil]; exact HS5.out, HB5.out⟩
                          case measure => simp [intOf]; omega
                      · as_aux_lemma =>
                          have e2b := decide_eq_false e2
                          have hsl : splL at_ (sf, st) = [(sf, at_)] ∧ splH at_ (sf, st) = [(at_, st)] := by unfold splL splH; rw [if_neg e1, if_neg e1, if_neg e2, if_neg e2]; exact ⟨rfl, rfl⟩
                          have HSL := Lib.hid hsl
                          have HBF := Lib.hid (show Below ws.heap.size ws (ws.alloc (.cells #[.string sf, .string at_] 24)) from (Below.refl _ ws).alloc (Nat.le_refl _) _)
                          have HON := Lib.hid (RdS.one ws (sf, at_))
                          have HOF := Lib.hid (HSP.out.ol.alloc (.cells #[.string sf, .string at_] 24))
                          clear hsl
                          go_wp2_with (at_builtin; refine wpList_addTn rfl _ _ rfl w7.heap.size (.slice Al Lp.length cl) Lp rfl HOF.out (ws.heap.size + 1) (.slice (some ⟨ws.heap.size, 0, none⟩) 1 1) [(sf, at_)] rfl HON.out (by simp only [List.length_cons, List.length_nil]; omega) (by have := HZW.out; simp; omega) ?_)
                          intro A5 c5 w5 ho5 hg5 hn5
                          have hs5 := HSP.out.low HBF.out ho5.out hg5.out hn5.out
                          have hss5 := HSP.out.keeps (v' := .slice A5 (Lp.length + 1) c5) HBF.out hg5.out HSS.out (fun e => HRL.out _ e rfl) HGS.out.1
                          have HB5 := Lib.hid (HSP.out.below (v' := .slice A5 (Lp.length + 1) c5) HBF.out hg5.out HBS.out)
                          have M5 := HSP.out.mid HBF.out hg5.out
                          have m1 := M5.cell 1 _ rfl
                          have mf1 := M5.frozen 1
                          have hsz5 : w7.heap.size ≤ w5.heap.size := by have := hg5.out.size; have := HBF.out.size; have := HZW.out; omega
                          obtain ⟨we, hwe⟩ : ∃ we, w5.setCell ⟨gl, 1, none⟩ (.slice A5 (Lp.length + 1) c5) = we := ⟨_, rfl⟩
                          have hsze : w7.heap.size ≤ we.heap.size := by rw [← hwe]; simpa using hsz5
                          rw [hwe] at hs5 hss5 HB5
                          have HZE := Lib.hid hsze
                          have HSPS := Lib.hid hs5.swap
                          have y3 := hs5.hh.cell 1 _ rfl
                          have k3 := hss5.cell 1 _ rfl
                          have HBF2 := Lib.hid (show Below we.heap.size we (we.alloc (.cells #[.string at_, .string st] 24)) from (Below.refl _ we).alloc (Nat.le_refl _) _)
                          have HON2 := Lib.hid (RdS.one we (at_, st))
                          have HOF2 := Lib.hid (hs5.oh.alloc (.cells #[.string at_, .string st] 24))
                          clear ho5 hg5 hn5 M5 k0 k1 y1 y2 hs5 hss5 HOF HON HBF hsz5 hsze
                          go_wp2_with (at_builtin; refine wpList_addTn rfl _ _ rfl w7.heap.size (.slice Ah Hp.length ch) Hp rfl HOF2.out (we.heap.size + 1) (.slice (some ⟨we.heap.size, 0, none⟩) 1 1) [(at_, st)] rfl HON2.out (by simp only [List.length_cons, List.length_nil]; omega) (by have := HZE.out; simp; omega) ?_)
                          intro A6' c6 w6' ho6 hg6 hn6
                          have HS6 := Lib.hid (HSPS.out.low HBF2.out ho6.out hg6.out hn6.out).swap
                          have HB6' := Lib.hid (HSPS.out.below (v' := .slice A6' (Hp.length + 1) c6) HBF2.out hg6.out HB5.out)
                          have M6 := HSPS.out.mid HBF2.out hg6.out
                          have n1 := M6.cell 1 _ rfl
                          have nf1 := M6.frozen 1
                          clear ho6 hg6 hn6 M6 y3 k3 hwe m1 mf1
                          go_wp2_with fail
                          go_roundw
                          case rel => exact ⟨i + 1, _, _, by omega, rfl, by rw [HLT.out, HHT.out, HSL.out.1, HSL.out.2]; exact HS6.out, HB6'.out⟩
                          case measure => simp [intOf]; omega
                · as_aux_lemma =>
                    have hie : t.reads.take i = t.reads := List.take_of_length_le (by omega)
                    rw [hie] at hst
                    have hx : ¬ ((i : Int) < (t.reads.length : Int)) := by omega
                    obtain ⟨p1, p2, p3, p4, p5, p6, p7, p8⟩ := HP.out
                    obtain ⟨Al, cl, rfl, _, _⟩ := Own.rd cellsS_len hst.ol
                    obtain ⟨Ah, ch, rfl, _, _⟩ := Own.rd cellsS_len hst.oh
                    have hz7 := hbr.size
                    obtain ⟨wa, hwa⟩ : ∃ wa, wr.alloc (.cells #[.int .i64 t.read, .slice A1 t.reads.length c1, .slice A2 t.chgs.length c2] 32) = wa := ⟨_, rfl⟩
                    have hba : Below wr.heap.size wr wa := by rw [← hwa]; exact (Below.refl _ wr).alloc (Nat.le_refl _) _
                    have hWa : Whole wa wr.heap.size 32 [.int .i64 t.read, .slice A1 t.reads.length c1, .slice A2 t.chgs.length c2] := by rw [← hwa]; exact Whole.fresh wr _ [_, _, _]
                    have hSa := hst.new hba
                    have hB7a : Below w7.heap.size w7 wa := hbr.trans (hba.mono hz7)
                    have hBa : Below w.heap.size w wa := HB7.out.trans (hB7a.mono HB7.out.size)
                    have hone := RdTx.one (G := Ga6) (x := ⟨t, .slice A1 t.reads.length c1, .slice A2 t.chgs.length c2⟩) hWa (HT.out.part hBa (fun i hi => by have := HLA.out i hi; omega)) (fun hi => by have := (HD7.out.a.low.2 _ hi).2; omega)
                    have hDa := HD7.out.new hB7a
                    have HJ := Lib.hid (mkjudge_any _ q _ Ga6 M 9 (by unfold I64; omega) _ _ wa hDa.a hone (fun x hx => by rw [List.mem_singleton] at hx; subst hx; exact HT.out.fit) (fun x hx => by rw [List.mem_singleton] at hx; subst hx; exact HT.out.read) (by omega))
                    simp only [List.map_cons, List.map_nil] at HJ
                    rw [p1, p2] at HJ
                    have hsz := hSa.hl.size
                    have HTB := HBT.out wr hbr
                    have g0 := HTB.cell 0 _ rfl
                    have g1 := HTB.cell 1 _ rfl
                    have g2 := HTB.cell 2 _ rfl
                    have HWA := Lib.hid hwa
                    have HDA := Lib.hid hDa
                    have HSA := Lib.hid hSa
                    have HBA := Lib.hid hBa
                    have HZA := Lib.hid (show w7.heap.size ≤ wa.heap.size from hB7a.size)
                    clear hwa hDa hSa hBa hB7a hone hWa hba hst hbr HTB hsz p1 p2 HP HBT
                    (try clear HST HBST)
                    go_wp2_with fail
                    (try rw [HWA.out])
                    refine HJ.out.mono ?_
                    rintro e w8 ⟨A8, cap8, rfl, G8, hk8, hG8, hm8, hr8⟩
                    have hz8 := hm8.size
                    have hlo : ∀ i, Ga6 i → i < w7.heap.size := fun i hi => (HD7.out.a.low.2 i hi).2
                    have hlo2 : ∀ i, Gb7 i → i < w7.heap.size := fun i hi => (HD7.out.b.low.2 i hi).2
                    have hD8 := HDA.out.progA hk8 hG8 hm8
                    have hS8 := HSA.out.mv hm8 (fun i h1 _ hi => by have := hlo i hi; omega)
                    have hB8 : Below w.heap.size w w8 := HBA.out.trans (hm8.below HBA.out.size (fun i hi => by have := HLA.out i hi; omega))
                    obtain ⟨wb, hwb⟩ : ∃ wb, w8.setCell ⟨gl, 2, none⟩ (.slice none 0 0) = wb := ⟨_, rfl⟩
                    obtain ⟨wc2, hwc2⟩ : ∃ wc2, wb.alloc (.cells #[.int .i64 t.read, .slice Al (lowR at_ t.reads).length cl, .slice none 0 0] 32) = wc2 := ⟨_, rfl⟩
                    have hglz : w7.heap.size ≤ gl := hS8.lo.1
                    have hghz : w7.heap.size ≤ gh := hS8.lo.2
                    have hlb : Whole wb gl 32 [.int .i64 t.read, .slice Al (lowR at_ t.reads).length cl, .slice none 0 0] := by rw [← hwb]; exact hS8.hl.put 2 _
                    have hhb : Whole wb gh 32 [.int .i64 t.read, .slice Ah (highR at_ t.reads).length ch, .slice A2 t.chgs.length c2] := by rw [← hwb]; exact hS8.hh.away (fun e => hS8.ne e.symm) _
                    have holb : OwnS wb w7.heap.size (.slice Al (lowR at_ t.reads).length cl) (lowR at_ t.reads) := by rw [← hwb]; exact Own.put hS8.ol hS8.hl (by decide) 2 _
                    have hohb : OwnS wb w7.heap.size (.slice Ah (highR at_ t.reads).length ch) (highR at_ t.reads) := by rw [← hwb]; exact Own.put hS8.oh hS8.hl (by decide) 2 _
                    have hm8c : Mv (fun i => i = gl) w8 wc2 := by rw [← hwc2, ← hwb]; exact ((Mv.refl (fun i => i = gl) w8).setCell (p := ⟨gl, 2, none⟩) (fun _ => rfl) _).alloc _
                    have hzb : wb.heap.size = w8.heap.size := by rw [← hwb]; simp
                    have hzc : wc2.heap.size = wb.heap.size + 1 := by rw [← hwc2]; simp
                    have hW2 : Whole wc2 wb.heap.size 32 [.int .i64 t.read, .slice Al (lowR at_ t.reads).length cl, .slice none 0 0] := by rw [← hwc2]; exact Whole.fresh wb _ [_, _, _]
                    have holc : OwnS wc2 w7.heap.size (.slice Al (lowR at_ t.reads).length cl) (lowR at_ t.reads) := by rw [← hwc2]; exact holb.alloc _
                    have hohc : OwnS wc2 w7.heap.size (.slice Ah (highR at_ t.reads).length ch) (highR at_ t.reads) := by rw [← hwc2]; exact hohb.alloc _
                    have hhc : Whole wc2 gh 32 [.int .i64 t.read, .slice Ah (highR at_ t.reads).length ch, .slice A2 t.chgs.length c2] := by rw [← hwc2]; exact hhb.alloc _
                    have hG8z : ∀ i, G8 i → i ≠ gl := fun i hi e => by
                      rcases hG8 i hi with h | h
                      · have := hlo i h; omega
                      · have := HSA.out.hl.size; omega
                    have hDc := hD8.mv hm8c hG8z (fun i hi e => by have := hlo2 i hi; omega)
                    have hone := RdTx.one (G := Gb7) (x := ⟨lowT at_ t, .slice Al (lowR at_ t.reads).length cl, .slice none 0 0⟩) hW2 ⟨RdG.own cellsS_len holc (fun b h1 _ _ h => by have := hlo2 b h; omega), RdG.none_ _ _ _ _ _⟩ (fun hi => by have := hlo2 _ hi; have := HZA.out; omega)
                    have HJ2 := Lib.hid (mkjudge_any _ q2 _ Gb7 M 9 (by unfold I64; omega) _ _ wc2 hDc.b hone (fun x hx => by rw [List.mem_singleton] at hx; subst hx; exact sound_fit (low_sound hat HSD.out).1 rfl) (fun x hx => by rw [List.mem_singleton] at hx; subst hx; exact HT.out.read) (by omega))
                    simp only [List.map_cons, List.map_nil] at HJ2
                    rw [p3, p4, p5] at HJ2
                    have m2 := hS8.hl.cell 2 _ rfl
                    have mf2 := hS8.hl.frozen 2
                    have n0 := hlb.cell 0 _ rfl
                    have n1 := hlb.cell 1 _ rfl
                    have n2 := hlb.cell 2 _ rfl
                    have hr9 : RdG encI 1 wc2 w8.heap.size (fun i => G8 i ∨ Else wa Ga6 i) (.slice A8 1 cap8) [verd M t] := RdG.mv hr8 hm8c (Nat.le_refl _) (fun b _ (e : b = gl) => .inr ⟨fun h => by have := hlo b h; omega, by rw [e]; exact HSA.out.hl.size⟩)
                    have HR9 := Lib.hid hr9
                    have HDC := Lib.hid hDc
                    have HHC := Lib.hid hhc
                    have HOC := Lib.hid hohc
                    have HLO2 := Lib.hid hlo2
                    have HZC := Lib.hid (show w8.heap.size ≤ wc2.heap.size ∧ w7.heap.size ≤ wc2.heap.size ∧ gl < wc2.heap.size ∧ gl < wa.heap.size ∧ gh < wa.heap.size ∧ gh < wc2.heap.size by have := hlb.size; have := HSA.out.hl.size; have := HSA.out.hh.size; omega)
                    have HGZ := Lib.hid (show w7.heap.size ≤ gl ∧ w7.heap.size ≤ gh ∧ gl ≠ gh from ⟨hglz, hghz, hS8.ne⟩)
                    have HOFF := Lib.hid (show (∀ i, Ga6 i → i < w7.heap.size ∧ ¬ Gb7 i) from fun i hi => ⟨hlo i hi, HD7.out.off i hi⟩)
                    have HBC := Lib.hid (show Below w.heap.size w wc2 from hB8.trans (hm8c.below hB8.size (fun i e => by have := HB7.out.size; omega)))
                    have HWC := Lib.hid hwc2
                    clear hk8 hG8 hm8 hr8 hD8 hS8 hB8 hlb hhb holb hohb hm8c hzb hW2 holc hohc hhc hG8z hDc hone hr9 hlo hlo2 HJ HDA HSA HBA g0 g1 g2 p3 p4 p5 hzc hx hz8 hwc2
                    go_wp2_with fail
                    (try rw [HWC.out])
                    refine HJ2.out.mono ?_
                    rintro e w9 ⟨A9, cap9, rfl, G9, hk9, hG9, hm9, hry⟩
                    clear m2 mf2 n0 n1 n2 hwb
                    have hD9 := HDC.out.progB hk9 hG9 hm9
                    have hh9 := hm9.whole HHC.out (fun h => by have := HLO2.out _ h; have := HGZ.out; omega)
                    have ho9 := Own.mvG HOC.out hm9 (fun g hg h => by have := (Own.low HOC.out hg).1; have := HLO2.out _ h; omega)
                    have hrx := RdG.mv HR9.out hm9 HZC.out.1 (fun b _ h => .inr ⟨fun h2 => (HOFF.out b h2).2 h, by have := HLO2.out b h; have := HZA.out; omega⟩)
                    have hB9 : Below w.heap.size w w9 := HBC.out.trans (hm9.below HBC.out.size (fun i hi => by have := HLB.out i hi; omega))
                    have hz9 := hm9.size
                    obtain ⟨wd, hwd⟩ : ∃ wd, w9.setCell ⟨gh, 2, none⟩ (.slice none 0 0) = wd := ⟨_, rfl⟩
                    obtain ⟨we2, hwe2⟩ : ∃ we2, wd.alloc (.cells #[.int .i64 t.read, .slice Ah (highR at_ t.reads).length ch, .slice none 0 0] 32) = we2 := ⟨_, rfl⟩
                    have hhd : Whole wd gh 32 [.int .i64 t.read, .slice Ah (highR at_ t.reads).length ch, .slice none 0 0] := by rw [← hwd]; exact hh9.put 2 _
                    have hod : OwnS wd w7.heap.size (.slice Ah (highR at_ t.reads).length ch) (highR at_ t.reads) := by rw [← hwd]; exact Own.put ho9 hh9 (by decide) 2 _
                    have hm9e : Mv (fun i => i = gh) w9 we2 := by rw [← hwe2, ← hwd]; exact ((Mv.refl (fun i => i = gh) w9).setCell (p := ⟨gh, 2, none⟩) (fun _ => rfl) _).alloc _
                    have hzd : wd.heap.size = w9.heap.size := by rw [← hwd]; simp
                    have hze : we2.heap.size = wd.heap.size + 1 := by rw [← hwe2]; simp
                    have hW3 : Whole we2 wd.heap.size 32 [.int .i64 t.read, .slice Ah (highR at_ t.reads).length ch, .slice none 0 0] := by rw [← hwe2]; exact Whole.fresh wd _ [_, _, _]
                    have hoe : OwnS we2 w7.heap.size (.slice Ah (highR at_ t.reads).length ch) (highR at_ t.reads) := by rw [← hwe2]; exact hod.alloc _
                    have hG9z : ∀ i, G9 i → i < w7.heap.size ∨ wc2.heap.size ≤ i := fun i hi => by
                      rcases hG9 i hi with h | h
                      · exact .inl (HLO2.out i h)
                      · exact .inr h
                    have hG9h : ∀ i, G9 i → i ≠ gh := fun i hi e => by have := HZC.out; have := HGZ.out; rcases hG9z i hi with h | h <;> omega
                    have hbe := hD9.b.mv hm9e hG9h
                    have hlow9 : ∀ i, G9 i → i < w9.heap.size := fun i hi => (hk9.low.2 i hi).2
                    have hone := RdTx.one (G := G9) (x := ⟨highT at_ t, .slice Ah (highR at_ t.reads).length ch, .slice none 0 0⟩) hW3 ⟨RdG.own cellsS_len hoe (fun b h1 _ h2 h => by
                      have h3 := (Own.low HOC.out h2).2
                      rcases hG9z b h with h4 | h4 <;> omega), RdG.none_ _ _ _ _ _⟩ (fun hi => by have := hlow9 _ hi; omega)
                    have HJ3 := Lib.hid (mkjudge_any _ q2 _ G9 M 10 (by unfold I64; omega) _ _ we2 hbe hone (fun x hx => by rw [List.mem_singleton] at hx; subst hx; exact sound_fit (low_sound hat HSD.out).2 rfl) (fun x hx => by rw [List.mem_singleton] at hx; subst hx; exact HT.out.read) (by omega))
                    simp only [List.map_cons, List.map_nil] at HJ3
                    rw [p6, p7] at HJ3
                    have hry2 : RdG encI 1 we2 w9.heap.size (fun i => G9 i ∨ Else wc2 Gb7 i) (.slice A9 1 cap9) [verd M (lowT at_ t)] := RdG.mv hry hm9e (Nat.le_refl _) (fun b _ (e : b = gh) => .inr ⟨fun h => by have := HLO2.out b h; have := HGZ.out; omega, by have := HZC.out; have := HHC.out.size; omega⟩)
                    have hrx2 : RdG encI 1 we2 w8.heap.size (fun i => G8 i ∨ Else wa Ga6 i) (.slice A8 1 cap8) [verd M t] := RdG.mv hrx hm9e (by have := HZC.out; omega) (fun b _ (e : b = gh) => .inr ⟨fun h => by have := HOFF.out b h; have := HGZ.out; omega, by have := HZC.out; omega⟩)
                    have HRX := Lib.hid hrx2
                    have HRY := Lib.hid hry2
                    have HGN := Lib.hid hG9z
                    have HGB := Lib.hid hG9
                    have HBE := Lib.hid (show Below w.heap.size w we2 from hB9.trans (hm9e.below hB9.size (fun i e => by have := HB7.out.size; have := HGZ.out; omega)))
                    have HZE := Lib.hid (show w9.heap.size ≤ we2.heap.size ∧ w8.heap.size ≤ we2.heap.size by have := HZC.out; omega)
                    have m2 := hh9.cell 2 _ rfl
                    have mf2 := hh9.frozen 2
                    have n0 := hhd.cell 0 _ rfl
                    have n1 := hhd.cell 1 _ rfl
                    have n2 := hhd.cell 2 _ rfl
                    have HWE := Lib.hid hwe2
                    have HL9 := Lib.hid (show ∀ i, G9 i → w.heap.size < i from fun i hi => by
                      rcases hG9 i hi with h | h
                      · exact HLB.out i h
                      · have := HZC.out; have := HB7.out.size; have := HGZ.out; omega)
                    clear hk9 hG9 hm9 hry hrx hD9 hh9 ho9 hB9 hhd hod hm9e hzd hze hW3 hoe hG9z hG9h hbe hlow9 hone hry2 hrx2 HJ2 HDC HHC HOC HR9 HBC hwe2 p6 p7
                    go_wp2_with fail
                    (try rw [HWE.out])
                    refine HJ3.out.mono ?_
                    rintro e w10 ⟨A10, cap10, rfl, G10, hk10, hG10, hm10, hrz⟩
                    clear m2 mf2 n0 n1 n2 hwd
                    have hrx := RdG.mv HRX.out hm10 HZE.out.2 (fun b hb h => by
                      have h9 := HZC.out
                      rcases HGB.out b h with h1 | h1
                      · exact .inr ⟨fun h2 => (HOFF.out b h2).2 h1, by have := HLO2.out b h1; have := HZA.out; omega⟩
                      · omega)
                    have hry := RdG.mv HRY.out hm10 HZE.out.1 (fun b _ h => .inl h)
                    have hB10 : Below w.heap.size w w10 := HBE.out.trans (hm10.below HBE.out.size (fun i hi => by have := HL9.out i hi; omega))
                    have HB10 := Lib.hid hB10
                    obtain ⟨_, _, e, hcx, hix⟩ := hrx.atI
                    injection e with e1 e2 e3
                    clear e2
                    subst e1 e3
                    obtain ⟨bx, ox, rfl, _, _, cx⟩ := hix 0 (by simp)
                    obtain ⟨_, _, e, hcy, hiy⟩ := hry.atI
                    injection e with e1 e2 e3
                    clear e2
                    subst e1 e3
                    obtain ⟨by_, oy, rfl, _, _, cy⟩ := hiy 0 (by simp)
                    obtain ⟨_, _, e, hcz, hiz⟩ := hrz.atI
                    injection e with e1 e2 e3
                    clear e2
                    subst e1 e3
                    obtain ⟨bz, oz, rfl, hbz, _, cz⟩ := hiz 0 (by simp)
                    simp only [Nat.add_zero, List.getElem_cons_zero] at cx cy cz
                    simp only [List.length_cons, List.length_nil, Nat.zero_add] at hcx hcy hcz
                    have hlx : bx < w10.heap.size := World.block_lt_of_cell? _ _ cx
                    have hly : by_ < w10.heap.size := World.block_lt_of_cell? _ _ cy
                    have HQ := Lib.hid (show ∀ W, Below w10.heap.size w10 W → W.cell? ⟨bx, ox, none⟩ = some (.int .i64 (verd M t)) ∧ W.cell? ⟨by_, oy, none⟩ = some (.int .i64 (verd M (lowT at_ t))) ∧ W.cell? ⟨bz, oz, none⟩ = some (.int .i64 (verd M (highT at_ t))) from fun W hW => ⟨by rw [hW.cell hlx]; exact cx, by rw [hW.cell hly]; exact cy, by rw [hW.cell hbz]; exact cz⟩)
                    clear hrx hry hrz hix hiy hiz hk10 hG10 hm10 hlx hly hbz cx cy cz hB10 HJ3
                    generalize verd M t = VX at p8 HQ
                    generalize verd M (lowT at_ t) = VY at p8 HQ
                    generalize verd M (highT at_ t) = VZ at p8 HQ
                    have hd0 : Below w10.heap.size w10 w10.drew := (Below.refl _ w10).drew
                    have hcases : (VX = 1 ∧ VY = 1 ∧ VZ = 1) ∨ ((VX == 1) = false ∧ VY = 1 ∧ (VZ == 1) = false) ∨ ((VX == 1) = false ∧ (VY == 1) = false) := by
                      by_cases hx : VX = 1
                      · exact .inl ⟨hx, p8.1 hx⟩
                      · by_cases hy : VY = 1
                        · exact .inr (.inl ⟨by simpa using hx, hy, by simpa using fun hz => hx (p8.2 ⟨hy, hz⟩)⟩)
                        · exact .inr (.inr ⟨by simpa using hx, by simpa using hy⟩)
                    clear p8
                    rcases hcases with ⟨rfl, rfl, rfl⟩ | ⟨hx, rfl, hz⟩ | ⟨hx, hy⟩
                    all_goals
                      as_aux_lemma =>
                        go_wp2_with fail
                        refine wp_region_planB [(true, 0), (true, 1), (true, 2), (true, 3), (true, 4), (true, 5), (true, 6), (true, 7), (true, 8), (true, 9), (true, 10), (true, 11), (true, 12), (true, 13), (true, 14), (true, 15), (true, 16), (true, 17), (true, 18), (true, 19), (true, 20), (true, 21), (true, 22), (true, 23), (true, 24), (true, 25), (true, 26), (true, 27), (true, 28), (true, 29), (true, 30), (true, 31), (true, 32), (true, 33), (true, 34), (true, 35), (true, 36), (true, 37), (true, 38), (true, 39), (true, 40), (true, 41), (true, 42)] (by kernel_rfl) (by kernel_rfl) (fun _ _ d _ _ h => by cases d <;> exact h) ?_
                        repeat (first | (refine PlanB.take (v := ?_) rfl rfl ?_ ?_; rotate_left; (focus (intro W hW; obtain ⟨k0, k1, k2⟩ := HQ.out W (hd0.trans hW); go_simp; (try with_reducible rfl); done)); (try simp only [Act.put, List.setIfInBounds_toArray, List.set_cons_zero, List.set_cons_succ])) | (refine PlanB.skip rfl rfl ?_; (try simp only [Act.put, List.setIfInBounds_toArray, List.set_cons_zero, List.set_cons_succ])))
                        simp only [PlanB]
                        go_wp2_with fail
                        go_ret
                        exact ⟨rfl, HB10.out.drew⟩
end Go.Proofs.Ytcmpbhcldaogiaa

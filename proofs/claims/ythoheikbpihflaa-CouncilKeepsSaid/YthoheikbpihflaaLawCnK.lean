/- CouncilKeeps' walk. -/
import Derived.Test.YthoheikbpihflaaFao
import Derived.Test.YthoheikbpihflaaFaj
import Derived.Test.YthoheikbpihflaaFak
import Derived.Deep.CutBlock
import Derived.Deep.DeepCutAuto
import Derived.Deep.Cut
import Derived.Deep.CutRange
namespace Go.Proofs.Ythoheikbpihflaa
open Go.RowKit
attribute [local go_sem] less_eq same_eq le_eq ge_eq gt_eq

set_option maxRecDepth 100000 in
theorem neq_bal2 (a b : Int) (c d : Int) (W : World) : (binOp .neq 32 (.agg #[.int .i64 a, .int .i64 b]) (.agg #[.int .i64 c, .int .i64 d])).run Try.prog W = .ok (.bool (!(decide (a = c) && decide (b = d)))) W := by
  have hS : Try.prog.underlying 32 = some (.struct (Try.prog.fieldsOf 32)) := by kernel_rfl
  have hp : Try.prog.stoodInHeld 32 = false := by kernel_rfl
  have u0 := Try.underlying3
  have ag0 := Try.isAgg3
  have sz0 := Try.sizeOf3
  rw [run_neq_struct, show (10000 : Nat) = 9999 + 1 from rfl, run_equalIn_agg W 9999 32 _ _ hS hp]
  simp only [Program.fieldsOf, Try.underlying32]
  go_simp
  by_cases h1 : a = c <;> by_cases h2 : b = d <;> simp [h1, h2]

theorem PlanB.pass {P : Program} {ops : Array Oper} {Q : Exit → Act → World → Prop} {i : Nat} {o : Oper} {r : List (Bool × Nat)} {a : Act} {w : World} (hi : ops.toList[i]? = some o) (hw : Region.wanted o (yielded ops a.tmps) = false)
    (h : PlanB P ops Q r (a.put o.dst undef) w) : PlanB P ops Q ((false, i) :: r) a w := by
  show wpOp P ops Q i _ a w
  unfold wpOp
  have hi' : ops[i]? = some o := by simpa using hi
  simp only [hi', hw, Bool.false_eq_true, if_false]
  exact ⟨Below.refl _ _, h⟩
theorem vw_eq {v : Vw} {a b : Bal} (h1 : v.prom = a) (h2 : v.at' = b) : v = ⟨a, b, v.took⟩ := by
  subst h1 h2
  rfl
/-- what holds ahead of each ballot -/
structure KInv (w wr : World) (q p gB gS : Nat) (G : Nat → Prop) (c : Co) (best : Bal) (s : Sta) (us : Value) : Prop where
  co : CoAt wr w.heap.size q p G c
  dead : c.dead = false
  left : c.left = -1
  wb : Whole wr gB 32 [.int .i64 best.1, .int .i64 best.2]
  ws : Whole wr gS 35 [.int .i64 s.gen, .int .i64 s.epoch, .int .i64 s.recd, us]
  nb : ¬ G gB
  ns : ¬ G gS
  lb : w.heap.size ≤ gB
  bl : Below w.heap.size w wr
  pr : c.v.prom = best
  at_ : c.v.at' = best
  tk : best ≠ (0, 0) → c.v.took = s
theorem KInv.new {w wr w' : World} {q p gB gS : Nat} {G : Nat → Prop} {c : Co} {best : Bal} {s : Sta} {us : Value} (h : KInv w wr q p gB gS G c best s us) (hb : Below wr.heap.size wr w') : KInv w w' q p gB gS G c best s us :=
  ⟨h.co.mv (Mv.of_new hb (fun _ => False)) (fun _ _ h => h), h.dead, h.left, h.wb.below hb h.wb.size, h.ws.below hb h.ws.size, h.nb, h.ns, h.lb, h.bl.trans (hb.mono h.bl.size), h.pr, h.at_, h.tk⟩

set_option maxHeartbeats 16000000 in
set_option maxRecDepth 100000 in
theorem councilKeeps_walk (l : List Bal) (hf : ∀ b ∈ l, b.1 < 9223372036854775808 ∧ b.2 < 9223372036854775808) (s : Sta) (hs : s.small) (hsl : s.chests.length ≤ 17592186043904) (keep : Int) (turn : UInt8) (v u : Value) (w : World) (hv : RdBl w w.heap.size v l) (hu : RdI w w.heap.size u s.chests) (hl : l.length < 4611686018427387904) :
    Calls Try.prog 4 #[v, sval s u, .int .i64 keep, .int .u8 (turn.toNat : Int)] w fun e w' => e = .returned (.bool true) ∧ Below w.heap.size w w' := by
  obtain ⟨A, c0, rfl, hc0, hk⟩ := hv.at
  obtain ⟨B, d, rfl, -, -⟩ := hu.at
  have HK := Lib.hid hk
  have HU := Lib.hid hu
  have HF := Lib.hid (fun i (h : i < l.length) => hf l[i] (List.getElem_mem h))
  have HSM := Lib.hid hs
  clear hk hv hu hf hs
  obtain ⟨us, hus⟩ : ∃ us, us = Value.slice B s.chests.length d := ⟨_, rfl⟩
  obtain ⟨ws, hws⟩ : ∃ ws, ws = w.alloc (.cells #[.int .i64 s.gen, .int .i64 s.epoch, .int .i64 s.recd, .slice B s.chests.length d] 35) := ⟨_, rfl⟩
  have hbs : Below w.heap.size w ws := by rw [hws]; exact (Below.refl _ w).alloc (Nat.le_refl _) _
  have hSs : Whole ws w.heap.size 35 [.int .i64 s.gen, .int .i64 s.epoch, .int .i64 s.recd, .slice B s.chests.length d] := by rw [hws]; exact Whole.fresh w _ _
  have hzs : ws.heap.size = w.heap.size + 1 := by rw [hws]; simp
  have HN := Lib.hid (new_any 4000 (by decide) (by decide) ws)
  have HBS := Lib.hid hbs
  have HSS := Lib.hid hSs
  clear hbs hSs
  unfold sval
  go_enter Try.func4, Try.ntmps4
  go_wp2_with fail
  rw [← hws]
  clear hws
  refine HN.out.mono ?_
  rintro e w1 ⟨p, rfl, ht, hb⟩
  have hop := fresh_open 4000 (by decide) (by decide) ws w1 p ht hb
  have HO := Lib.hid hop
  clear ht hb hop HN
  go_wp2_with fail
  refine HO.out.mono ?_
  rintro e w2 ⟨q, G, rfl, hc2, hb2⟩
  have HC2 := Lib.hid hc2
  have HB2 := Lib.hid hb2
  clear hc2 hb2 HO
  go_wp2_with fail
  refine (awake_any w2).mono ?_
  rintro e w3 ⟨rfl, hb3⟩
  have hc3 := HC2.out.mv (Mv.of_new hb3 (fun _ => False)) (fun _ _ h => h)
  have hb3' := HB2.out.trans (hb3.mono HB2.out.size)
  obtain ⟨gB, hgB⟩ : ∃ gB, gB = w3.heap.size := ⟨_, rfl⟩
  have hbe : Below w3.heap.size w3 (w3.alloc (.cells #[.int .i64 0, .int .i64 0] 32)) := (Below.refl _ w3).alloc (Nat.le_refl _) _
  have hGS : ∀ G' (wr : World) q' c', CoAt wr ws.heap.size q' p G' c' → ¬ G' w.heap.size := fun G' wr q' c' h hg => by
    have := (h.low.2 _ hg).1
    rw [hzs] at this; omega
  have HNS := Lib.hid hGS
  have hki : KInv ws (w3.alloc (.cells #[.int .i64 0, .int .i64 0] 32)) q p gB w.heap.size G (Co.start 4000) (0, 0) s (.slice B s.chests.length d) :=
    ⟨hc3.mv (Mv.of_new hbe (fun _ => False)) (fun _ _ h => h), rfl, rfl, by rw [hgB]; exact Whole.fresh w3 _ [_, _], (HSS.out.below hb3' HSS.out.size).below hbe (Nat.lt_of_lt_of_le HSS.out.size hb3'.size),
      fun hg => by have := (hc3.low.2 _ hg).2; omega, hGS _ _ _ _ hc3, by rw [hgB]; exact hb3'.size, hb3'.trans (hbe.mono hb3'.size), rfl, rfl, fun h => absurd rfl h⟩
  have HKI := Lib.hid hki
  have HLL := Lib.hid hl
  clear hki hGS hbe hc3 hb3' hb3 HC2 HB2 HSS hl
  go_wp2_with fail
  rw [← hgB]
  clear hgB
  go_loopw [11, 14] (fun cv iv wr => ∃ (i q : Nat) (G : Nat → Prop) (c : Co) (best : Bal), i ≤ 30 ∧ iv = .int .i64 (i : Int) ∧ cv = .pointer (some ⟨q, 0, none⟩) ∧ KInv ws wr q p gB w.heap.size G c best s (.slice B s.chests.length d)) (fun _ iv _ => 30 - (intOf iv).toNat)
  case atStart => exact ⟨0, q, G, _, (0, 0), by omega, rfl, rfl, HKI.out⟩
  case round =>
    obtain ⟨i, q2, G2, c, best, hi30, rfl, rfl, hinv⟩ := hrel
    clear HKI
    have hbw : Below w.heap.size w wr := HBS.out.trans (hinv.bl.mono (by omega))
    by_cases hgo : i < l.length ∧ i < 30
    case neg =>
      have hex : ¬ ((i : Int) < (l.length : Int)) ∨ ((i : Int) < (l.length : Int) ∧ ¬ ((i : Int) < 30)) := by omega
      have HBW := Lib.hid hbw
      clear hgo hinv hbw
      rcases hex with h1 | ⟨h1, h2⟩
      all_goals
        go_wp2_with fail
        go_ret
        exact ⟨rfl, HBW.out⟩
    obtain ⟨hil, hi2⟩ := hgo
    have h1 : (i : Int) < (l.length : Int) := by omega
    have h2 : (i : Int) < 30 := by omega
    obtain ⟨b, o, rfl, hbB, k0, k1⟩ := HK.out i hil
    have HCL := Lib.hid (fun W (h : Below w.heap.size w W) => (show W.cell? ⟨b, o + i * 2, none⟩ = some (.int .i64 l[i].1) ∧ W.cell? ⟨b, o + i * 2 + 1, none⟩ = some (.int .i64 l[i].2) from ⟨(h.cell (p := ⟨b, _, none⟩) hbB).trans k0, (h.cell (p := ⟨b, _, none⟩) hbB).trans k1⟩))
    clear k0 k1
    obtain ⟨k0, k1⟩ := HCL.out wr hbw
    obtain ⟨hf1, hf2⟩ := HF.out i hil
    generalize l[i] = x at k0 k1 hf1 hf2 HCL
    have hp := cprep_any ws.heap.size q2 p G2 c x hf1 hf2 wr hinv.co
    obtain ⟨e1, e2, e3, e4, e5⟩ := Co.step_calm (what := 0) (b := x) (s := zeroS) hinv.dead (by rw [hinv.left]; decide)
    have hok2 := Co.step_ok (what := 0) (b := x) (s := zeroS) hinv.co.ok hf1 hf2 ⟨by decide, by decide, by decide⟩
    generalize c.step 0 x zeroS = R at hp e1 e2 e3 e4 e5 hok2
    obtain ⟨E, O, c2⟩ := R
    simp only at hp e1 e2 e3 e4 e5 hok2
    obtain ⟨x1, x2⟩ := x
    unfold blv vwv at hp
    simp only at hp k0 k1 hf1 hf2 HCL
    have HP := Lib.hid hp
    have HINV := Lib.hid hinv
    have HE := Lib.hid (show c2.dead = false ∧ c2.left = -1 ∧ E = (nextV c.v 0 (x1, x2) zeroS).2.2 ∧ O = (nextV c.v 0 (x1, x2) zeroS).2.1 ∧ c2.v = (nextV c.v 0 (x1, x2) zeroS).1 from ⟨e1, e2.trans hinv.left, e3, e4, e5⟩)
    clear hp e1 e2 e3 e4 e5 hinv hbw hok2
    go_wp2_with fail
    refine HP.out.mono ?_
    rintro e w4 ⟨y, vy, G3, rfl, hn, -, hc4, hG4, hm4⟩
    obtain ⟨A4, c4, rfl, -, -⟩ := hn
    have hlow := HINV.out.co.low
    have hb4 : Below ws.heap.size ws w4 := HINV.out.bl.trans (hm4.below hlow.1 (fun i hi => (hlow.2 i hi).1))
    have hwb4 := hm4.whole HINV.out.wb HINV.out.nb
    have hws4 := hm4.whole HINV.out.ws HINV.out.ns
    have hnb4 : ¬ G3 gB := fun hg => by
      rcases hG4 gB hg with h | h
      · exact HINV.out.nb h
      · have := HINV.out.wb.size; omega
    have hns4 := HNS.out _ _ _ _ hc4
    clear hlow HP hG4 hm4
    obtain ⟨w5, hw5⟩ : ∃ w5, w5 = w4.alloc (.cells #[.int .i64 y.prom.1, .int .i64 y.prom.2, .int .i64 y.at'.1, .int .i64 y.at'.2, .int .i64 y.took.gen, .int .i64 y.took.epoch, .int .i64 y.took.recd, .slice A4 y.took.chests.length c4] 37) := ⟨_, rfl⟩
    have hb45 : Below w4.heap.size w4 w5 := by rw [hw5]; exact (Below.refl _ w4).alloc (Nat.le_refl _) _
    have hc5 := hc4.mv (Mv.of_new hb45 (fun _ => False)) (fun _ _ h => h)
    have hb5 := hb4.trans (hb45.mono hb4.size)
    have hwb5 := hwb4.below hb45 hwb4.size
    have hws5 := hws4.below hb45 hws4.size
    have hbw5 : Below w.heap.size w w5 := HBS.out.trans (hb5.mono (by omega))
    clear k0 k1
    obtain ⟨k0, k1⟩ := HCL.out w5 hbw5
    have HB5 := Lib.hid hb5
    have HBW5 := Lib.hid hbw5
    clear hc4 hb4 hwb4 hws4 hb45 hb5 hbw5
    by_cases hneg : x1 < 0 ∨ x2 < 0
    case pos =>
      have hnx : nextV c.v 0 (x1, x2) zeroS = (c.v, false, 1) := by unfold nextV; rw [if_pos hneg]
      obtain ⟨-, -, hE, hO, -⟩ := HE.out
      rw [hnx] at hE hO
      simp only at hE hO
      subst hE hO
      clear hc5 hwb5 hws5 hnx HE HINV
      subst hw5
      by_cases g1 : x1 < 0
      · clear hneg
        go_wp2_with fail
        go_ret
        exact ⟨rfl, HBW5.out⟩
      · have g2 : x2 < 0 := by omega
        clear hneg
        go_wp2_with fail
        go_ret
        exact ⟨rfl, HBW5.out⟩
    have hnx : nextV c.v 0 (x1, x2) zeroS = (promV c.v (x1, x2), lessB c.v.prom (x1, x2), 0) := by unfold nextV; rw [if_neg hneg, if_pos (show (0 : Int) < 2 by decide)]
    obtain ⟨hd2, hl2, hE, hO, hv2⟩ := HE.out
    rw [hnx] at hE hO hv2
    simp only at hE hO hv2
    have hpr := HINV.out.pr
    have hat := HINV.out.at_
    have htk := HINV.out.tk
    have hlb := HINV.out.lb
    rw [hpr] at hO
    unfold promV at hv2
    rw [hpr] at hv2
    subst hE hO
    clear hnx HE HINV
    obtain ⟨b1, b2⟩ := best
    simp only at hwb5
    have HL := Lib.hid (fun W => rless_any (b1, b2) (x1, x2) W)
    unfold blv at HL
    simp only at HL
    have HV2 := Lib.hid hv2
    have HPR := Lib.hid hpr
    have HAT := Lib.hid hat
    have HTK := Lib.hid htk
    have HD2 := Lib.hid hd2
    have HL2 := Lib.hid hl2
    have HC5 := Lib.hid hc5
    have HWB5 := Lib.hid hwb5
    have HWS5 := Lib.hid hws5
    have HNB := Lib.hid hnb4
    have HNEG := Lib.hid hneg
    clear hv2 hpr hat htk hd2 hl2 hc5 hwb5 hws5 hnb4 hns4 hneg k0 k1
    generalize lessB (b1, b2) (x1, x2) = O at HV2 HL ⊢
    go_wp2_with fail
    rw [← hw5]
    clear hw5
    have hdz : Below w5.heap.size w5 w5.drew := (Below.refl _ _).drew
    have HCC := Lib.hid (fun W (hW : Below w5.drew.heap.size w5.drew W) => (show W.cell? ⟨gB, 0, none⟩ = some (.int .i64 b1) ∧ W.cell? ⟨gB, 1, none⟩ = some (.int .i64 b2) ∧ W.cell? ⟨b, o + i * 2, none⟩ = some (.int .i64 x1) ∧ W.cell? ⟨b, o + i * 2 + 1, none⟩ = some (.int .i64 x2) from
      ⟨((hdz.trans hW).cell (p := ⟨gB, 0, none⟩) HWB5.out.size).trans (HWB5.out.cell 0 _ rfl), ((hdz.trans hW).cell (p := ⟨gB, 1, none⟩) HWB5.out.size).trans (HWB5.out.cell 1 _ rfl), HCL.out W (HBW5.out.trans ((hdz.trans hW).mono HBW5.out.size))⟩))
    refine wp_region_planB [(true, 0), (true, 1), (true, 2), (true, 3), (true, 4), (true, 5), (false, 6), (true, 7)] (by kernel_rfl) (by kernel_rfl) (fun _ _ d _ _ h => by cases d <;> exact h) ?_
    iterate 6 (refine PlanB.take (v := ?_) rfl rfl ?_ ?_; rotate_left; (focus (intro W hW; obtain ⟨q0, q1, q2, q3⟩ := HCC.out W hW; go_simp; (try with_reducible rfl); done)); (try simp only [Act.put, List.setIfInBounds_toArray, List.set_cons_zero, List.set_cons_succ]))
    refine PlanB.step rfl rfl (fun Kk hKk => ?_)
    go_simp
    refine (HL.out w5.drew).mono ?_
    rintro e w6 ⟨rfl, hb6⟩
    refine hKk.out _ _ hb6 ?_
    clear hKk Kk
    (try simp only [Act.put, List.setIfInBounds_toArray, List.set_cons_zero, List.set_cons_succ])
    refine PlanB.take (v := .bool false) rfl rfl ?_ ?_
    · intro W hW
      cases O <;> go_simp
    (try simp only [Act.put, List.setIfInBounds_toArray, List.set_cons_zero, List.set_cons_succ])
    simp only [PlanB]
    have hb56 : Below w5.heap.size w5 w6 := hdz.trans hb6
    have HC6 := Lib.hid (HC5.out.mv (Mv.of_new hb56 (fun _ => False)) (fun _ _ h => h))
    have HWB6 := Lib.hid (HWB5.out.below hb56 HWB5.out.size)
    have HWS6 := Lib.hid (HWS5.out.below hb56 HWS5.out.size)
    have HB6 := Lib.hid (HB5.out.trans (hb56.mono HB5.out.size))
    have HBW6 := Lib.hid (HBW5.out.trans (hb56.mono HBW5.out.size))
    have hgne : gB ≠ w.heap.size := by omega
    have hgne2 : w.heap.size ≠ gB := Ne.symm hgne
    clear hb56 hb6 hdz HCC HL HC5 HWB5 HWS5 HB5 HBW5
    go_upto_if 92 with fail
    go_cut [] (fun wx => ∃ (G' : Nat → Prop) (c' : Co) (best' : Bal), KInv ws wx q2 p gB w.heap.size G' c' best' s (.slice B s.chests.length d))
    case first =>
      cases O with
      | false =>
        go_wp2_with fail
        go_meet
        case rel =>
          have hv2 : c2.v = c.v := by rw [HV2.out]; rfl
          exact ⟨G3, c2, (b1, b2), ⟨HC6.out, HD2.out, HL2.out, HWB6.out, HWS6.out, HNB.out, HNS.out _ _ _ _ HC6.out, hlb, HB6.out, by rw [hv2, HPR.out], by rw [hv2, HAT.out], by rw [hv2]; exact HTK.out⟩⟩
      | true =>
        have hv2 : c2.v = { prom := (x1, x2), at' := c.v.at', took := c.v.took } := by rw [HV2.out]; rfl
        obtain ⟨w7, hw7⟩ : ∃ w7, w7 = (w6.setCell ⟨gB, 0, none⟩ (.int .i64 x1)).setCell ⟨gB, 1, none⟩ (.int .i64 x2) := ⟨_, rfl⟩
        have hmv : Mv (fun i => i = gB) w6 w7 := by rw [hw7]; exact ((Mv.refl (fun i => i = gB) w6).setCell (p := ⟨gB, 0, none⟩) (fun _ => rfl) _).setCell (p := ⟨gB, 1, none⟩) (fun _ => rfl) _
        have hc7 := HC6.out.mv hmv (fun i hi e => HNB.out (by rw [← e]; exact hi))
        have hwb7 : Whole w7 gB 32 [.int .i64 x1, .int .i64 x2] := by
          have h := (HWB6.out.put 0 (.int .i64 x1)).put 1 (.int .i64 x2)
          rw [hw7]
          simpa using h
        have hws7 := hmv.whole HWS6.out (fun e => hgne2 e)
        have hb7 : Below ws.heap.size ws w7 := HB6.out.trans (hmv.below HB6.out.size (fun i (e : i = gB) => by rw [e]; exact hlb))
        have hbw7 : Below w.heap.size w w7 := HBS.out.trans (hb7.mono (by omega))
        have hru : RdI w7 w7.heap.size (.slice B s.chests.length d) s.chests := (HU.out.below hbw7 (Nat.le_refl _)).mono hbw7.size
        have ha := cacc_any ws.heap.size q2 p G3 c2 (x1, x2) s (.slice B s.chests.length d) hf1 hf2 HSM.out hsl w7 hc7 hru
        obtain ⟨e1, e2, e3, e4, e5⟩ := Co.step_calm (what := 2) (b := (x1, x2)) (s := s) HD2.out (by rw [HL2.out]; decide)
        have hnx : nextV c2.v 2 (x1, x2) s = if soundS s then (⟨(x1, x2), (x1, x2), s⟩, true, 0) else (c2.v, false, 2) := by
          unfold nextV
          rw [if_neg HNEG.out, if_neg (show ¬ (2 : Int) < 2 by decide)]
          unfold takeV
          rw [hv2]
          simp only [lessB_self]
          rfl
        rw [hnx] at e3 e4 e5
        generalize c2.step 2 (x1, x2) s = R at ha e1 e2 e3 e4 e5
        obtain ⟨E, O2, c3⟩ := R
        simp only at ha e1 e2 e3 e4 e5
        have z0 := HWB6.out.cell 0 _ rfl
        have z1 := HWB6.out.cell 1 _ rfl
        have f0 := HWB6.out.frozen 0
        have f1 := HWB6.out.frozen 1
        have y0 := HWS6.out.cell 0 _ rfl
        have y1 := HWS6.out.cell 1 _ rfl
        have y2 := HWS6.out.cell 2 _ rfl
        have y3 := HWS6.out.cell 3 _ rfl
        obtain ⟨m0, m1⟩ := HCL.out w6 HBW6.out
        have hbne : b ≠ gB := by omega
        have hbne2 : gB ≠ b := Ne.symm hbne
        unfold blv sval at ha
        simp only at ha
        have HA := Lib.hid ha
        have HC7 := Lib.hid hc7
        have HWB7 := Lib.hid hwb7
        have HWS7 := Lib.hid hws7
        have HB7 := Lib.hid hb7
        have HBW7 := Lib.hid hbw7
        have HRU := Lib.hid hru
        have HE1 := Lib.hid e1
        have HE2 := Lib.hid (e2.trans HL2.out)
        have HE5 := Lib.hid e5
        clear ha hc7 hwb7 hws7 hb7 hbw7 hru hmv e1 e2 e5 hnx hv2 HV2
        by_cases hsd : soundS s
        case neg =>
          rw [if_neg hsd] at e3 e4
          simp only at e3 e4
          subst e3 e4
          have HSD := Lib.hid hsd
          clear hsd
          go_wp2_with fail
          rw [← hw7]
          clear hw7
          refine HA.out.mono ?_
          rintro e w8 ⟨G5, rfl, hc8, hG5, hm8⟩
          have hws8 := hm8.whole HWS7.out (HNS.out _ _ _ _ HC7.out)
          have hb8 : Below ws.heap.size ws w8 := HB7.out.trans (hm8.below HB7.out.size (fun i hi => (HC7.out.low.2 i hi).1))
          have hbw8 : Below w.heap.size w w8 := HBS.out.trans (hb8.mono (by omega))
          have hS := rsoundS_any s (by omega) (.slice B s.chests.length d) w8 ((HU.out.below hbw8 (Nat.le_refl _)).mono hbw8.size)
          rw [decide_eq_false HSD.out] at hS
          unfold sval at hS
          have HS8 := Lib.hid hS
          have HBW8 := Lib.hid hbw8
          have y0 := hws8.cell 0 _ rfl
          have y1 := hws8.cell 1 _ rfl
          have y2 := hws8.cell 2 _ rfl
          have y3 := hws8.cell 3 _ rfl
          clear hws8 hb8 hbw8 hS hc8 hG5 hm8
          go_wp2_with fail
          refine HS8.out.mono ?_
          rintro e w9 ⟨rfl, hb9⟩
          have HBW9 := Lib.hid (HBW8.out.trans (hb9.mono HBW8.out.size))
          clear hb9
          go_wp2_with fail
          go_ret
          exact ⟨rfl, HBW9.out⟩
        rw [if_pos hsd] at e3 e4
        simp only at e3 e4
        subst e3 e4
        have HSD := Lib.hid hsd
        clear hsd
        go_wp2_with fail
        rw [← hw7]
        clear hw7
        refine HA.out.mono ?_
        rintro e w8 ⟨G5, rfl, hc8, hG5, hm8⟩
        have HK8 : Hid (KInv ws w8 q2 p gB w.heap.size G5 c3 (x1, x2) s (.slice B s.chests.length d)) := Lib.hid (by
          have hv3 : c3.v = ⟨(x1, x2), (x1, x2), s⟩ := by rw [HE5.out, if_pos HSD.out]
          refine ⟨hc8, HE1.out, HE2.out, hm8.whole HWB7.out HNB.out, hm8.whole HWS7.out (HNS.out _ _ _ _ HC7.out), fun hg => ?_, HNS.out _ _ _ _ hc8, hlb, HB7.out.trans (hm8.below HB7.out.size (fun i hi => (HC7.out.low.2 i hi).1)), by rw [hv3], by rw [hv3], fun _ => by rw [hv3]⟩
          rcases hG5 gB hg with h | h
          · exact HNB.out h
          · have := HWB7.out.size; omega)
        clear hc8 hG5 hm8 y0 y1 y2 y3 z0 z1 f0 f1 m0 m1
        go_wp2_with fail
        go_meet
        case rel => exact ⟨G5, c3, (x1, x2), HK8.out⟩
    case rest =>
      obtain ⟨G6, c6, best6, hk6⟩ := hcut
      obtain ⟨ov, htp, hTD⟩ := hk6.co.tape
      have HCR := Lib.hid (crash_any ws.heap.size p ov c6.t keep turn wc htp)
      have HK6 := Lib.hid hk6
      have HTD := Lib.hid hTD
      clear hk6 htp hTD HC6 HWB6 HWS6 HB6 HBW6 HV2 HPR HAT HTK HD2 HL2 HNB
      go_wp2_with fail
      refine HCR.out.mono ?_
      rintro e w7 ⟨rfl, hw⟩
      rw [Co.crash_t] at hw
      obtain ⟨c7, hc7⟩ : ∃ c7, c7 = ({ c6 with dead := false, left := -1 } : Co) := ⟨_, rfl⟩
      rw [← hc7] at hw
      obtain ⟨hnow, hmv, hnew⟩ := hw
      have hv7 : c7.v = c6.v := by rw [hc7]
      have hd7 : c7.dead = false := by rw [hc7]
      have hl7 : c7.left = -1 := by rw [hc7]
      have HOP := Lib.hid (copen_any ws.heap.size p ov c7 w7 hnow (by rw [hc7]; exact Co.crash_ok HK6.out.co.ok) hd7)
      have HWB7 := Lib.hid (hmv.whole HK6.out.wb (fun h => HK6.out.nb (HTD.out _ h)))
      have HWS7 := Lib.hid (hmv.whole HK6.out.ws (fun h => HK6.out.ns (HTD.out _ h)))
      have HB7 := Lib.hid (HK6.out.bl.trans (hmv.below HK6.out.bl.size (fun i hi => (HK6.out.co.low.2 i (HTD.out i hi)).1)))
      have htl : ∀ i, TapeD p ov i → ws.heap.size ≤ i := fun i hi => (HK6.out.co.low.2 i (HTD.out i hi)).1
      clear hc7 hnow hmv hnew HCR
      go_wp2_with fail
      refine HOP.out.mono ?_
      rintro e w8 ⟨q8, G8, rfl, hc8, hG8, hm8⟩
      have hnb8 : ¬ G8 gB := fun hg => by
        rcases hG8 gB hg with h | h
        · exact HK6.out.nb (HTD.out _ h)
        · have := HWB7.out.size; omega
      have hwb8 := hm8.whole HWB7.out (fun h => HK6.out.nb (HTD.out _ h))
      have hws8 := hm8.whole HWS7.out (fun h => HK6.out.ns (HTD.out _ h))
      have hb8 : Below ws.heap.size ws w8 := HB7.out.trans (hm8.below HB7.out.size htl)
      obtain ⟨b61, b62⟩ := best6
      have hk8 : KInv ws w8 q8 p gB w.heap.size G8 c7 (b61, b62) s (.slice B s.chests.length d) :=
        ⟨hc8, hd7, hl7, hwb8, hws8, hnb8, HNS.out _ _ _ _ hc8, hlb, hb8, by rw [hv7]; exact HK6.out.pr, by rw [hv7]; exact HK6.out.at_, by rw [hv7]; exact HK6.out.tk⟩
      have HK8 := Lib.hid hk8
      clear HK6 HTD HOP HWB7 HWS7 HB7 htl hc8 hG8 hm8 hnb8 hwb8 hws8 hb8 hk8 hv7 hd7 hl7
      have hcv := vw_eq HK8.out.pr HK8.out.at_
      obtain ⟨tk, htk⟩ : ∃ tk, tk = c7.v.took := ⟨_, rfl⟩
      rw [← htk] at hcv
      have htks : (b61, b62) ≠ (0, 0) → tk = s := by rw [htk]; exact HK8.out.tk
      clear htk
      have HVW := Lib.hid (fun W (h : KInv ws W q8 p gB w.heap.size G8 c7 (b61, b62) s (.slice B s.chests.length d)) => (show Calls Try.prog 12 #[.pointer (some ⟨q8, 0, none⟩)] W fun e w' => ∃ A n, e = .returned (.agg #[.int .i64 b61, .int .i64 b62, .int .i64 b61, .int .i64 b62, .int .i64 tk.gen, .int .i64 tk.epoch, .int .i64 tk.recd, .slice A tk.chests.length n]) ∧ RdI w' w'.heap.size (.slice A tk.chests.length n) tk.chests ∧ Below W.heap.size W w' from by
        refine (cvow_any ws.heap.size q8 p G8 c7 W h.co).mono ?_
        rintro e w' ⟨v, rfl, hn, hb⟩
        have hr := hn.rd
        rw [hcv] at hr ⊢
        simp only at hr
        obtain ⟨A, n, rfl, -, -⟩ := hr.at
        exact ⟨A, n, rfl, hr, hb⟩))
      have HCE := Lib.hid (fun W (h : KInv ws W q8 p gB w.heap.size G8 c7 (b61, b62) s (.slice B s.chests.length d)) W' (hW : Below W.heap.size W W') => (show W'.cell? ⟨gB, 0, none⟩ = some (.int .i64 b61) ∧ W'.cell? ⟨gB, 1, none⟩ = some (.int .i64 b62) ∧ W'.cell? ⟨w.heap.size, 0, none⟩ = some (.int .i64 s.gen) ∧ W'.cell? ⟨w.heap.size, 1, none⟩ = some (.int .i64 s.epoch) ∧ W'.cell? ⟨w.heap.size, 2, none⟩ = some (.int .i64 s.recd) ∧ W'.cell? ⟨w.heap.size, 3, none⟩ = some (.slice B s.chests.length d) from
        ⟨(h.new hW).wb.cell 0 _ rfl, (h.new hW).wb.cell 1 _ rfl, (h.new hW).ws.cell 0 _ rfl, (h.new hW).ws.cell 1 _ rfl, (h.new hW).ws.cell 2 _ rfl, (h.new hW).ws.cell 3 _ rfl⟩))
      have f0 := fun (v : Value) W => field_vow0 b61 b62 b61 b62 tk.gen tk.epoch tk.recd v W
      have f1 := fun (v : Value) W => field_vow1 b61 b62 b61 b62 tk.gen tk.epoch tk.recd v W
      have f2 := fun (v : Value) W => field_vow2 b61 b62 b61 b62 tk.gen tk.epoch tk.recd v W
      have n1 := fun W => neq_bal2 b61 b62 b61 b62 W
      simp only [decide_true, Bool.and_self, Bool.not_true] at n1
      have HTS := Lib.hid htks
      have HHL := Lib.hid h1
      clear htks hcv h1 h2
      obtain ⟨Z, hZ⟩ : ∃ Z : Bool, Z = !(decide (b61 = 0) && decide (b62 = 0)) := ⟨_, rfl⟩
      have n2 := fun W => neq_bal2 b61 b62 0 0 W
      rw [← hZ] at n2
      have HZ := Lib.hid hZ
      clear hZ
      go_wp2_with fail
      refine wp_region_planB [(true, 0), (true, 1), (true, 2), (true, 3), (true, 4), (true, 5), (true, 6), (true, 7), (true, 10), (false, 8), (true, 9), (true, 11), (true, 12), (true, 13), (true, 14), (true, 17), (false, 15), (true, 16), (true, 18), (true, 19), (true, 20), (true, 21), (true, 22), (true, 23), (true, 24), (true, 25), (true, 28), (false, 26), (true, 27), (false, 29), (true, 30), (true, 31), (true, 32)] (by kernel_rfl) (by kernel_rfl) (fun _ _ d _ _ h => by cases d <;> exact h) ?_
      obtain ⟨wd, hwd⟩ : ∃ wd, wd = w8.drew := ⟨_, rfl⟩
      have HKwd : Hid (KInv ws wd q8 p gB w.heap.size G8 c7 (b61, b62) s (.slice B s.chests.length d)) := Lib.hid (by rw [hwd]; exact HK8.out.new (Below.refl _ _).drew)
      rw [← hwd]
      clear hwd HK8
      iterate 9 (refine PlanB.take (v := ?_) rfl rfl ?_ ?_; rotate_left; (focus (intro W hW; obtain ⟨q0, q1, y0, y1, y2, y3⟩ := HCE.out _ HKwd.out W hW; go_simp; (try with_reducible rfl); done)); (try simp only [Act.put, List.setIfInBounds_toArray, List.set_cons_zero, List.set_cons_succ]))
      refine PlanB.step rfl rfl (fun Kk hKk => ?_)
      go_simp
      refine (HVW.out wd HKwd.out).mono ?_
      rintro e w9 ⟨A9, n9, rfl, hr9, hb9⟩
      refine hKk.out _ _ hb9 ?_
      clear hKk Kk
      (try simp only [Act.put, List.setIfInBounds_toArray, List.set_cons_zero, List.set_cons_succ])
      have HKw9 := Lib.hid (HKwd.out.new hb9)
      have HRw9 := Lib.hid hr9
      clear hb9 hr9
      iterate 6 (refine PlanB.take (v := ?_) rfl rfl ?_ ?_; rotate_left; (focus (intro W hW; obtain ⟨q0, q1, y0, y1, y2, y3⟩ := HCE.out _ HKw9.out W hW; go_simp; (try with_reducible rfl); done)); (try simp only [Act.put, List.setIfInBounds_toArray, List.set_cons_zero, List.set_cons_succ]))
      refine PlanB.step rfl rfl (fun Kk hKk => ?_)
      go_simp
      refine (HVW.out w9 HKw9.out).mono ?_
      rintro e w10 ⟨A10, n10, rfl, hr10, hb10⟩
      refine hKk.out _ _ hb10 ?_
      clear hKk Kk
      (try simp only [Act.put, List.setIfInBounds_toArray, List.set_cons_zero, List.set_cons_succ])
      have HKw10 := Lib.hid (HKw9.out.new hb10)
      have HRw10 := Lib.hid hr10
      clear hb10 hr10
      iterate 8 (refine PlanB.take (v := ?_) rfl rfl ?_ ?_; rotate_left; (focus (intro W hW; obtain ⟨q0, q1, y0, y1, y2, y3⟩ := HCE.out _ HKw10.out W hW; go_simp; (try with_reducible rfl); done)); (try simp only [Act.put, List.setIfInBounds_toArray, List.set_cons_zero, List.set_cons_succ]))
      cases Z with
      | false =>
        iterate 2 (refine PlanB.skip rfl rfl ?_; (try simp only [Act.put, List.setIfInBounds_toArray, List.set_cons_zero, List.set_cons_succ]))
        refine PlanB.pass rfl rfl ?_
        (try simp only [Act.put, List.setIfInBounds_toArray, List.set_cons_zero, List.set_cons_succ])
        iterate 1 (refine PlanB.skip rfl rfl ?_; (try simp only [Act.put, List.setIfInBounds_toArray, List.set_cons_zero, List.set_cons_succ]))
        refine PlanB.pass rfl rfl ?_
        (try simp only [Act.put, List.setIfInBounds_toArray, List.set_cons_zero, List.set_cons_succ])
        iterate 1 (refine PlanB.skip rfl rfl ?_; (try simp only [Act.put, List.setIfInBounds_toArray, List.set_cons_zero, List.set_cons_succ]))
        iterate 2 (refine PlanB.take (v := ?_) rfl rfl ?_ ?_; rotate_left; (focus (intro W hW; skip; go_simp; (try with_reducible rfl); done)); (try simp only [Act.put, List.setIfInBounds_toArray, List.set_cons_zero, List.set_cons_succ]))
        simp only [PlanB]
        clear f0 f1 f2 n1 n2
        go_wp2_with fail
        go_roundw
        case rel => exact ⟨i + 1, q8, G8, c7, (b61, b62), by omega, by go_num, rfl, HKw10.out⟩
        case measure => simp [intOf]; omega
      | true =>
        have hne : (b61, b62) ≠ (0, 0) := fun e => by
          have h := HZ.out
          injection e with e1 e2
          rw [e1, e2] at h
          simp at h
        have htk := HTS.out hne
        subst htk
        iterate 2 (refine PlanB.take (v := ?_) rfl rfl ?_ ?_; rotate_left; (focus (intro W hW; obtain ⟨q0, q1, y0, y1, y2, y3⟩ := HCE.out _ HKw10.out W hW; go_simp; (try with_reducible rfl); done)); (try simp only [Act.put, List.setIfInBounds_toArray, List.set_cons_zero, List.set_cons_succ]))
        refine PlanB.step rfl rfl (fun Kk hKk => ?_)
        go_simp
        refine (HVW.out w10 HKw10.out).mono ?_
        rintro e w11 ⟨A11, n11, rfl, hr11, hb11⟩
        refine hKk.out _ _ hb11 ?_
        clear hKk Kk
        (try simp only [Act.put, List.setIfInBounds_toArray, List.set_cons_zero, List.set_cons_succ])
        have HKw11 := Lib.hid (HKw10.out.new hb11)
        have HRw11 := Lib.hid hr11
        clear hb11 hr11
        iterate 1 (refine PlanB.take (v := ?_) rfl rfl ?_ ?_; rotate_left; (focus (intro W hW; skip; go_simp; (try with_reducible rfl); done)); (try simp only [Act.put, List.setIfInBounds_toArray, List.set_cons_zero, List.set_cons_succ]))
        refine PlanB.step rfl rfl (fun Kk hKk => ?_)
        go_simp
        have hS := sameS_eq tk (by omega) (.slice A11 tk.chests.length n11) (.slice B tk.chests.length d) w11 HRw11.out (((HU.out.below (HBS.out.trans (HKw11.out.bl.mono (by omega))) (Nat.le_refl _))).mono (HBS.out.trans (HKw11.out.bl.mono (by omega))).size)
        unfold sval at hS
        refine hS.mono ?_
        rintro e w12 ⟨rfl, hb12⟩
        refine hKk.out _ _ hb12 ?_
        clear hKk Kk hS
        (try simp only [Act.put, List.setIfInBounds_toArray, List.set_cons_zero, List.set_cons_succ])
        have HKw12 := Lib.hid (HKw11.out.new hb12)
        clear hb12
        iterate 3 (refine PlanB.take (v := ?_) rfl rfl ?_ ?_; rotate_left; (focus (intro W hW; skip; go_simp; (try with_reducible rfl); done)); (try simp only [Act.put, List.setIfInBounds_toArray, List.set_cons_zero, List.set_cons_succ]))
        simp only [PlanB]
        clear f0 f1 f2 n1 n2
        go_wp2_with fail
        go_roundw
        case rel => exact ⟨i + 1, q8, G8, c7, (b61, b62), by omega, by go_num, rfl, HKw12.out⟩
        case measure => simp [intOf]; omega
end Go.Proofs.Ythoheikbpihflaa

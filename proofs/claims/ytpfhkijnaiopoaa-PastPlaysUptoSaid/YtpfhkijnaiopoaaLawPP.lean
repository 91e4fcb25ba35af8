/- PastPlays's walk. -/
import Derived.Test.YtpfhkijnaiopoaaPActs
import Derived.Deep.CutBlock
import Derived.Deep.DeepCutAuto
import Derived.Deep.Cut
import Derived.Deep.CutRange
namespace Go.Proofs.Ytpfhkijnaiopoaa
open Go.RowKit
attribute [local go_sem] less_eq same_eq le_eq ge_eq gt_eq

def bulk (l : List PAct) : Nat := (l.map fun a => a.l.length).sum
theorem bulk_drop (l : List PAct) (i : Nat) (h : i < l.length) : bulk (l.drop i) = l[i].l.length + bulk (l.drop (i + 1)) := by
  unfold bulk
  rw [List.drop_eq_getElem_cons h, List.map_cons, List.sum_cons]
theorem smallP_le {ps : Prs} (hs : ∀ p ∈ ps, smallS p.1 ∧ smallS p.2) : ∀ p ∈ ps, p.1.size < 4611686018427387904 ∧ p.2.size < 4611686018427387904 := hs

set_option maxHeartbeats 8000000 in
set_option maxRecDepth 100000 in
theorem pastPlays_bad (v : Int) (ps : Prs) (vp va : Value) (w : World) (hv : I64 v) (hp : RdP w w.heap.size vp ps) (hps : ∀ p ∈ ps, smallS p.1 ∧ smallS p.2) (hn : ps.length ≤ many) (hbad : v < 0 ∨ (¬ v < 0 ∧ soundP ps = false)) :
    Calls Try.prog 3 #[.int .i64 v, vp, va] w fun e w' => e = .returned (.bool true) ∧ Below w.heap.size w w' := by
  have HF := Lib.hid (pfrom_bad v ps vp w hv hp (smallP_le hps) hn (hbad.imp id (fun h => h.2)))
  have HPS := Lib.hid hps
  have HP := Lib.hid hp
  have HS := Lib.hid (show ∀ W, Below w.heap.size w W → Calls Try.prog 11 #[vp] W fun e w' => e = .returned (.bool (soundP ps)) ∧ Below W.heap.size W w' from fun W hW => rsound_any ps (smallP_le hps) vp W ((hp.below hW (Nat.le_refl _)).mono hW.size) (by have : many = 3000000 := rfl; omega))
  clear hp hps
  rcases hbad with h1 | ⟨h1, h2⟩
  · rw [if_pos h1] at HF
    go_enter Try.func3, Try.ntmps3
    go_wp2_with fail
    refine HF.out.mono ?_
    rintro e w1 ⟨rfl, hb1⟩
    have HA := Lib.hid (awake_any w1)
    have HB := Lib.hid hb1
    clear hb1 HF
    go_wp2_with fail
    refine HA.out.mono ?_
    rintro e w2 ⟨rfl, hb2⟩
    have HB2 := Lib.hid (HB.out.trans (hb2.mono HB.out.size))
    clear hb2 HA
    go_wp2_with fail
    go_ret
    exact ⟨rfl, HB2.out⟩
  · rw [if_neg h1] at HF
    go_enter Try.func3, Try.ntmps3
    go_wp2_with fail
    refine HF.out.mono ?_
    rintro e w1 ⟨rfl, hb1⟩
    have hs1 := HS.out w1 hb1
    rw [h2] at hs1
    have HS1 := Lib.hid hs1
    have HB := Lib.hid hb1
    clear hb1 hs1 HF
    go_wp2_with fail
    refine HS1.out.mono ?_
    rintro e w2 ⟨rfl, hb2⟩
    have HB2 := Lib.hid (HB.out.trans (hb2.mono HB.out.size))
    have HA := Lib.hid (awake_any w2)
    clear hb2 HS1
    go_wp2_with fail
    refine HA.out.mono ?_
    rintro e w3 ⟨rfl, hb3⟩
    have HB3 := Lib.hid (HB2.out.trans (hb3.mono HB2.out.size))
    clear hb3 HA
    go_wp2_with fail
    go_ret
    exact ⟨rfl, HB3.out⟩

set_option maxHeartbeats 8000000 in
set_option maxRecDepth 100000 in
theorem pastPlays_good (v : Int) (ps : Prs) (l : List PAct) (vp va : Value) (w : World) (hv : I64 v) (hp : RdP w w.heap.size vp ps) (hps : ∀ p ∈ ps, smallS p.1 ∧ smallS p.2) (hva : Rd encPA 7 w w.heap.size va l)
    (hall : ∀ a ∈ l, I64 a.ver ∧ I64 a.most ∧ smallS a.key ∧ smallS a.span.1 ∧ smallS a.span.2 ∧ RdC w w.heap.size a.v a.l ∧ ∀ c ∈ a.l, smallC c) (hl : l.length ≤ 1000000000000) (hbud : ps.length + bulk l ≤ many) (h0 : ¬ v < 0) (hgood : soundP ps = true) :
    Calls Try.prog 3 #[.int .i64 v, vp, va] w fun e w' => e = .returned (.bool true) ∧ Below w.heap.size w w' := by
  have HF := Lib.hid (pfrom_any v ps vp w hv (by omega) hp hgood (by omega))
  have HS := Lib.hid (show ∀ W, Below w.heap.size w W → Calls Try.prog 11 #[vp] W fun e w' => e = .returned (.bool true) ∧ Below W.heap.size W w' from fun W hW => by
    have := rsound_any ps (smallP_le hps) vp W ((hp.below hW (Nat.le_refl _)).mono hW.size) (by have : many = 3000000 := rfl; omega)
    rwa [hgood] at this)
  obtain ⟨A, cl, rfl, hc, -⟩ := RdPA.at hva
  obtain ⟨Ap, cp, rfl, hcp, -⟩ := RdP.at hp
  have HP := Lib.hid hp
  have HV := Lib.hid hva
  have HALL := Lib.hid hall
  have HBD := Lib.hid hbud
  clear hp hva hall hps hbud
  go_enter Try.func3, Try.ntmps3
  go_wp2_with fail
  refine HF.out.mono ?_
  rintro e w1 ⟨q, G0, rfl, hk1, hb1⟩
  have HS1 := Lib.hid (HS.out w1 hb1)
  have HK := Lib.hid hk1
  have HB := Lib.hid hb1
  clear hk1 hb1 HF HS
  go_wp2_with fail
  refine HS1.out.mono ?_
  rintro e w2 ⟨rfl, hb2⟩
  have HK2 := Lib.hid (HK.out.same hb2)
  have HB2 := Lib.hid (HB.out.trans (hb2.mono HB.out.size))
  have HA := Lib.hid (awake_any w2)
  clear hb2 HS1 HK HB
  go_wp2_with fail
  refine HA.out.mono ?_
  rintro e w3 ⟨rfl, hb3⟩
  have HK3 := Lib.hid (HK2.out.same hb3)
  have HB3 := Lib.hid (HB2.out.trans (hb3.mono HB2.out.size))
  have HRF := Lib.hid (rfrom_any v ps Ap cp G0 w3 ((RdG.of (G := G0) (HP.out.below HB3.out (Nat.le_refl _)) fun b hb hg => by have := (HK3.out.low.2 b hg).1; omega).mono HB3.out.size fun _ _ h => h))
  clear hb3 HA HK2 HB2
  go_wp2_with fail
  refine HRF.out.mono ?_
  rintro e w4 ⟨r, ov0, rfl, hr4, hb4⟩
  have HM0 := Lib.hid (show Mid w4 w.heap.size q r G0 ov0 ps.length (Pa.from_ v ps) (Pa.from_ v ps) from
    ⟨HK3.out.same hb4, ⟨hr4.blk.imp fun A h => h.imp fun cap h => h.imp fun rs h => ⟨h.1, h.2.1.lower HB3.out.size, h.2.2⟩, ⟨Nat.le_trans HB3.out.size hr4.low.1, Nat.le_trans HB3.out.size hr4.low.2⟩⟩, fun hg => by have := (HK3.out.low.2 r hg).2; have := hr4.low.1; omega, fun g hg he => by have := (HK3.out.low.2 g he).2; have := (hr4.row hg).1; omega⟩)
  have HB4 := Lib.hid (HB3.out.trans (hb4.mono HB3.out.size))
  clear hr4 hb4 HRF HK3 HB3
  go_wp2_with fail
  go_loopw [11] (fun iv wr => ∃ (i : Nat) (G : Nat → Prop) (ov : Option Nat) (n : Nat) (p : Pa), i ≤ 60 ∧ iv = .int .i64 (i : Int) ∧ Mid wr w.heap.size q r G ov n p p ∧ Fit p n (i + 1) ∧ n + bulk (l.drop i) ≤ many ∧ Below w.heap.size w wr) (fun iv _ => 60 - (intOf iv).toNat)
  case atStart => exact ⟨0, G0, ov0, ps.length, _, by omega, rfl, HM0.out, ⟨Nat.le_refl _, fun x hx => by rw [List.mem_singleton.1 hx]; exact Nat.le_refl _⟩, HBD.out, HB4.out⟩
  case round =>
    obtain ⟨i, G, ov, n, p, hi3, rfl, hm, hfit, hbudg, hb⟩ := hrel
    have HM := Lib.hid hm
    have HB := Lib.hid hb
    have HFIT := Lib.hid hfit
    have hbs := hb.size
    clear hm hb hfit HM0 HB4
    by_cases hgo : i < l.length ∧ i < 60
    · obtain ⟨hil, hi4⟩ := hgo
      have h1 : (i : Int) < (l.length : Int) := by omega
      have h2 : (i : Int) < 60 := by omega
      have hi0 : (0 : Int) ≤ (i : Int) := by omega
      obtain ⟨A', c', e, -, hcell⟩ := RdPA.at (HV.out.below HB.out (Nat.le_refl _))
      injection e with e1 e2 e3
      subst e1 e3
      obtain ⟨ba, o, rfl, hbl, q0, q1, q2, q3, q4, q5, q6⟩ := hcell i hil
      clear hcell
      rw [bulk_drop l i hil] at hbudg
      obtain ⟨hver, hmost, hkey, hs1, hs2, hrd, hsm⟩ := HALL.out l[i] (List.getElem_mem hil)
      generalize l[i] = a at q0 q1 q2 q3 q4 q5 q6 hver hmost hkey hs1 hs2 hrd hsm hbudg
      obtain ⟨what, ver, most, key, ⟨s1, s2⟩, av, al⟩ := a
      simp only at q0 q1 q2 q3 q4 q5 q6 hver hmost hkey hs1 hs2 hrd hsm hbudg
      obtain ⟨A1, c1, rfl, -, -⟩ := RdC.at hrd
      have HRD := Lib.hid hrd
      have HBUD := Lib.hid hbudg
      clear hrd hbudg
      go_upto_block 2 with fail
      have hG : Whole (wr.alloc (.cells #[.int .i64 what, .int .i64 ver, .int .i64 most, .string key, .string s1, .string s2, .slice A1 al.length c1] 36)) wr.heap.size 36 [.int .i64 what, .int .i64 ver, .int .i64 most, .string key, .string s1, .string s2, .slice A1 al.length c1] := Whole.fresh wr _ [_, _, _, _, _, _, _]
      have hmv : Below wr.heap.size wr (wr.alloc (.cells #[.int .i64 what, .int .i64 ver, .int .i64 most, .string key, .string s1, .string s2, .slice A1 al.length c1] 36)) := (Below.refl wr.heap.size wr).alloc (Nat.le_refl _) _
      have HNG := Lib.hid (HM.out.fresh (Nat.le_refl _))
      have HM4 := Lib.hid (HM.out.same hmv)
      have HB4 := Lib.hid (HB.out.trans (hmv.mono hbs))
      have HG := Lib.hid hG
      clear q0 q1 q2 q3 q4 q5 q6 hG hmv h1 h2 hi0 HM HB hbs
      generalize (wr.alloc (.cells #[.int .i64 what, .int .i64 ver, .int .i64 most, .string key, .string s1, .string s2, .slice A1 al.length c1] 36)) = w4 at HG HM4 HB4 ⊢
      generalize wr.heap.size = gA at HG HNG ⊢
      go_cut [13, 14] (fun fv gv wx => ∃ (e : Int) (G' : Nat → Prop) (ov' : Option Nat) (n' : Nat) (p' : Pa), fv = .int .i64 e ∧ gv = .int .i64 e ∧ Mid wx w.heap.size q r G' ov' n' p' p' ∧ Fit p' n' (i + 1 + 1) ∧ n' + bulk (l.drop (i + 1)) ≤ many ∧ Below w.heap.size w wx)
      case first =>
        have hwhat : what = 0 ∨ what = 1 ∨ what = 2 ∨ what = 3 ∨ what = 4 ∨ what = 5 ∨ (¬ what = 0 ∧ ¬ what = 1 ∧ ¬ what = 2 ∧ ¬ what = 3 ∧ ¬ what = 4 ∧ ¬ what = 5) := by omega
        rcases hwhat with rfl | rfl | rfl | rfl | rfl | rfl | ⟨g0, g1, g2, g3, g4, g5⟩
        · skip
          have HC := Lib.hid (padd_any w.heap.size q n G p ver al _ w4 HM4.out.pa hver (HM4.out.came (Nat.le_refl _) (HRD.out.below HB4.out (Nat.le_refl _))) hsm (by have := HBUD.out; omega))
          have k1 := HG.out.cell 1 _ rfl
          have k6 := HG.out.cell 6 _ rfl
          go_wp2_with fail
          refine HC.out.mono ?_
          rintro e w5 ⟨rfl, G5, hk5, hG5, hm5⟩
          have HM5 := Lib.hid (HM4.out.prog hk5 hG5 hm5)
          have HG5 := Lib.hid (hm5.whole HG.out HNG.out)
          have HB5 := Lib.hid (HB4.out.trans (pv_below HM4.out.pa hm5))
          have HR := Lib.hid (radd_any w.heap.size r ov G5 p ver al _ w5 HM5.out.ref (fun i hi => (HM5.out.pa.low.2 i hi).2) (by have := HFIT.out.1; omega) ((HRD.out.below HB5.out (Nat.le_refl _)).mono (by have := HB5.out.size; omega)) hsm (by have := HFIT.out.at_ p.last; have := HBUD.out; have : many = 3000000 := rfl; omega))
          clear hk5 hG5 hm5 HC k1 k6
          have k1 := HG5.out.cell 1 _ rfl
          have k6 := HG5.out.cell 6 _ rfl
          go_wp2_with fail
          refine HR.out.mono ?_
          rintro e w6 ⟨rfl, ov6, hw⟩
          have HM6 := Lib.hid (HM5.out.went hw)
          have HB6 := Lib.hid (HB5.out.trans (hw.below HM5.out.ref))
          clear hw HR k1 k6
          go_wp2_with fail
          go_meet
          case rel => exact ⟨_, _, _, _, _, rfl, rfl, HM6.out, HFIT.out.add ver al, by have := HBUD.out; omega, HB6.out⟩
        · skip
          have HC := Lib.hid (padd_any w.heap.size q n G p ver al _ w4 HM4.out.pa hver (HM4.out.came (Nat.le_refl _) (HRD.out.below HB4.out (Nat.le_refl _))) hsm (by have := HBUD.out; omega))
          have k1 := HG.out.cell 1 _ rfl
          have k6 := HG.out.cell 6 _ rfl
          go_wp2_with fail
          refine HC.out.mono ?_
          rintro e w5 ⟨rfl, G5, hk5, hG5, hm5⟩
          have HM5 := Lib.hid (HM4.out.prog hk5 hG5 hm5)
          have HG5 := Lib.hid (hm5.whole HG.out HNG.out)
          have HB5 := Lib.hid (HB4.out.trans (pv_below HM4.out.pa hm5))
          have HR := Lib.hid (radd_any w.heap.size r ov G5 p ver al _ w5 HM5.out.ref (fun i hi => (HM5.out.pa.low.2 i hi).2) (by have := HFIT.out.1; omega) ((HRD.out.below HB5.out (Nat.le_refl _)).mono (by have := HB5.out.size; omega)) hsm (by have := HFIT.out.at_ p.last; have := HBUD.out; have : many = 3000000 := rfl; omega))
          clear hk5 hG5 hm5 HC k1 k6
          have k1 := HG5.out.cell 1 _ rfl
          have k6 := HG5.out.cell 6 _ rfl
          go_wp2_with fail
          refine HR.out.mono ?_
          rintro e w6 ⟨rfl, ov6, hw⟩
          have HM6 := Lib.hid (HM5.out.went hw)
          have HB6 := Lib.hid (HB5.out.trans (hw.below HM5.out.ref))
          clear hw HR k1 k6
          go_wp2_with fail
          go_meet
          case rel => exact ⟨_, _, _, _, _, rfl, rfl, HM6.out, HFIT.out.add ver al, by have := HBUD.out; omega, HB6.out⟩
        · skip
          have HC := Lib.hid (padd_any w.heap.size q n G p ver al _ w4 HM4.out.pa hver (HM4.out.came (Nat.le_refl _) (HRD.out.below HB4.out (Nat.le_refl _))) hsm (by have := HBUD.out; omega))
          have k1 := HG.out.cell 1 _ rfl
          have k6 := HG.out.cell 6 _ rfl
          go_wp2_with fail
          refine HC.out.mono ?_
          rintro e w5 ⟨rfl, G5, hk5, hG5, hm5⟩
          have HM5 := Lib.hid (HM4.out.prog hk5 hG5 hm5)
          have HG5 := Lib.hid (hm5.whole HG.out HNG.out)
          have HB5 := Lib.hid (HB4.out.trans (pv_below HM4.out.pa hm5))
          have HR := Lib.hid (radd_any w.heap.size r ov G5 p ver al _ w5 HM5.out.ref (fun i hi => (HM5.out.pa.low.2 i hi).2) (by have := HFIT.out.1; omega) ((HRD.out.below HB5.out (Nat.le_refl _)).mono (by have := HB5.out.size; omega)) hsm (by have := HFIT.out.at_ p.last; have := HBUD.out; have : many = 3000000 := rfl; omega))
          clear hk5 hG5 hm5 HC k1 k6
          have k1 := HG5.out.cell 1 _ rfl
          have k6 := HG5.out.cell 6 _ rfl
          go_wp2_with fail
          refine HR.out.mono ?_
          rintro e w6 ⟨rfl, ov6, hw⟩
          have HM6 := Lib.hid (HM5.out.went hw)
          have HB6 := Lib.hid (HB5.out.trans (hw.below HM5.out.ref))
          clear hw HR k1 k6
          go_wp2_with fail
          go_meet
          case rel => exact ⟨_, _, _, _, _, rfl, rfl, HM6.out, HFIT.out.add ver al, by have := HBUD.out; omega, HB6.out⟩
        · skip
          have HC := Lib.hid (pget_any w.heap.size q n G p key ver w4 HM4.out.pa hver hkey)
          obtain ⟨⟨⟨RS, RB⟩, RE⟩, hX⟩ : ∃ X, X = p.get key ver := ⟨_, rfl⟩
          rw [← hX] at HC
          have HX := Lib.hid hX
          clear hX
          have k1 := HG.out.cell 1 _ rfl
          have k3 := HG.out.cell 3 _ rfl
          go_wp2_with fail
          refine HC.out.mono ?_
          rintro e w5 ⟨rfl, hb5⟩
          have HM5 := Lib.hid (HM4.out.same hb5)
          have HG5 := Lib.hid (HG.out.below hb5 HG.out.size)
          have HB5 := Lib.hid (HB4.out.trans (hb5.mono HB4.out.size))
          have hrg := rget_any w.heap.size r ov G p key ver w5 HM5.out.ref (by have := HFIT.out.at_ ver; have := HBUD.out; have : many = 3000000 := rfl; omega)
          rw [← HX.out] at hrg
          have HR := Lib.hid hrg
          clear hb5 hrg HC k1 k3
          have k1 := HG5.out.cell 1 _ rfl
          have k3 := HG5.out.cell 3 _ rfl
          go_wp2_with fail
          refine HR.out.mono ?_
          rintro e w6 ⟨rfl, hb6⟩
          have HM6 := Lib.hid (HM5.out.same hb6)
          have HB6 := Lib.hid (HB5.out.trans (hb6.mono HB5.out.size))
          clear hb6 HR k1 k3
          cases RB
          all_goals
            go_wp2_with fail
            go_meet
            case rel => exact ⟨_, _, _, _, _, rfl, rfl, HM6.out, HFIT.out.mono (Nat.le_refl _) (Nat.le_succ _), by have := HBUD.out; omega, HB6.out⟩
        · skip
          have HC := Lib.hid (plist_any w.heap.size q n G p (s1, s2) ver most w4 HM4.out.pa hver hmost hs1 hs2)
          obtain ⟨⟨RL, RE⟩, hX⟩ : ∃ X, X = p.list (s1, s2) ver most := ⟨_, rfl⟩
          have hrl := list_le HFIT.out (s1, s2) ver most
          rw [← hX] at HC hrl
          have HX := Lib.hid hX
          have HRL := Lib.hid hrl
          clear hX hrl
          unfold spv at HC
          simp only at HC
          have k1 := HG.out.cell 1 _ rfl
          have k2 := HG.out.cell 2 _ rfl
          have k4 := HG.out.cell 4 _ rfl
          have k5 := HG.out.cell 5 _ rfl
          go_wp2_with fail
          refine HC.out.mono ?_
          rintro e w5 ⟨A5, c5, rfl, hr5, hb5⟩
          have HM5 := Lib.hid (HM4.out.same hb5)
          have HG5 := Lib.hid (HG.out.below hb5 HG.out.size)
          have HB5 := Lib.hid (HB4.out.trans (hb5.mono HB4.out.size))
          have hrg := rlist_any w.heap.size r ov G p (s1, s2) ver most w5 HM5.out.ref (by have := HFIT.out.at_ ver; have := HBUD.out; have : many = 3000000 := rfl; omega) (by have := hmost.2; omega)
          rw [← HX.out] at hrg
          have HR := Lib.hid hrg
          have HX5 := Lib.hid hr5.rd
          clear hb5 hrg hr5 HC k1 k2 k4 k5
          unfold spv at HR
          simp only at HR
          have k1 := HG5.out.cell 1 _ rfl
          have k2 := HG5.out.cell 2 _ rfl
          have k4 := HG5.out.cell 4 _ rfl
          have k5 := HG5.out.cell 5 _ rfl
          go_wp2_with fail
          refine HR.out.mono ?_
          rintro e w6 ⟨A6, c6, rfl, ho6, hb6⟩
          have HM6 := Lib.hid (HM5.out.same hb6)
          have HB6 := Lib.hid (HB5.out.trans (hb6.mono HB5.out.size))
          have hpr := pairs_any RL RL _ _ w6 (HX5.out.next hb6) (Own.rd cellsS_len ho6) (by have := HRL.out; have := HBUD.out; have : many = 3000000 := rfl; omega) (by have := HRL.out; have := HBUD.out; have : many = 3000000 := rfl; omega)
          rw [show decide (RL = RL) = true from decide_eq_true rfl] at hpr
          have HPR := Lib.hid hpr
          clear hb6 ho6 HR hpr k1 k2 k4 k5
          go_wp2_with fail
          refine HPR.out.mono ?_
          rintro e w7 ⟨rfl, hb7⟩
          have HM7 := Lib.hid (HM6.out.same hb7)
          have HB7 := Lib.hid (HB6.out.trans (hb7.mono HB6.out.size))
          clear hb7 HPR
          go_wp2_with fail
          go_meet
          case rel => exact ⟨_, _, _, _, _, rfl, rfl, HM7.out, HFIT.out.mono (Nat.le_refl _) (Nat.le_succ _), by have := HBUD.out; omega, HB7.out⟩
        · skip
          have HC := Lib.hid (pforget_any w.heap.size q n G p ver w4 HM4.out.pa hver)
          have k1 := HG.out.cell 1 _ rfl
          go_wp2_with fail
          refine HC.out.mono ?_
          rintro e w5 ⟨rfl, G5, hk5, hG5, hm5⟩
          have HM5 := Lib.hid (HM4.out.prog hk5 hG5 hm5)
          have HG5 := Lib.hid (hm5.whole HG.out HNG.out)
          have HB5 := Lib.hid (HB4.out.trans (pv_below HM4.out.pa hm5))
          have HR := Lib.hid (rforget_any w.heap.size r ov G5 p ver w5 HM5.out.ref)
          clear hk5 hG5 hm5 HC k1
          have k1 := HG5.out.cell 1 _ rfl
          go_wp2_with fail
          refine HR.out.mono ?_
          rintro e w6 ⟨rfl, hw⟩
          have HM6 := Lib.hid (HM5.out.went hw)
          have HB6 := Lib.hid (HB5.out.trans (hw.below HM5.out.ref))
          clear hw HR k1
          go_wp2_with fail
          go_meet
          case rel => exact ⟨_, _, _, _, _, rfl, rfl, HM6.out, (HFIT.out.forget ver).mono (Nat.le_refl _) (Nat.le_succ _), by have := HBUD.out; omega, HB6.out⟩
        · skip
          have HC := Lib.hid (pback_any w.heap.size q n G p ver w4 HM4.out.pa hver)
          have k1 := HG.out.cell 1 _ rfl
          go_wp2_with fail
          refine HC.out.mono ?_
          rintro e w5 ⟨rfl, G5, hk5, hG5, hm5⟩
          have HM5 := Lib.hid (HM4.out.prog hk5 hG5 hm5)
          have HG5 := Lib.hid (hm5.whole HG.out HNG.out)
          have HB5 := Lib.hid (HB4.out.trans (pv_below HM4.out.pa hm5))
          have HR := Lib.hid (rback_any w.heap.size r ov G5 p ver w5 HM5.out.ref (fun i hi => (HM5.out.pa.low.2 i hi).2) (by have := HFIT.out.1; omega))
          clear hk5 hG5 hm5 HC k1
          have k1 := HG5.out.cell 1 _ rfl
          go_wp2_with fail
          refine HR.out.mono ?_
          rintro e w6 ⟨rfl, ov6, hw⟩
          have HM6 := Lib.hid (HM5.out.went hw)
          have HB6 := Lib.hid (HB5.out.trans (hw.below HM5.out.ref))
          clear hw HR k1
          go_wp2_with fail
          go_meet
          case rel => exact ⟨_, _, _, _, _, rfl, rfl, HM6.out, (HFIT.out.back ver).mono (Nat.le_refl _) (Nat.le_succ _), by have := HBUD.out; omega, HB6.out⟩
      case rest =>
        obtain ⟨e, G5, ov5, n5, p5, rfl, rfl, hm, hfit, hbudg, hb⟩ := hcut
        have HM5 := Lib.hid hm
        have HB5 := Lib.hid hb
        have HFIT5 := Lib.hid hfit
        have HBUD5 := Lib.hid hbudg
        have HEN := Lib.hid (pends_any w.heap.size q n5 G5 p5 wc hm.pa)
        clear hm hb hfit hbudg HM4 HB4 HG HNG HRD HBUD
        go_wp2_with fail
        refine HEN.out.mono ?_
        rintro e w7 ⟨rfl, hb7⟩
        have hm7 := HM5.out.same hb7
        obtain ⟨A8, cap8, rs8, hW8, -⟩ := hm7.ref.blk
        have k1 := hW8.cell 1 _ rfl
        have k2 := hW8.cell 2 _ rfl
        have HM7 := Lib.hid hm7
        have HB7 := Lib.hid (HB5.out.trans (hb7.mono HB5.out.size))
        clear hb7 hm7 hW8 HEN HM5 HB5
        go_wp2_with fail
        go_roundw
        case rel => exact ⟨i + 1, G5, ov5, n5, p5, by omega, by go_num, HM7.out, HFIT5.out, HBUD5.out, HB7.out⟩
        case measure => simp [intOf]; omega
    · have hex : ¬ ((i : Int) < (l.length : Int)) ∨ ((i : Int) < (l.length : Int) ∧ ¬ ((i : Int) < 60)) := by omega
      clear hgo
      rcases hex with h1 | ⟨h1, h2⟩
      all_goals
        go_wp2_with fail
        go_ret
        exact ⟨rfl, HB.out⟩
end Go.Proofs.Ytpfhkijnaiopoaa

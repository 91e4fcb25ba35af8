/- BagPlays's walk. -/
import Derived.Test.YtjkhdlmdgdcimaaBgActs
import Derived.Deep.CutBlock
import Derived.Deep.DeepCutAuto
import Derived.Deep.Cut
import Derived.Deep.CutRange
namespace Go.Proofs.Ytjkhdlmdgdcimaa
open Go.RowKit
attribute [local go_sem] same_str

set_option maxHeartbeats 8000000 in
set_option maxRecDepth 100000 in
theorem bagPlays_walk (room : Int) (l : List GAct) (v : Value) (w : World) (hv : Rd encGA 5 w w.heap.size v l) (hl : l.length ≤ 140737488351232) (hall : ∀ a ∈ l, RdB w w.heap.size a.v a.l ∧ a.l.length ≤ 140737488351232) :
    Calls Try.prog 3 #[.int .i64 room, v] w fun e w' => e = .returned (.bool true) ∧ Below w.heap.size w w' := by
  obtain ⟨A, c, rfl, hc, -⟩ := RdGA.at hv
  have HV := Lib.hid hv; clear hv
  have HALL := Lib.hid hall; clear hall
  by_cases hbad : room < 0 ∨ 4096 < room
  · have HN := Lib.hid (bnew_bad room hbad w)
    have hb2 : room < 0 ∨ (¬ room < 0 ∧ 4096 < room) := by omega
    clear hbad
    rcases hb2 with h1 | ⟨h1, h2⟩
    · go_enter Try.func3, Try.ntmps3
      go_wp2_with fail
      refine HN.out.mono ?_
      rintro e w1 ⟨rfl, hb⟩
      have HA := Lib.hid (awake_any w1)
      have HB1 := Lib.hid hb; clear hb
      go_wp2_with fail
      refine HA.out.mono ?_
      rintro e w2 ⟨rfl, hb⟩
      have HB := Lib.hid (HB1.out.trans (hb.mono HB1.out.size)); clear hb
      go_wp2_with fail
      go_ret
      exact ⟨rfl, HB.out⟩
    · go_enter Try.func3, Try.ntmps3
      go_wp2_with fail
      refine HN.out.mono ?_
      rintro e w1 ⟨rfl, hb⟩
      have HA := Lib.hid (awake_any w1)
      have HB1 := Lib.hid hb; clear hb
      go_wp2_with fail
      refine HA.out.mono ?_
      rintro e w2 ⟨rfl, hb⟩
      have HB := Lib.hid (HB1.out.trans (hb.mono HB1.out.size)); clear hb
      go_wp2_with fail
      go_ret
      exact ⟨rfl, HB.out⟩
  · have g0 : ¬ room < 0 := by omega
    have g1 : ¬ 4096 < room := by omega
    have hrn : ((room.toNat : Nat) : Int) = room := by omega
    have HN := Lib.hid (bnew_any room (by omega) (by omega) w)
    have HRN := Lib.hid hrn
    have HOK := Lib.hid (Bg.Ok.new (room := room) (by omega) (by omega))
    clear hbad hrn
    go_enter Try.func3, Try.ntmps3
    go_wp2_with fail
    refine HN.out.mono ?_
    rintro e w1 ⟨q, G0, rfl, ht, hb⟩
    have HA := Lib.hid (awake_any w1)
    have H1 := Lib.hid ht; clear ht HN
    have HB := Lib.hid hb; clear hb
    go_wp2_with fail
    refine HA.out.mono ?_
    rintro e w2 ⟨rfl, hb⟩
    have H2 := Lib.hid (H1.out.mv (Mv.of_new hb (fun _ => False)) (fun _ _ h => h))
    have HB2 := Lib.hid (HB.out.trans (hb.mono HB.out.size))
    clear hb HA H1 HB
    go_wp2_with fail
    have hmv : Mv (fun _ => False) w2 (w2.alloc (.cells #[.slice none 0 0, .int .i64 room] 31)) := (Mv.refl _ w2).alloc _
    have hr2 : RbAt (w2.alloc (.cells #[.slice none 0 0, .int .i64 room] 31)) w.heap.size w2.heap.size none ⟨room.toNat, []⟩ :=
      ⟨none, 0, 0, by simp only; rw [HRN.out]; exact Whole.fresh w2 _ [_, _], rfl, Own.nil _ _, rfl, HB2.out.size, Nat.le_trans HB2.out.size hmv.size, HOK.out⟩
    have hm3 : Mid (w2.alloc (.cells #[.slice none 0 0, .int .i64 room] 31)) w.heap.size q w2.heap.size G0 none ⟨room.toNat, []⟩ ⟨room.toNat, []⟩ :=
      ⟨H2.out.mv hmv (fun _ _ h => h), hr2, fun e => by have := (H2.out.low.2 _ e).2; omega, fun g hg => by cases hg⟩
    have hb3 : Below w.heap.size w (w2.alloc (.cells #[.slice none 0 0, .int .i64 room] 31)) := HB2.out.alloc HB2.out.size _
    have HM3 := Lib.hid hm3
    have HB3 := Lib.hid hb3
    clear H2 HB2 g0 g1 hmv hr2 hm3 hb3 HOK HRN
    generalize (w2.alloc (.cells #[.slice none 0 0, .int .i64 room] 31)) = w3 at HM3 HB3 ⊢
    generalize w2.heap.size = r at HM3 HB3 ⊢
    go_loopw [8] (fun iv wr => ∃ (i : Nat) (G : Nat → Prop) (ov : Option Nat) (b : Bg), i ≤ 100 ∧ iv = .int .i64 (i : Int) ∧ Mid wr w.heap.size q r G ov b b ∧ Below w.heap.size w wr) (fun iv _ => 100 - (intOf iv).toNat)
    case atStart => exact ⟨0, G0, none, _, by omega, rfl, HM3.out, HB3.out⟩
    case round =>
      obtain ⟨i, G, ov, b, hi3, rfl, hm, hb⟩ := hrel
      have HM := Lib.hid hm
      have HB := Lib.hid hb
      have hbs := hb.size
      clear hm hb HM3 HB3
      by_cases hgo : i < l.length ∧ i < 100
      · obtain ⟨hil, hi4⟩ := hgo
        have h1 : (i : Int) < (l.length : Int) := by omega
        have h2 : (i : Int) < 100 := by omega
        obtain ⟨A', c', e, -, hcell⟩ := RdGA.at (HV.out.below HB.out (Nat.le_refl _))
        injection e with e1 e2 e3
        subst e1 e3
        obtain ⟨ba, o, rfl, hbl, q0, q1, q2, q3, q4⟩ := hcell i hil
        clear hcell
        obtain ⟨hrd, hlen⟩ := HALL.out l[i] (List.getElem_mem hil)
        generalize l[i] = a at q0 q1 q2 q3 q4 hrd hlen
        obtain ⟨what, n, at_, av, al, turn⟩ := a
        simp only at q0 q1 q2 q3 q4 hrd hlen
        obtain ⟨A1, c1, rfl, -, -⟩ := RdB.at hrd
        have HRD := Lib.hid hrd; clear hrd
        go_upto_block 2 with fail
        have hsz : wr.heap.size ≤ (wr.alloc (.cells #[.int .i64 what, .int .i64 n, .int .i64 at_, .slice A1 al.length c1, .int .u8 (turn.toNat : Int)] 34)).heap.size := by simp
        have hG : Whole ((wr.alloc (.cells #[.int .i64 what, .int .i64 n, .int .i64 at_, .slice A1 al.length c1, .int .u8 (turn.toNat : Int)] 34)).alloc (.cells #[.int .i64 0, .string ⟨#[]⟩, .bool false] 36)) wr.heap.size 34 _ := ((Mv.refl (fun _ => False) (wr.alloc (.cells #[.int .i64 what, .int .i64 n, .int .i64 at_, .slice A1 al.length c1, .int .u8 (turn.toNat : Int)] 34))).alloc (.cells #[.int .i64 0, .string ⟨#[]⟩, .bool false] 36)).whole (Whole.fresh wr _ [_, _, _, _, _]) (fun h => h)
        have hL : Whole ((wr.alloc (.cells #[.int .i64 what, .int .i64 n, .int .i64 at_, .slice A1 al.length c1, .int .u8 (turn.toNat : Int)] 34)).alloc (.cells #[.int .i64 0, .string ⟨#[]⟩, .bool false] 36)) (wr.heap.size + 1) 36 [.int .i64 0, .string (strB []), .bool false] := by
          have := Whole.fresh (wr.alloc (.cells #[.int .i64 what, .int .i64 n, .int .i64 at_, .slice A1 al.length c1, .int .u8 (turn.toNat : Int)] 34)) 36 [.int .i64 0, .string ⟨#[]⟩, .bool false]
          rwa [show (wr.alloc (.cells #[.int .i64 what, .int .i64 n, .int .i64 at_, .slice A1 al.length c1, .int .u8 (turn.toNat : Int)] 34)).heap.size = wr.heap.size + 1 by simp] at this
        have hmv : Below wr.heap.size wr ((wr.alloc (.cells #[.int .i64 what, .int .i64 n, .int .i64 at_, .slice A1 al.length c1, .int .u8 (turn.toNat : Int)] 34)).alloc (.cells #[.int .i64 0, .string ⟨#[]⟩, .bool false] 36)) := ((Below.refl wr.heap.size wr).alloc (Nat.le_refl _) _).alloc hsz _
        have HOG := Lib.hid (show Off ((wr.alloc (.cells #[.int .i64 what, .int .i64 n, .int .i64 at_, .slice A1 al.length c1, .int .u8 (turn.toNat : Int)] 34)).alloc (.cells #[.int .i64 0, .string ⟨#[]⟩, .bool false] 36)) G r ov wr.heap.size from Off.fresh HM.out (Nat.le_refl _) (by simp; omega))
        have HOL := Lib.hid (show Off ((wr.alloc (.cells #[.int .i64 what, .int .i64 n, .int .i64 at_, .slice A1 al.length c1, .int .u8 (turn.toNat : Int)] 34)).alloc (.cells #[.int .i64 0, .string ⟨#[]⟩, .bool false] 36)) G r ov (wr.heap.size + 1) from Off.fresh HM.out (Nat.le_succ _) (by simp))
        have HM4 := Lib.hid (HM.out.same hmv)
        have HB4 := Lib.hid (HB.out.trans (hmv.mono hbs))
        have HG := Lib.hid hG
        have HL := Lib.hid hL
        have HGL := Lib.hid (show wr.heap.size ≠ wr.heap.size + 1 by omega)
        have HLB := Lib.hid (show w.heap.size ≤ wr.heap.size + 1 by omega)
        clear q0 q1 q2 q3 q4 hG hL hmv hsz h1 h2 HM HB hbs
        generalize ((wr.alloc (.cells #[.int .i64 what, .int .i64 n, .int .i64 at_, .slice A1 al.length c1, .int .u8 (turn.toNat : Int)] 34)).alloc (.cells #[.int .i64 0, .string ⟨#[]⟩, .bool false] 36)) = w4 at HG HL HM4 HB4 HOG HOL ⊢
        generalize wr.heap.size + 1 = gL at HL HOL HGL HLB ⊢
        generalize wr.heap.size = gA at HG HOG HGL ⊢
        go_cut [10, 11, 12, 13] (fun fv gv tv sv wx => ∃ (e : Int) (G' : Nat → Prop) (ov' : Option Nat) (b' : Bg) (X : Ltr), fv = .int .i64 e ∧ gv = .int .i64 e ∧ tv = .int .i64 X.to ∧ sv = .string (strB X.text) ∧ Mid wx w.heap.size q r G' ov' b' b' ∧ Whole wx gL 36 [.int .i64 X.to, .string (strB X.text), .bool X.sp] ∧ Below w.heap.size w wx)
        case first =>
          have y0 := HG.out.cell 0 _ rfl
          have y1 := HG.out.cell 1 _ rfl
          have y2 := HG.out.cell 2 _ rfl
          have y3 := HG.out.cell 3 _ rfl
          have y4 := HG.out.cell 4 _ rfl
          have HYR := Lib.hid (show ∀ w5, Below w.heap.size w w5 → RdB w5 w5.heap.size (.slice A1 al.length c1) al from fun w5 hb => ((HRD.out.below hb (Nat.le_refl _)).mono hb.size))
          have HYG := Lib.hid (show RdBG w4 w4.heap.size G (.slice A1 al.length c1) al from (RdBG.of (HRD.out.below HB4.out (Nat.le_refl _)) (fun b hb hg => by have := (HM4.out.bag.low.2 b hg).1; omega)).mono HB4.out.size (fun _ _ h => h))
          have hcase : what = 0 ∨ (¬ what = 0 ∧ what = 1) ∨ (¬ what = 0 ∧ ¬ what = 1 ∧ what = 2) ∨ what = 3 ∨ (¬ what = 3 ∧ what = 4) ∨ what = 5 ∨ (¬ what = 0 ∧ ¬ what = 1 ∧ ¬ what = 2 ∧ ¬ what = 3 ∧ ¬ what = 4 ∧ ¬ what = 5) := by omega
          rcases hcase with rfl | ⟨-, rfl⟩ | ⟨-, -, rfl⟩ | rfl | ⟨-, rfl⟩ | rfl | ⟨k0, k1, k2, k3, k4, k5⟩
          · have HC := Lib.hid (bsend_any w.heap.size q G b n al _ w4 HM4.out.bag HYG.out hlen)
            go_wp2_with fail
            refine HC.out.mono ?_
            rintro e w5 ⟨rfl, G5, hk5, hG5, hm5⟩
            have hM5 := HM4.out.prog hk5 hG5 hm5
            have hG := HOG.out.wprog hm5 HG.out
            have hL := HOL.out.wprog hm5 HL.out
            have HOG5 := Lib.hid (HOG.out.prog hG5 hm5.size)
            have HOL5 := Lib.hid (HOL.out.prog hG5 hm5.size)
            have HB5 := Lib.hid (HB4.out.trans (HM4.out.below hm5))
            have z0 := hG.cell 0 _ rfl
            have z1 := hG.cell 1 _ rfl
            have z2 := hG.cell 2 _ rfl
            have z3 := hG.cell 3 _ rfl
            have z4 := hG.cell 4 _ rfl
            have HC2 := Lib.hid (rsend_any w.heap.size r ov b n al (.slice A1 al.length c1) w5 hM5.ref (fun w6 hm => HYR.out w6 (HB5.out.trans (hm.below hM5.ref.low.2.2 (by rintro i (rfl | h); exact hM5.ref.low.1; exact (hM5.ref.row h.symm).1)))) hlen)
            have HM5 := Lib.hid hM5
            have HL5 := Lib.hid hL
            clear hk5 hG5 hm5 hM5 hG hL HC y0 y1 y2 y3 y4
            go_wp2_with fail
            refine HC2.out.mono ?_
            rintro e w6 ⟨rfl, ov6, hw⟩
            have HM6 := Lib.hid (HM5.out.refl' hw)
            have HL6 := Lib.hid (HOL5.out.wref hw.moved HL5.out)
            have HB6 := Lib.hid (HB5.out.trans (hw.below HM5.out.ref))
            clear hw HC2 z0 z1 z2 z3 z4
            go_wp2_with fail
            go_meet
            case rel => exact ⟨_, _, _, _, ⟨0, [], false⟩, rfl, rfl, rfl, rfl, HM6.out, HL6.out, HB6.out⟩
          · have HC := Lib.hid (bsend_any w.heap.size q G b n al _ w4 HM4.out.bag HYG.out hlen)
            go_wp2_with fail
            refine HC.out.mono ?_
            rintro e w5 ⟨rfl, G5, hk5, hG5, hm5⟩
            have hM5 := HM4.out.prog hk5 hG5 hm5
            have hG := HOG.out.wprog hm5 HG.out
            have hL := HOL.out.wprog hm5 HL.out
            have HOG5 := Lib.hid (HOG.out.prog hG5 hm5.size)
            have HOL5 := Lib.hid (HOL.out.prog hG5 hm5.size)
            have HB5 := Lib.hid (HB4.out.trans (HM4.out.below hm5))
            have z0 := hG.cell 0 _ rfl
            have z1 := hG.cell 1 _ rfl
            have z2 := hG.cell 2 _ rfl
            have z3 := hG.cell 3 _ rfl
            have z4 := hG.cell 4 _ rfl
            have HC2 := Lib.hid (rsend_any w.heap.size r ov b n al (.slice A1 al.length c1) w5 hM5.ref (fun w6 hm => HYR.out w6 (HB5.out.trans (hm.below hM5.ref.low.2.2 (by rintro i (rfl | h); exact hM5.ref.low.1; exact (hM5.ref.row h.symm).1)))) hlen)
            have HM5 := Lib.hid hM5
            have HL5 := Lib.hid hL
            clear hk5 hG5 hm5 hM5 hG hL HC y0 y1 y2 y3 y4
            go_wp2_with fail
            refine HC2.out.mono ?_
            rintro e w6 ⟨rfl, ov6, hw⟩
            have HM6 := Lib.hid (HM5.out.refl' hw)
            have HL6 := Lib.hid (HOL5.out.wref hw.moved HL5.out)
            have HB6 := Lib.hid (HB5.out.trans (hw.below HM5.out.ref))
            clear hw HC2 z0 z1 z2 z3 z4
            go_wp2_with fail
            go_meet
            case rel => exact ⟨_, _, _, _, ⟨0, [], false⟩, rfl, rfl, rfl, rfl, HM6.out, HL6.out, HB6.out⟩
          · have HC := Lib.hid (bsend_any w.heap.size q G b n al _ w4 HM4.out.bag HYG.out hlen)
            go_wp2_with fail
            refine HC.out.mono ?_
            rintro e w5 ⟨rfl, G5, hk5, hG5, hm5⟩
            have hM5 := HM4.out.prog hk5 hG5 hm5
            have hG := HOG.out.wprog hm5 HG.out
            have hL := HOL.out.wprog hm5 HL.out
            have HOG5 := Lib.hid (HOG.out.prog hG5 hm5.size)
            have HOL5 := Lib.hid (HOL.out.prog hG5 hm5.size)
            have HB5 := Lib.hid (HB4.out.trans (HM4.out.below hm5))
            have z0 := hG.cell 0 _ rfl
            have z1 := hG.cell 1 _ rfl
            have z2 := hG.cell 2 _ rfl
            have z3 := hG.cell 3 _ rfl
            have z4 := hG.cell 4 _ rfl
            have HC2 := Lib.hid (rsend_any w.heap.size r ov b n al (.slice A1 al.length c1) w5 hM5.ref (fun w6 hm => HYR.out w6 (HB5.out.trans (hm.below hM5.ref.low.2.2 (by rintro i (rfl | h); exact hM5.ref.low.1; exact (hM5.ref.row h.symm).1)))) hlen)
            have HM5 := Lib.hid hM5
            have HL5 := Lib.hid hL
            clear hk5 hG5 hm5 hM5 hG hL HC y0 y1 y2 y3 y4
            go_wp2_with fail
            refine HC2.out.mono ?_
            rintro e w6 ⟨rfl, ov6, hw⟩
            have HM6 := Lib.hid (HM5.out.refl' hw)
            have HL6 := Lib.hid (HOL5.out.wref hw.moved HL5.out)
            have HB6 := Lib.hid (HB5.out.trans (hw.below HM5.out.ref))
            clear hw HC2 z0 z1 z2 z3 z4
            go_wp2_with fail
            go_meet
            case rel => exact ⟨_, _, _, _, ⟨0, [], false⟩, rfl, rfl, rfl, rfl, HM6.out, HL6.out, HB6.out⟩
          · have HC := Lib.hid (blook_any w.heap.size q G b n w4 HM4.out.bag)
            go_wp2_with fail
            refine HC.out.mono ?_
            rintro e w5 ⟨A5, c5, rfl, hr5, hb5⟩
            have hM5 := HM4.out.same hb5
            have HB5 := Lib.hid (HB4.out.trans (hb5.mono HB4.out.size))
            replace hr5 := hr5.mono (G' := fun i => RbD r ov i ∨ i = gL) (Nat.le_refl _) (fun i _ hi => by
              rcases hi with (rfl | hi) | rfl
              · exact ⟨HM4.out.off, HM4.out.ref.low.2.1⟩
              · exact ⟨HM4.out.row i hi.symm, (HM4.out.ref.row hi.symm).2⟩
              · exact ⟨HOL.out.a, HOL.out.size⟩)
            obtain ⟨⟨⟨xt, xx, xs⟩, xe⟩, hX⟩ : ∃ X, X = b.look n := ⟨_, rfl⟩
            have hG := (Mv.of_new hb5 (fun _ => False)).whole HG.out (fun h => h)
            have hL := (Mv.of_new hb5 (fun _ => False)).whole HL.out (fun h => h)
            have HOG5 := Lib.hid (HOG.out.same hb5.size)
            have HOL5 := Lib.hid (HOL.out.same hb5.size)
            have z0 := hG.cell 0 _ rfl
            have z1 := hG.cell 1 _ rfl
            have z2 := hG.cell 2 _ rfl
            have z3 := hG.cell 3 _ rfl
            have z4 := hG.cell 4 _ rfl
            have hc2 := rlook_any w.heap.size r ov b n w5 hM5.ref
            rw [← hX] at hr5 hc2 ⊢
            simp only [lval] at hr5 hc2 ⊢
            have HR5 := Lib.hid hr5
            have HC2 := Lib.hid hc2
            have HM5 := Lib.hid hM5
            have HL5 := Lib.hid hL
            clear hM5 hG hL HC y0 y1 y2 y3 y4 hr5 hc2 hX hb5
            go_wp2_with fail
            refine HC2.out.mono ?_
            rintro e w6 ⟨rfl, hb6⟩
            have hL6 := (Mv.of_new hb6 (fun _ => False)).whole HL5.out (fun h => h)
            have x0 := hL6.cell 0 _ rfl
            have x1 := hL6.cell 1 _ rfl
            have x2 := hL6.cell 2 _ rfl
            have f0 := hL6.frozen 0
            have f1 := hL6.frozen 1
            have f2 := hL6.frozen 2
            have fs := hL6.size
            have HL6 := Lib.hid hL6
            have HOL6 := Lib.hid (HOL5.out.same hb6.size)
            have HM6 := Lib.hid (HM5.out.same hb6)
            have HB6 := Lib.hid (HB5.out.trans (hb6.mono HB5.out.size))
            have HR6 := Lib.hid (HR5.out.mv (Mv.of_new hb6 (fun _ => False)) (Nat.le_refl _) (fun _ _ h => h.elim))
            have hb6sz := hb6.size
            clear hL6 HC2 z0 z1 z2 z3 z4 hb6
            go_wp2_with fail
            have HSZ := Lib.hid hb6sz
            clear hb6sz
            have hmv : Mv (fun i => i = gL) w6 (((w6.setCell ⟨gL, 0, none⟩ (.int .i64 xt)).setCell ⟨gL, 1, none⟩ (.string (strB xx))).setCell ⟨gL, 2, none⟩ (.bool xs)) :=
              (((Mv.refl (fun i => i = gL) w6).setCell (p := ⟨gL, 0, none⟩) (fun _ => rfl) _).setCell (p := ⟨gL, 1, none⟩) (fun _ => rfl) _).setCell (p := ⟨gL, 2, none⟩) (fun _ => rfl) _
            have hL7 : Whole (((w6.setCell ⟨gL, 0, none⟩ (.int .i64 xt)).setCell ⟨gL, 1, none⟩ (.string (strB xx))).setCell ⟨gL, 2, none⟩ (.bool xs)) gL 36 [.int .i64 xt, .string (strB xx), .bool xs] := ((HL6.out.put 0 _).put 1 _).put 2 _
            clear x0 x1 x2 f0 f1 f2 fs
            generalize ((w6.setCell ⟨gL, 0, none⟩ (.int .i64 xt)).setCell ⟨gL, 1, none⟩ (.string (strB xx))).setCell ⟨gL, 2, none⟩ (.bool xs) = w7 at hmv hL7 ⊢
            have k7 : (convert 32 9 (.slice A5 xx.length c5)).run Try.prog w7 = .ok (.string (strB xx)) w7 := run_convB (HR6.out.mv hmv (HSZ.out) (fun b _ h => .inr h)).rdB
            have HM7 := Lib.hid (HM6.out.mv hmv (fun i hi => hi ▸ HOL6.out))
            have HL7 := Lib.hid hL7
            have HB7 := Lib.hid (HB6.out.trans (hmv.below HB6.out.size (fun i hi => hi ▸ HLB.out)))
            clear hmv hL7 HM6 HL6 HB6 HR6 HOL6
            rw [k7]
            clear k7
            go_wp2_with fail
            go_meet
            case rel => exact ⟨_, _, _, _, ⟨xt, xx, xs⟩, rfl, rfl, rfl, rfl, HM7.out, HL7.out, HB7.out⟩
          · have HC := Lib.hid (btake_any w.heap.size q G b n w4 HM4.out.bag)
            go_wp2_with fail
            refine HC.out.mono ?_
            rintro e w5 ⟨A5, c5, rfl, G5, hk5, hG5, hm5, hr5⟩
            have hM5 := HM4.out.prog hk5 hG5 hm5
            have HB5 := Lib.hid (HB4.out.trans (HM4.out.below hm5))
            replace hr5 := (HM4.out.taken hr5).or (HOL.out.text hr5)
            obtain ⟨⟨⟨xt, xx, xs⟩, xe⟩, hX⟩ : ∃ X, X = b.look n := ⟨_, rfl⟩
            have hG := HOG.out.wprog hm5 HG.out
            have hL := HOL.out.wprog hm5 HL.out
            have HOG5 := Lib.hid (HOG.out.prog hG5 hm5.size)
            have HOL5 := Lib.hid (HOL.out.prog hG5 hm5.size)
            have z0 := hG.cell 0 _ rfl
            have z1 := hG.cell 1 _ rfl
            have z2 := hG.cell 2 _ rfl
            have z3 := hG.cell 3 _ rfl
            have z4 := hG.cell 4 _ rfl
            have hc2 := rtake_any w.heap.size r ov b n w5 hM5.ref
            rw [← hX] at hr5 hc2 ⊢
            simp only [lval] at hr5 hc2 ⊢
            have HR5 := Lib.hid hr5
            have HC2 := Lib.hid hc2
            have HM5 := Lib.hid hM5
            have HL5 := Lib.hid hL
            clear hM5 hG hL HC y0 y1 y2 y3 y4 hr5 hc2 hX hk5 hG5 hm5
            go_wp2_with fail
            refine HC2.out.mono ?_
            rintro e w6 ⟨rfl, ov6, hw⟩
            have hL6 := HOL5.out.wref hw.moved HL5.out
            have x0 := hL6.cell 0 _ rfl
            have x1 := hL6.cell 1 _ rfl
            have x2 := hL6.cell 2 _ rfl
            have f0 := hL6.frozen 0
            have f1 := hL6.frozen 1
            have f2 := hL6.frozen 2
            have fs := hL6.size
            have HL6 := Lib.hid hL6
            have HOL6 := Lib.hid (HOL5.out.ref hw.new hw.moved.size)
            have HM6 := Lib.hid (HM5.out.refl' hw)
            have HB6 := Lib.hid (HB5.out.trans (hw.below HM5.out.ref))
            have HR6 := Lib.hid (HR5.out.mv hw.moved (Nat.le_refl _) (fun _ _ h => .inl h))
            have hb6sz := hw.moved.size
            clear hL6 HC2 z0 z1 z2 z3 z4 hw
            go_wp2_with fail
            have HSZ := Lib.hid hb6sz
            clear hb6sz
            have hmv : Mv (fun i => i = gL) w6 (((w6.setCell ⟨gL, 0, none⟩ (.int .i64 xt)).setCell ⟨gL, 1, none⟩ (.string (strB xx))).setCell ⟨gL, 2, none⟩ (.bool xs)) :=
              (((Mv.refl (fun i => i = gL) w6).setCell (p := ⟨gL, 0, none⟩) (fun _ => rfl) _).setCell (p := ⟨gL, 1, none⟩) (fun _ => rfl) _).setCell (p := ⟨gL, 2, none⟩) (fun _ => rfl) _
            have hL7 : Whole (((w6.setCell ⟨gL, 0, none⟩ (.int .i64 xt)).setCell ⟨gL, 1, none⟩ (.string (strB xx))).setCell ⟨gL, 2, none⟩ (.bool xs)) gL 36 [.int .i64 xt, .string (strB xx), .bool xs] := ((HL6.out.put 0 _).put 1 _).put 2 _
            clear x0 x1 x2 f0 f1 f2 fs
            generalize ((w6.setCell ⟨gL, 0, none⟩ (.int .i64 xt)).setCell ⟨gL, 1, none⟩ (.string (strB xx))).setCell ⟨gL, 2, none⟩ (.bool xs) = w7 at hmv hL7 ⊢
            have k7 : (convert 32 9 (.slice A5 xx.length c5)).run Try.prog w7 = .ok (.string (strB xx)) w7 := run_convB (HR6.out.mv hmv (HSZ.out) (fun b _ h => .inr h)).rdB
            have HM7 := Lib.hid (HM6.out.mv hmv (fun i hi => hi ▸ HOL6.out))
            have HL7 := Lib.hid hL7
            have HB7 := Lib.hid (HB6.out.trans (hmv.below HB6.out.size (fun i hi => hi ▸ HLB.out)))
            clear hmv hL7 HM6 HL6 HB6 HR6 HOL6
            rw [k7]
            clear k7
            go_wp2_with fail
            go_meet
            case rel => exact ⟨_, _, _, _, ⟨xt, xx, xs⟩, rfl, rfl, rfl, rfl, HM7.out, HL7.out, HB7.out⟩
          · have HC := Lib.hid (btwin_any w.heap.size q G b n w4 HM4.out.bag)
            go_wp2_with fail
            refine HC.out.mono ?_
            rintro e w5 ⟨rfl, G5, hk5, hG5, hm5⟩
            have hM5 := HM4.out.prog hk5 hG5 hm5
            have hG := HOG.out.wprog hm5 HG.out
            have hL := HOL.out.wprog hm5 HL.out
            have HOG5 := Lib.hid (HOG.out.prog hG5 hm5.size)
            have HOL5 := Lib.hid (HOL.out.prog hG5 hm5.size)
            have HB5 := Lib.hid (HB4.out.trans (HM4.out.below hm5))
            have z0 := hG.cell 0 _ rfl
            have z1 := hG.cell 1 _ rfl
            have z2 := hG.cell 2 _ rfl
            have z3 := hG.cell 3 _ rfl
            have z4 := hG.cell 4 _ rfl
            have HC2 := Lib.hid (rtwin_any w.heap.size r ov b n w5 hM5.ref)
            have HM5 := Lib.hid hM5
            have HL5 := Lib.hid hL
            clear hk5 hG5 hm5 hM5 hG hL HC y0 y1 y2 y3 y4
            go_wp2_with fail
            refine HC2.out.mono ?_
            rintro e w6 ⟨rfl, ov6, hw⟩
            have HM6 := Lib.hid (HM5.out.refl' hw)
            have HL6 := Lib.hid (HOL5.out.wref hw.moved HL5.out)
            have HB6 := Lib.hid (HB5.out.trans (hw.below HM5.out.ref))
            clear hw HC2 z0 z1 z2 z3 z4
            go_wp2_with fail
            go_meet
            case rel => exact ⟨_, _, _, _, ⟨0, [], false⟩, rfl, rfl, rfl, rfl, HM6.out, HL6.out, HB6.out⟩
          · have HC := Lib.hid (bspoil_any w.heap.size q G b n at_ turn w4 HM4.out.bag)
            go_wp2_with fail
            refine HC.out.mono ?_
            rintro e w5 ⟨rfl, G5, hk5, hG5, hm5⟩
            have hM5 := HM4.out.prog hk5 hG5 hm5
            have hG := HOG.out.wprog hm5 HG.out
            have hL := HOL.out.wprog hm5 HL.out
            have HOG5 := Lib.hid (HOG.out.prog hG5 hm5.size)
            have HOL5 := Lib.hid (HOL.out.prog hG5 hm5.size)
            have HB5 := Lib.hid (HB4.out.trans (HM4.out.below hm5))
            have z0 := hG.cell 0 _ rfl
            have z1 := hG.cell 1 _ rfl
            have z2 := hG.cell 2 _ rfl
            have z3 := hG.cell 3 _ rfl
            have z4 := hG.cell 4 _ rfl
            have HC2 := Lib.hid (rspoil_any w.heap.size r ov b n at_ turn w5 hM5.ref)
            have HM5 := Lib.hid hM5
            have HL5 := Lib.hid hL
            clear hk5 hG5 hm5 hM5 hG hL HC y0 y1 y2 y3 y4
            go_wp2_with fail
            refine HC2.out.mono ?_
            rintro e w6 ⟨rfl, ov6, hw⟩
            have HM6 := Lib.hid (HM5.out.refl' hw)
            have HL6 := Lib.hid (HOL5.out.wref hw.moved HL5.out)
            have HB6 := Lib.hid (HB5.out.trans (hw.below HM5.out.ref))
            clear hw HC2 z0 z1 z2 z3 z4
            go_wp2_with fail
            go_meet
            case rel => exact ⟨_, _, _, _, ⟨0, [], false⟩, rfl, rfl, rfl, rfl, HM6.out, HL6.out, HB6.out⟩
        case rest =>
          obtain ⟨e, G5, ov5, b5, ⟨xt, xx, xs⟩, rfl, rfl, rfl, rfl, hm, hL, hb⟩ := hcut
          simp only at hL ⊢
          obtain ⟨A5, c5, n5, hW5, hn5, -, -⟩ := hm.ref.letter
          obtain ⟨S1, hS1⟩ : ∃ S1, S1 = strB xx := ⟨_, rfl⟩
          rw [← hS1] at hL ⊢
          have HCELL := Lib.hid (show ∀ W, Below wc.drew.heap.size wc.drew W → W.cell? ⟨gL, 0, none⟩ = some (.int .i64 xt) ∧ W.cell? ⟨gL, 1, none⟩ = some (.string S1) ∧ W.cell? ⟨r, 0, none⟩ = some (.slice A5 n5 c5) from fun W hW =>
            have k1 : Whole W gL _ _ := (hL.drew).below hW hL.size
            have k2 : Whole W r _ _ := (hW5.drew).below hW hW5.size
            ⟨k1.cell 0 _ rfl, k1.cell 1 _ rfl, k2.cell 0 _ rfl⟩)
          have hm6 : Mid wc.drew w.heap.size q r G5 ov5 b5 b5 := hm.mv (D := fun _ => False) ((Mv.refl _ wc).drew) (fun _ h => h.elim)
          have hln := blen_any w.heap.size q G5 b5 wc.drew hm6.bag
          rw [← hn5] at hln
          have HLN := Lib.hid hln
          have HM6 := Lib.hid hm6
          have HB6 := Lib.hid hb.drew
          clear hm hL hb hW5 hn5 hS1 hm6 hln HM4 HB4 HG HL HOG HOL HGL HLB HRD hbl hlen
          go_wp2_with fail
          refine wp_region_planB [(true, 0), (true, 1), (true, 2), (true, 3), (true, 4), (true, 5), (true, 6), (true, 7), (true, 8), (true, 9), (true, 10), (true, 11), (true, 12), (true, 13), (true, 14), (true, 15), (true, 16), (true, 18), (true, 19), (true, 20), (true, 21), (true, 22), (false, 17), (true, 23), (true, 24)] (by kernel_rfl) (by kernel_rfl) (fun _ _ d _ _ h => by cases d <;> exact h) ?_
          repeat (refine PlanB.take (v := ?_) rfl rfl ?_ ?_; rotate_left; (focus (intro W hW; obtain ⟨k1, k2, k3⟩ := HCELL.out W hW; go_simp; (try with_reducible rfl); done)); (try simp only [Act.put, List.setIfInBounds_toArray, List.set_cons_zero, List.set_cons_succ]))
          refine PlanB.step rfl rfl (fun Kk hKk => ?_)
          go_simp
          go_at_call 20
          refine HLN.out.mono ?_
          rintro e w7 ⟨rfl, hbw⟩
          have HBW := Lib.hid hbw
          have HM7 := Lib.hid (HM6.out.same hbw)
          have HB7 := Lib.hid (HB6.out.trans (hbw.mono HB6.out.size))
          refine hKk.out _ _ HBW.out ?_
          clear hKk Kk HBW hbw HM6 HB6 HLN HCELL
          (try simp only [Act.put, List.setIfInBounds_toArray, List.set_cons_zero, List.set_cons_succ])
          repeat (refine PlanB.take (v := ?_) rfl rfl ?_ ?_; rotate_left; (focus (intro W hW; go_simp; (try with_reducible rfl); done)); (try simp only [Act.put, List.setIfInBounds_toArray, List.set_cons_zero, List.set_cons_succ]))
          simp only [PlanB]
          go_wp2_with fail
          go_roundw
          case rel => exact ⟨i + 1, G5, ov5, b5, by omega, by go_num, HM7.out, HB7.out⟩
          case measure => simp [intOf]; omega
      · have hex : ¬ ((i : Int) < (l.length : Int)) ∨ ((i : Int) < (l.length : Int) ∧ ¬ ((i : Int) < 100)) := by omega
        obtain ⟨m, hmm⟩ : ∃ m, m = b.l.length := ⟨_, rfl⟩
        have HMM := Lib.hid hmm
        have hm4 : m ≤ 4096 := by
          obtain ⟨k1, k2, -⟩ := HM.out.ref.ok
          omega
        clear hgo hmm
        rcases hex with h1 | ⟨h1, h2⟩
        · go_wp2_with fail
          go_loopw [16] (fun jv wx => ∃ (j : Nat), j ≤ m ∧ jv = .int .i64 (j : Int) ∧ Mid wx w.heap.size q r G ov b b ∧ Below w.heap.size w wx) (fun jv _ => m - (intOf jv).toNat)
          case atStart => exact ⟨0, by omega, rfl, HM.out, HB.out⟩
          case round =>
            obtain ⟨j, hjm, rfl, hm5, hb5⟩ := hrel
            have hbs5 := hb5.size
            obtain ⟨A5, c5, n5, hW5, hn5, -, hcell⟩ := hm5.ref.letter
            rw [← HMM.out] at hn5
            obtain rfl : n5 = m := hn5
            have z0 := hW5.cell 0 _ rfl
            by_cases hjl : j < n5
            · have hj1 : (j : Int) < (n5 : Int) := by omega
              have hjl2 : j < b.l.length := by rw [← HMM.out]; exact hjl
              obtain ⟨g, rfl, hg, x0, x1, -⟩ := hcell j hjl hjl2
              have hlk := blook_any w.heap.size q G b (j : Int) wr hm5.bag
              rw [show b.look (j : Int) = (b.l[j], 0) from Bg.look_at (b := b) (i := (j : Int)) ⟨by omega, by omega⟩] at hlk
              obtain ⟨X, hX⟩ : ∃ X, X = b.l[j] := ⟨_, rfl⟩
              rw [← hX] at x0 x1 hlk
              obtain ⟨xt, xx, xs⟩ := X
              simp only at x0 x1 hlk
              have HLK := Lib.hid hlk
              have HW5 := Lib.hid hW5
              have HX0 := Lib.hid x0
              have HX1 := Lib.hid x1
              have HM5 := Lib.hid hm5
              have HB5 := Lib.hid hb5
              clear hcell hlk hX x0 x1 hm5 hb5 hW5
              go_wp2_with fail
              refine HLK.out.mono ?_
              rintro e w6 ⟨A6, c6, rfl, hr6, hb6⟩
              obtain ⟨S1, hS1⟩ : ∃ S1, S1 = strB xx := ⟨_, rfl⟩
              have hg6 : g < w6.heap.size := Nat.lt_of_lt_of_le hg hb6.size
              have y0 := (hb6.cell (p := ⟨g, j * 3, none⟩) hg).trans HX0.out
              have y1 := (hb6.cell (p := ⟨g, j * 3 + 1, none⟩) hg).trans HX1.out
              have hW6 := HW5.out.below hb6 HW5.out.size
              have HCW := Lib.hid (show ∀ W, Below w6.drew.heap.size w6.drew W → (convert 32 9 (.slice A6 xx.length c6)).run Try.prog W = .ok (.string S1) W ∧ W.cell? ⟨r, 0, none⟩ = some (.slice (some ⟨g, 0, none⟩) n5 c5) ∧ W.cell? ⟨g, j * 3, none⟩ = some (.int .i64 xt) ∧ W.cell? ⟨g, j * 3 + 1, none⟩ = some (.string S1) from fun W hW => by
                have hd := ((Below.refl w6.heap.size w6).drew).trans hW
                have k2 : Whole W r _ _ := hW6.below hd hW6.size
                exact ⟨by rw [hS1]; exact run_convB (hr6.rdB.below hd (Nat.le_refl _)), k2.cell 0 _ rfl, (hd.cell (p := ⟨g, j * 3, none⟩) hg6).trans y0, by rw [hS1]; exact (hd.cell (p := ⟨g, j * 3 + 1, none⟩) hg6).trans y1⟩)
              have HM6 := Lib.hid ((HM5.out.same hb6).mv (D := fun _ => False) ((Mv.refl _ w6).drew) (fun _ h => h.elim))
              have HB6 := Lib.hid ((HB5.out.trans (hb6.mono hbs5)).drew)
              have hjj : (0 : Int) ≤ (j : Int) ∧ (j : Int) < (n5 : Int) := ⟨by omega, by omega⟩
              clear hr6 hb6 HLK hS1 hg6 y0 y1 hW6 z0
              go_wp2_with fail
              refine wp_region_planB [(true, 0), (true, 1), (true, 2), (true, 3), (true, 4), (true, 5), (true, 6), (true, 7), (true, 8), (true, 9), (true, 10), (true, 11), (true, 12), (true, 13), (true, 14), (true, 15), (true, 16), (true, 17), (true, 18), (true, 19), (true, 20), (true, 21), (true, 22), (true, 23), (true, 24), (true, 25), (true, 26)] (by kernel_rfl) (by kernel_rfl) (fun _ _ d _ _ h => by cases d <;> exact h) ?_
              repeat (refine PlanB.take (v := ?_) rfl rfl ?_ ?_; rotate_left; (focus (intro W hW; obtain ⟨k1, k2, k3, k4⟩ := HCW.out W hW; go_simp; (try with_reducible rfl); done)); (try simp only [Act.put, List.setIfInBounds_toArray, List.set_cons_zero, List.set_cons_succ]))
              simp only [PlanB]
              clear HCW
              generalize w6.drew = w7 at HM6 HB6 ⊢
              go_wp2_with fail
              go_roundw
              case rel => exact ⟨j + 1, by omega, by go_num, HM6.out, HB6.out⟩
              case measure => simp [intOf]; omega
            · have hj1 : ¬ (j : Int) < (n5 : Int) := by omega
              have HB5 := Lib.hid hb5
              clear hm5 hb5 hcell hW5
              go_wp2_with fail
              go_ret
              exact ⟨rfl, HB5.out⟩
        · go_wp2_with fail
          go_loopw [16] (fun jv wx => ∃ (j : Nat), j ≤ m ∧ jv = .int .i64 (j : Int) ∧ Mid wx w.heap.size q r G ov b b ∧ Below w.heap.size w wx) (fun jv _ => m - (intOf jv).toNat)
          case atStart => exact ⟨0, by omega, rfl, HM.out, HB.out⟩
          case round =>
            obtain ⟨j, hjm, rfl, hm5, hb5⟩ := hrel
            have hbs5 := hb5.size
            obtain ⟨A5, c5, n5, hW5, hn5, -, hcell⟩ := hm5.ref.letter
            rw [← HMM.out] at hn5
            obtain rfl : n5 = m := hn5
            have z0 := hW5.cell 0 _ rfl
            by_cases hjl : j < n5
            · have hj1 : (j : Int) < (n5 : Int) := by omega
              have hjl2 : j < b.l.length := by rw [← HMM.out]; exact hjl
              obtain ⟨g, rfl, hg, x0, x1, -⟩ := hcell j hjl hjl2
              have hlk := blook_any w.heap.size q G b (j : Int) wr hm5.bag
              rw [show b.look (j : Int) = (b.l[j], 0) from Bg.look_at (b := b) (i := (j : Int)) ⟨by omega, by omega⟩] at hlk
              obtain ⟨X, hX⟩ : ∃ X, X = b.l[j] := ⟨_, rfl⟩
              rw [← hX] at x0 x1 hlk
              obtain ⟨xt, xx, xs⟩ := X
              simp only at x0 x1 hlk
              have HLK := Lib.hid hlk
              have HW5 := Lib.hid hW5
              have HX0 := Lib.hid x0
              have HX1 := Lib.hid x1
              have HM5 := Lib.hid hm5
              have HB5 := Lib.hid hb5
              clear hcell hlk hX x0 x1 hm5 hb5 hW5
              go_wp2_with fail
              refine HLK.out.mono ?_
              rintro e w6 ⟨A6, c6, rfl, hr6, hb6⟩
              obtain ⟨S1, hS1⟩ : ∃ S1, S1 = strB xx := ⟨_, rfl⟩
              have hg6 : g < w6.heap.size := Nat.lt_of_lt_of_le hg hb6.size
              have y0 := (hb6.cell (p := ⟨g, j * 3, none⟩) hg).trans HX0.out
              have y1 := (hb6.cell (p := ⟨g, j * 3 + 1, none⟩) hg).trans HX1.out
              have hW6 := HW5.out.below hb6 HW5.out.size
              have HCW := Lib.hid (show ∀ W, Below w6.drew.heap.size w6.drew W → (convert 32 9 (.slice A6 xx.length c6)).run Try.prog W = .ok (.string S1) W ∧ W.cell? ⟨r, 0, none⟩ = some (.slice (some ⟨g, 0, none⟩) n5 c5) ∧ W.cell? ⟨g, j * 3, none⟩ = some (.int .i64 xt) ∧ W.cell? ⟨g, j * 3 + 1, none⟩ = some (.string S1) from fun W hW => by
                have hd := ((Below.refl w6.heap.size w6).drew).trans hW
                have k2 : Whole W r _ _ := hW6.below hd hW6.size
                exact ⟨by rw [hS1]; exact run_convB (hr6.rdB.below hd (Nat.le_refl _)), k2.cell 0 _ rfl, (hd.cell (p := ⟨g, j * 3, none⟩) hg6).trans y0, by rw [hS1]; exact (hd.cell (p := ⟨g, j * 3 + 1, none⟩) hg6).trans y1⟩)
              have HM6 := Lib.hid ((HM5.out.same hb6).mv (D := fun _ => False) ((Mv.refl _ w6).drew) (fun _ h => h.elim))
              have HB6 := Lib.hid ((HB5.out.trans (hb6.mono hbs5)).drew)
              have hjj : (0 : Int) ≤ (j : Int) ∧ (j : Int) < (n5 : Int) := ⟨by omega, by omega⟩
              clear hr6 hb6 HLK hS1 hg6 y0 y1 hW6 z0
              go_wp2_with fail
              refine wp_region_planB [(true, 0), (true, 1), (true, 2), (true, 3), (true, 4), (true, 5), (true, 6), (true, 7), (true, 8), (true, 9), (true, 10), (true, 11), (true, 12), (true, 13), (true, 14), (true, 15), (true, 16), (true, 17), (true, 18), (true, 19), (true, 20), (true, 21), (true, 22), (true, 23), (true, 24), (true, 25), (true, 26)] (by kernel_rfl) (by kernel_rfl) (fun _ _ d _ _ h => by cases d <;> exact h) ?_
              repeat (refine PlanB.take (v := ?_) rfl rfl ?_ ?_; rotate_left; (focus (intro W hW; obtain ⟨k1, k2, k3, k4⟩ := HCW.out W hW; go_simp; (try with_reducible rfl); done)); (try simp only [Act.put, List.setIfInBounds_toArray, List.set_cons_zero, List.set_cons_succ]))
              simp only [PlanB]
              clear HCW
              generalize w6.drew = w7 at HM6 HB6 ⊢
              go_wp2_with fail
              go_roundw
              case rel => exact ⟨j + 1, by omega, by go_num, HM6.out, HB6.out⟩
              case measure => simp [intOf]; omega
            · have hj1 : ¬ (j : Int) < (n5 : Int) := by omega
              have HB5 := Lib.hid hb5
              clear hm5 hb5 hcell hW5
              go_wp2_with fail
              go_ret
              exact ⟨rfl, HB5.out⟩
end Go.Proofs.Ytjkhdlmdgdcimaa

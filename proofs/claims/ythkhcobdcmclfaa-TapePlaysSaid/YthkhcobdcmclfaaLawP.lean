/- TapePlays's walk. -/
import Derived.Test.YthkhcobdcmclfaaAwk
import Derived.Test.YthkhcobdcmclfaaRC
import Derived.Test.YthkhcobdcmclfaaOpenT
import Derived.Deep.CutBlock
import Derived.Deep.DeepCutAuto
import Derived.Deep.Cut
import Derived.Deep.CutRange
namespace Go.Proofs.Ythkhcobdcmclfaa
open Go.RowKit

theorem RdA.at {w : World} {B : Nat} {v : Value} {l : List TAct} (h : Rd encA 4 w B v l) : ∃ A c, v = .slice A l.length c ∧ l.length ≤ c ∧ ∀ i (_ : i < l.length), ∃ b o, A = some ⟨b, o, none⟩ ∧ b < B ∧
    w.cell? ⟨b, o + i * 4, none⟩ = some (.int .i64 l[i].what) ∧ w.cell? ⟨b, o + i * 4 + 1, none⟩ = some (.int .i64 l[i].n) ∧ w.cell? ⟨b, o + i * 4 + 2, none⟩ = some l[i].v ∧ w.cell? ⟨b, o + i * 4 + 3, none⟩ = some (.int .u8 (l[i].turn.toNat : Int)) := by
  obtain ⟨A, c, hv, hc, hi⟩ := h
  refine ⟨A, c, hv, hc, fun i hs => ?_⟩
  obtain ⟨b, o, hA, hB, h1⟩ := hi i hs
  exact ⟨b, o, hA, hB, h1 0 _ rfl, h1 1 _ rfl, h1 2 _ rfl, h1 3 _ rfl⟩

/-- the program's call, then the reference's -/
theorem both_mid {w4 w5 : World} {base p r : Nat} {ov ov' : Option Nat} {t' t0 : Tp} (hg : Went w4 w5 base p ov t' ov') (hr : RefAt w4 r t0) (hne : r ≠ p) (hor : ov ≠ some r) : RefAt w5 r t0 ∧ ov' ≠ some r :=
  ⟨hr.mv hg.moved (by rintro (h | h); exact hne h; exact hor h.symm), hg.new.out hr.1.size hor⟩
theorem both_end {w w4 w5 w6 : World} {base p r : Nat} {ov ov' : Option Nat} {t t' : Tp} (h0 : TapeAt w4 base p ov t) (hg : Went w4 w5 base p ov t' ov') (hre : Rent w5 w6 r t') (hne : r ≠ p) (hor : ov' ≠ some r) (hrb : base ≤ r) (hb : Below base w w4) :
    TapeAt w6 base p ov' t' ∧ RefAt w6 r t' ∧ ov' ≠ some r ∧ Below base w w6 :=
  ⟨hg.now.mv hre.moved (Ne.symm hne) (fun g hg' e => hor (by rw [hg', e])), hre.now, hor, (hb.trans (hg.below h0)).trans (hre.moved.below hg.now.low.2.2 (by rintro i rfl; exact hrb))⟩
theorem keep_mid {w4 w5 : World} {base p G : Nat} {ov ov' : Option Nat} {t' : Tp} {T : TypeId} {cs : List Value} (hg : Went w4 w5 base p ov t' ov') (hG : Whole w4 G T cs) (hne : G ≠ p) (hor : ov ≠ some G) : Whole w5 G T cs :=
  hg.moved.whole hG (by rintro (h | h); exact hne h; exact hor h.symm)

set_option maxHeartbeats 8000000 in
set_option maxRecDepth 100000 in
theorem tapePlays_walk (room : Int) (hrm : -9223372036854775808 ≤ room ∧ room < 9223372036854775808) (l : List TAct) (v : Value) (w : World) (hv : Rd encA 4 w w.heap.size v l) (hl : l.length ≤ 140737488351232) (hall : ∀ a ∈ l, RdB w w.heap.size a.v a.l ∧ a.l.length ≤ 140737488351232 ∧ a.n < 9223372036854775808) :
    Calls Try.prog 3 #[.int .i64 room, v] w fun e w' => e = .returned (.bool true) ∧ Below w.heap.size w w' := by
  obtain ⟨A, c, rfl, hc, -⟩ := RdA.at hv
  have HV := Lib.hid hv; clear hv
  have HALL := Lib.hid hall; clear hall
  clear hrm
  by_cases hbad : room < 0 ∨ 1048576 < room
  · have HN := Lib.hid (new_bad room hbad w)
    have HA := Lib.hid (awake_any w)
    have hb2 : room < 0 ∨ (¬ room < 0 ∧ 1048576 < room) := by omega
    clear hbad
    rcases hb2 with h1 | ⟨h1, h2⟩
    · go_enter Try.func3, Try.ntmps3
      go_wp2_with fail
      refine HN.out.mono ?_
      rintro e w1 ⟨rfl, rfl⟩
      go_wp2_with fail
      refine HA.out.mono ?_
      rintro e w2 ⟨rfl, hb⟩
      have HB := Lib.hid hb; clear hb
      go_wp2_with fail
      go_ret
      exact ⟨rfl, HB.out⟩
    · go_enter Try.func3, Try.ntmps3
      go_wp2_with fail
      refine HN.out.mono ?_
      rintro e w1 ⟨rfl, rfl⟩
      go_wp2_with fail
      refine HA.out.mono ?_
      rintro e w2 ⟨rfl, hb⟩
      have HB := Lib.hid hb; clear hb
      go_wp2_with fail
      go_ret
      exact ⟨rfl, HB.out⟩
  · have g0 : ¬ room < 0 := by omega
    have g1 : ¬ 1048576 < room := by omega
    have HN := Lib.hid (new_any room (by omega) (by omega) w)
    clear hbad
    go_enter Try.func3, Try.ntmps3
    go_wp2_with fail
    refine HN.out.mono ?_
    rintro e w1 ⟨p, rfl, ht, hb⟩
    have HA := Lib.hid (awake_any w1)
    have H1 := Lib.hid ht; clear ht HN
    have HB := Lib.hid hb; clear hb
    go_wp2_with fail
    refine HA.out.mono ?_
    rintro e w2 ⟨rfl, hb⟩
    have H2 := Lib.hid (H1.out.mv (Mv.of_new hb (fun _ => False)) (fun h => h) (fun _ _ h => h))
    have HB2 := Lib.hid (HB.out.trans (hb.mono HB.out.size))
    clear hb HA H1 HB
    go_wp2_with fail
    have hr2 : RefAt (w2.alloc (.cells #[.string ⟨#[]⟩, .string ⟨#[]⟩, .int .i64 room, .int .i64 (-1), .bool false] 30)) w2.heap.size ⟨[], [], room, -1, false⟩ :=
      ⟨Whole.fresh w2 _ [_, _, _, _, _], H2.out.ok, H2.out.left⟩
    have ht3 := H2.out.mv ((Mv.refl (fun _ => False) w2).alloc (.cells #[.string ⟨#[]⟩, .string ⟨#[]⟩, .int .i64 room, .int .i64 (-1), .bool false] 30)) (fun h => h) (fun _ _ h => h)
    have hb3 : Below w.heap.size w (w2.alloc (.cells #[.string ⟨#[]⟩, .string ⟨#[]⟩, .int .i64 room, .int .i64 (-1), .bool false] 30)) := HB2.out.alloc HB2.out.size _
    have hrp : w2.heap.size ≠ p := Nat.ne_of_gt H2.out.low.2.1
    have hrb : w.heap.size ≤ w2.heap.size := HB2.out.size
    clear H2 HB2 g0 g1
    generalize (w2.alloc (.cells #[.string ⟨#[]⟩, .string ⟨#[]⟩, .int .i64 room, .int .i64 (-1), .bool false] 30)) = w3 at hr2 ht3 hb3 ⊢
    generalize w2.heap.size = r at hr2 hrp hrb ⊢
    have HR3 := Lib.hid hr2; clear hr2
    have HT3 := Lib.hid ht3; clear ht3
    have HB3 := Lib.hid hb3; clear hb3
    have HRP := Lib.hid hrp; clear hrp
    have HRB := Lib.hid hrb; clear hrb
    go_loopw [8] (fun iv wr => ∃ (i : Nat) (ov : Option Nat) (t : Tp), i ≤ 100 ∧ iv = .int .i64 (i : Int) ∧ TapeAt wr w.heap.size p ov t ∧ RefAt wr r t ∧ ov ≠ some r ∧ Below w.heap.size w wr) (fun iv _ => 100 - (intOf iv).toNat)
    case atStart => exact ⟨0, none, _, by omega, rfl, HT3.out, HR3.out, by simp, HB3.out⟩
    case round =>
      obtain ⟨i, ov, t, hi3, rfl, ht, hr, hor, hb⟩ := hrel
      have HT := Lib.hid ht
      have HR := Lib.hid hr
      have HB := Lib.hid hb
      have HOR := Lib.hid hor
      have hps := ht.low.2.1
      have hbs := ht.low.2.2
      have hrs : r < wr.heap.size := hr.1.size
      clear ht hr hor hb HT3 HB3 HR3
      by_cases hgo : i < l.length ∧ i < 100
      · obtain ⟨hil, hi4⟩ := hgo
        have h1 : (i : Int) < (l.length : Int) := by omega
        have h2 : (i : Int) < 100 := by omega
        obtain ⟨A', c', e, -, hcell⟩ := RdA.at (HV.out.below HB.out (Nat.le_refl _))
        injection e with e1 e2 e3
        subst e1 e3
        obtain ⟨b, o, rfl, hbl, q0, q1, q2, q3⟩ := hcell i hil
        clear hcell
        obtain ⟨hrd, hlen, hn⟩ := HALL.out l[i] (List.getElem_mem hil)
        generalize l[i] = a at q0 q1 q2 q3 hrd hlen hn
        obtain ⟨what, n, av, al, turn⟩ := a
        simp only at q0 q1 q2 q3 hrd hlen hn
        obtain ⟨A1, c1, rfl, -, -⟩ := RdB.at hrd
        have HRD := Lib.hid hrd; clear hrd
        go_upto_block 2 with fail
        have hG : Whole (wr.alloc (.cells #[.int .i64 what, .int .i64 n, .slice A1 al.length c1, .int .u8 (turn.toNat : Int)] 33)) wr.heap.size 33 _ := Whole.fresh wr _ [_, _, _, _]
        have hmv : Mv (fun _ => False) wr (wr.alloc (.cells #[.int .i64 what, .int .i64 n, .slice A1 al.length c1, .int .u8 (turn.toNat : Int)] 33)) := (Mv.refl _ wr).alloc _
        have HT4 := Lib.hid (HT.out.mv hmv (fun h => h) (fun _ _ h => h))
        have HR4 := Lib.hid (HR.out.mv hmv (fun h => h))
        have HB4 := Lib.hid (HB.out.alloc hbs (.cells #[.int .i64 what, .int .i64 n, .slice A1 al.length c1, .int .u8 (turn.toNat : Int)] 33))
        have HGP := Lib.hid (show wr.heap.size ≠ p from Nat.ne_of_gt hps)
        have HGV := Lib.hid (show ov ≠ some wr.heap.size from fun e => Nat.lt_irrefl _ (HT.out.row e).2)
        have HG := Lib.hid hG
        clear q0 q1 q2 q3 hG hmv h1 h2 HT HR HB hps hbs hrs
        generalize (wr.alloc (.cells #[.int .i64 what, .int .i64 n, .slice A1 al.length c1, .int .u8 (turn.toNat : Int)] 33)) = w4 at HG HT4 HR4 HB4 ⊢
        generalize wr.heap.size = G at HG HGP HGV ⊢
        go_cut [10, 11] (fun fv gv wx => ∃ (e : Int) (ov' : Option Nat) (t' : Tp), fv = .int .i64 e ∧ gv = .int .i64 e ∧ TapeAt wx w.heap.size p ov' t' ∧ RefAt wx r t' ∧ ov' ≠ some r ∧ Below w.heap.size w wx)
        case first =>
          have y0 := HG.out.cell 0 _ rfl
          have y1 := HG.out.cell 1 _ rfl
          have y2 := HG.out.cell 2 _ rfl
          have y3 := HG.out.cell 3 _ rfl
          have HYR := Lib.hid (show ∀ w5, Below w.heap.size w w5 → RdB w5 w5.heap.size (.slice A1 al.length c1) al from fun w5 hb => ((HRD.out.below hb (Nat.le_refl _)).mono hb.size))
          have hcase : what = 0 ∨ (¬ what = 0 ∧ what = 1) ∨ what = 2 ∨ what = 3 ∨ what = 4 ∨ (¬ what = 0 ∧ ¬ what = 1 ∧ ¬ what = 2 ∧ ¬ what = 3 ∧ ¬ what = 4) := by omega
          have hlowp := HT4.out.low
          have HD := Lib.hid (show ∀ i, TapeD p ov i → w.heap.size ≤ i from by rintro i (rfl | h); exact hlowp.1; exact (HT4.out.row h.symm).1)
          clear hlowp
          rcases hcase with rfl | ⟨hz, rfl⟩ | rfl | rfl | rfl | ⟨k0, k1, k2, k3, k4⟩
          · have HC := Lib.hid (add_any w.heap.size p ov t (.slice A1 al.length c1) al w4 HT4.out (fun w5 hm => HYR.out w5 (HB4.out.trans (hm.below HT4.out.low.2.2 HD.out))) hlen)
            go_wp2_with fail
            refine HC.out.mono ?_
            rintro e w5 ⟨rfl, ov2, hw⟩
            have hm := both_mid hw HR4.out HRP.out HOR.out
            have HM := Lib.hid hm.2
            have HW := Lib.hid hw
            have hG5 := keep_mid hw HG.out HGP.out HGV.out
            have z0 := hG5.cell 0 _ rfl
            have z1 := hG5.cell 1 _ rfl
            have z2 := hG5.cell 2 _ rfl
            have z3 := hG5.cell 3 _ rfl
            have hb5 := HB4.out.trans (hw.below HT4.out)
            have HC2 := Lib.hid (radd_any r t (.slice A1 al.length c1) al w5 hm.1 (fun w6 hm => HYR.out w6 (hb5.trans (hm.below (Nat.le_trans HT4.out.low.2.2 HW.out.moved.size) (by rintro i rfl; exact HRB.out)))) hlen)
            clear hm hw hG5 HC y0 y1 y2 y3 hb5
            go_wp2_with fail
            refine HC2.out.mono ?_
            rintro e w6 ⟨rfl, hre⟩
            have HRE := Lib.hid hre
            clear hre HC2 z0 z1 z2 z3
            go_wp2_with fail
            go_meet
            case rel => exact ⟨_, _, _, rfl, rfl, both_end HT4.out HW.out HRE.out HRP.out HM.out HRB.out HB4.out⟩
          · have HC := Lib.hid (add_any w.heap.size p ov t (.slice A1 al.length c1) al w4 HT4.out (fun w5 hm => HYR.out w5 (HB4.out.trans (hm.below HT4.out.low.2.2 HD.out))) hlen)
            go_wp2_with fail
            refine HC.out.mono ?_
            rintro e w5 ⟨rfl, ov2, hw⟩
            have hm := both_mid hw HR4.out HRP.out HOR.out
            have HM := Lib.hid hm.2
            have HW := Lib.hid hw
            have hG5 := keep_mid hw HG.out HGP.out HGV.out
            have z0 := hG5.cell 0 _ rfl
            have z1 := hG5.cell 1 _ rfl
            have z2 := hG5.cell 2 _ rfl
            have z3 := hG5.cell 3 _ rfl
            have hb5 := HB4.out.trans (hw.below HT4.out)
            have HC2 := Lib.hid (radd_any r t (.slice A1 al.length c1) al w5 hm.1 (fun w6 hm => HYR.out w6 (hb5.trans (hm.below (Nat.le_trans HT4.out.low.2.2 HW.out.moved.size) (by rintro i rfl; exact HRB.out)))) hlen)
            clear hm hw hG5 HC y0 y1 y2 y3 hb5
            go_wp2_with fail
            refine HC2.out.mono ?_
            rintro e w6 ⟨rfl, hre⟩
            have HRE := Lib.hid hre
            clear hre HC2 z0 z1 z2 z3
            go_wp2_with fail
            go_meet
            case rel => exact ⟨_, _, _, rfl, rfl, both_end HT4.out HW.out HRE.out HRP.out HM.out HRB.out HB4.out⟩
          · have HC := Lib.hid (sync_any w.heap.size p ov t w4 HT4.out)
            go_wp2_with fail
            refine HC.out.mono ?_
            rintro e w5 ⟨rfl, hw⟩
            have hm := both_mid hw HR4.out HRP.out HOR.out
            have HM := Lib.hid hm.2
            have HW := Lib.hid hw
            have hG5 := keep_mid hw HG.out HGP.out HGV.out
            have z0 := hG5.cell 0 _ rfl
            have z1 := hG5.cell 1 _ rfl
            have z2 := hG5.cell 2 _ rfl
            have z3 := hG5.cell 3 _ rfl
            have HC2 := Lib.hid (rsync_any r t w5 hm.1)
            clear hm hw hG5 HC y0 y1 y2 y3
            go_wp2_with fail
            refine HC2.out.mono ?_
            rintro e w6 ⟨rfl, hre⟩
            have HRE := Lib.hid hre
            clear hre HC2 z0 z1 z2 z3
            go_wp2_with fail
            go_meet
            case rel => exact ⟨_, _, _, rfl, rfl, both_end HT4.out HW.out HRE.out HRP.out HM.out HRB.out HB4.out⟩
          · have HC := Lib.hid (repl_any w.heap.size p ov t (.slice A1 al.length c1) al w4 HT4.out (fun w5 hm => HYR.out w5 (HB4.out.trans (hm.below HT4.out.low.2.2 HD.out))) hlen)
            go_wp2_with fail
            refine HC.out.mono ?_
            rintro e w5 ⟨rfl, ov2, hw⟩
            have hm := both_mid hw HR4.out HRP.out HOR.out
            have HM := Lib.hid hm.2
            have HW := Lib.hid hw
            have hG5 := keep_mid hw HG.out HGP.out HGV.out
            have z0 := hG5.cell 0 _ rfl
            have z1 := hG5.cell 1 _ rfl
            have z2 := hG5.cell 2 _ rfl
            have z3 := hG5.cell 3 _ rfl
            have hb5 := HB4.out.trans (hw.below HT4.out)
            have HC2 := Lib.hid (rrepl_any r t (.slice A1 al.length c1) al w5 hm.1 (fun w6 hm => HYR.out w6 (hb5.trans (hm.below (Nat.le_trans HT4.out.low.2.2 HW.out.moved.size) (by rintro i rfl; exact HRB.out)))))
            clear hm hw hG5 HC y0 y1 y2 y3 hb5
            go_wp2_with fail
            refine HC2.out.mono ?_
            rintro e w6 ⟨rfl, hre⟩
            have HRE := Lib.hid hre
            clear hre HC2 z0 z1 z2 z3
            go_wp2_with fail
            go_meet
            case rel => exact ⟨_, _, _, rfl, rfl, both_end HT4.out HW.out HRE.out HRP.out HM.out HRB.out HB4.out⟩
          · have HC := Lib.hid (fail_any w.heap.size p ov t n hn w4 HT4.out)
            go_wp2_with fail
            refine HC.out.mono ?_
            rintro e w5 ⟨rfl, hw⟩
            have hm := both_mid hw HR4.out HRP.out HOR.out
            have HM := Lib.hid hm.2
            have HW := Lib.hid hw
            have hG5 := keep_mid hw HG.out HGP.out HGV.out
            have z0 := hG5.cell 0 _ rfl
            have z1 := hG5.cell 1 _ rfl
            have z2 := hG5.cell 2 _ rfl
            have z3 := hG5.cell 3 _ rfl
            have x3 := hm.1.1.cell 3 _ rfl
            have x3f := hm.1.1.frozen 3
            have hrs5 : r < w5.heap.size := hm.1.1.size
            have HR5 := Lib.hid hm.1
            clear hm hw hG5 HC y0 y1 y2 y3
            go_wp2_with fail
            go_meet
            case rel =>
              have hre : Rent w5 (w5.setCell ⟨r, 3, none⟩ (.int .i64 n)) r (t.fail n) := ⟨⟨HR5.out.1.put 3 _, HR5.out.2.1, hn⟩, (Mv.refl (fun i => i = r) w5).setCell (p := ⟨r, 3, none⟩) (fun _ => rfl) _⟩
              exact ⟨_, _, _, rfl, rfl, both_end HT4.out HW.out hre HRP.out HM.out HRB.out HB4.out⟩
          · have HC := Lib.hid (crash_any w.heap.size p ov t n turn w4 HT4.out)
            go_wp2_with fail
            refine HC.out.mono ?_
            rintro e w5 ⟨rfl, hw⟩
            have hm := both_mid hw HR4.out HRP.out HOR.out
            have HM := Lib.hid hm.2
            have HW := Lib.hid hw
            have hG5 := keep_mid hw HG.out HGP.out HGV.out
            have z0 := hG5.cell 0 _ rfl
            have z1 := hG5.cell 1 _ rfl
            have z2 := hG5.cell 2 _ rfl
            have z3 := hG5.cell 3 _ rfl
            have HC2 := Lib.hid (rcrash_any r t n turn w5 hm.1)
            clear hm hw hG5 HC y0 y1 y2 y3
            go_wp2_with fail
            refine HC2.out.mono ?_
            rintro e w6 ⟨rfl, hre⟩
            have HRE := Lib.hid hre
            clear hre HC2 z0 z1 z2 z3
            go_wp2_with fail
            go_meet
            case rel => exact ⟨_, _, _, rfl, rfl, both_end HT4.out HW.out HRE.out HRP.out HM.out HRB.out HB4.out⟩
        case rest =>
          obtain ⟨e, ov', t', rfl, rfl, ht, hr, hor, hb⟩ := hcut
          have HT := Lib.hid ht
          have HR := Lib.hid hr
          have HB := Lib.hid hb
          have HOR2 := Lib.hid hor
          clear ht hr hor hb HT4 HR4 HB4 HG HGP HGV HOR HRD hbl hlen hn
          obtain ⟨sure, loose, room', left, down⟩ := t'
          cases down with
          | true =>
            have hby := bytes_any w.heap.size p ov' ⟨sure, loose, room', left, true⟩ wc HT.out
            rw [if_pos rfl, if_pos rfl] at hby
            obtain ⟨Y, hY⟩ : ∃ Y : List UInt8, Y = [] := ⟨_, rfl⟩
            rw [← hY] at hby
            have HBY := Lib.hid hby; clear hby
            have HY := Lib.hid hY; clear hY
            go_wp2_with fail
            refine HBY.out.mono ?_
            rintro e5 w5 ⟨A5, c5, rfl, ho5, hb5⟩
            have HO5 := Lib.hid ho5.rdB
            have HT5 := Lib.hid (HT.out.mv (Mv.of_new hb5 (fun _ => False)) (fun h => h) (fun _ _ h => h))
            have HR5 := Lib.hid (HR.out.mv (Mv.of_new hb5 (fun _ => False)) (fun h => h))
            have HB5 := Lib.hid (HB.out.trans (hb5.mono HT.out.low.2.2))
            clear ho5 hb5 HBY
            obtain ⟨S1, hS1⟩ : ∃ S1, S1 = strB sure := ⟨_, rfl⟩
            obtain ⟨L1, hL1⟩ : ∃ L1, L1 = strB loose := ⟨_, rfl⟩
            have hbk := HR5.out.1
            simp only at hbk
            rw [← hS1, ← hL1] at hbk
            have hok := HR5.out.2.1
            obtain ⟨m, hm⟩ : ∃ m, m = loose.length := ⟨_, rfl⟩
            have z1 : L1.size = m := by rw [hL1, strB_size, hm]
            have HZ1 := Lib.hid z1
            have hcat : ¬ (9223372036854775807 < S1.size + L1.size) := by
              obtain ⟨m1, m2, m3⟩ := hok
              simp only at m1 m2 m3
              rw [hS1, hL1, strB_size, strB_size]; omega
            have HCAT := Lib.hid hcat
            have HS1 := Lib.hid hS1
            have HL1 := Lib.hid hL1
            have HM := Lib.hid hm
            clear hcat hok z1 hS1 hL1 hm
            have HCELL := Lib.hid (show ∀ W, Below w5.drew.heap.size w5.drew W → W.cell? ⟨r, 0, none⟩ = some (.string S1) ∧ W.cell? ⟨r, 1, none⟩ = some (.string L1) ∧ W.cell? ⟨r, 4, none⟩ = some (.bool true) from fun W hW =>
              have hk : Whole W r _ _ := (hbk.drew).below hW hbk.size
              ⟨hk.cell 0 _ rfl, hk.cell 1 _ rfl, hk.cell 4 _ rfl⟩)
            have HBK := Lib.hid hbk; clear hbk
            go_wp2_with fail
            refine wp_region_planB [(true, 0), (true, 1), (true, 2), (true, 3), (true, 4), (true, 5), (true, 6), (true, 7), (true, 8), (true, 9)] (by kernel_rfl) (by kernel_rfl) (fun _ _ d _ _ h => by cases d <;> exact h) ?_
            repeat (refine PlanB.take (v := ?_) rfl rfl ?_ ?_; rotate_left; (focus (intro W hW; obtain ⟨q0, q1, q4⟩ := HCELL.out W hW; (have hcat := HCAT.out); go_simp; (try with_reducible rfl); done)); (try simp only [Act.put, List.setIfInBounds_toArray, List.set_cons_zero, List.set_cons_succ]))
            simp only [PlanB]
            have hmd : Mv (fun _ => False) w5 w5.drew := (Mv.refl _ w5).drew
            have ht6 := HT5.out.mv hmd (fun h => h) (fun _ _ h => h)
            have hr6 := HR5.out.mv hmd (fun h => h)
            have hb6 := HB5.out.drew
            have ho6 : RdB w5.drew w5.drew.heap.size _ _ := HO5.out.drewN 1
            have hk6 := HBK.out.drew
            clear HCELL hmd HT5 HR5 HB5 HO5 HBK
            generalize w5.drew = w6 at ht6 hr6 hb6 ho6 hk6 ⊢
            have q4 := hk6.cell 4 _ rfl
            have HT6 := Lib.hid ht6; clear ht6
            have HR6 := Lib.hid hr6; clear hr6
            have HB6 := Lib.hid hb6; clear hb6
            have HO6 := Lib.hid ho6; clear ho6
            have HCELL2 := Lib.hid (show ∀ W, Below w6.drew.heap.size w6.drew W → W.cell? ⟨r, 0, none⟩ = some (.string S1) ∧ W.cell? ⟨r, 1, none⟩ = some (.string L1) ∧ W.cell? ⟨r, 4, none⟩ = some (.bool true) from fun W hW =>
              have hk : Whole W r _ _ := (hk6.drew).below hW hk6.size
              ⟨hk.cell 0 _ rfl, hk.cell 1 _ rfl, hk.cell 4 _ rfl⟩)
            clear hk6
            have HCV := Lib.hid (show ∀ W, Below w6.drew.heap.size w6.drew W → (convert 31 9 (.slice A5 Y.length c5)).run Try.prog W = .ok (.string (strB Y)) W from fun W hW => run_convB (HO6.out.below (((Below.refl _ w6).drew).trans hW) (Nat.le_refl _)))
            have HE1 := Lib.hid (show (strB Y).toList = (⟨#[]⟩ : ByteArray).toList from by rw [HY.out]; rfl)
            have hlo := loose_any w.heap.size p ov' ⟨sure, loose, room', left, true⟩ w6.drew (HT6.out.mv ((Mv.refl (fun _ => False) w6).drew) (fun h => h) (fun _ _ h => h))
            simp only at hlo
            rw [← HM.out] at hlo
            have HLO := Lib.hid hlo; clear hlo
            go_wp2_with fail
            refine wp_region_planB [(true, 0), (true, 1), (true, 2), (true, 3), (true, 4), (true, 5), (true, 6), (true, 7), (true, 8), (true, 9), (true, 10), (true, 11), (true, 12), (true, 13), (true, 14), (true, 15), (true, 16), (true, 17), (true, 18), (true, 19), (true, 21), (true, 22), (true, 23), (true, 24), (true, 25), (false, 20), (true, 26), (true, 27)] (by kernel_rfl) (by kernel_rfl) (fun _ _ d _ _ h => by cases d <;> exact h) ?_
            repeat (refine PlanB.take (v := ?_) rfl rfl ?_ ?_; rotate_left; (focus (intro W hW; obtain ⟨q0, q1, q4⟩ := HCELL2.out W hW; have hcv := HCV.out W hW; have e1 := HE1.out; go_simp; (try with_reducible rfl); done)); (try simp only [Act.put, List.setIfInBounds_toArray, List.set_cons_zero, List.set_cons_succ]))
            refine PlanB.step rfl rfl (fun Kk hKk => ?_)
            go_simp
            go_at_call 19
            refine HLO.out.mono ?_
            rintro e w7 ⟨rfl, hbw⟩
            have HBW := Lib.hid hbw
            have hb7 : Below w6.heap.size w6 w7 := ((Below.refl _ w6).drew).trans hbw
            have HT7 := Lib.hid (HT6.out.mv (Mv.of_new hb7 (fun _ => False)) (fun h => h) (fun _ _ h => h))
            have HR7 := Lib.hid (HR6.out.mv (Mv.of_new hb7 (fun _ => False)) (fun h => h))
            have HB7 := Lib.hid (HB6.out.trans (hb7.mono HT6.out.low.2.2))
            refine hKk.out _ _ HBW.out ?_
            clear hKk Kk HBW hbw hb7 HT6 HR6 HB6 HLO HO6 HCV HCELL2
            (try simp only [Act.put, List.setIfInBounds_toArray, List.set_cons_zero, List.set_cons_succ])
            repeat (refine PlanB.take (v := ?_) rfl rfl ?_ ?_; rotate_left; (focus (intro W hW; have z1 := HZ1.out; go_simp; (try with_reducible rfl); done)); (try simp only [Act.put, List.setIfInBounds_toArray, List.set_cons_zero, List.set_cons_succ]))
            simp only [PlanB]
            go_wp2_with fail
            go_roundw
            case rel => exact ⟨i + 1, _, _, by omega, by go_num, HT7.out, HR7.out, HOR2.out, HB7.out⟩
            case measure => simp [intOf]; omega
          | false =>
            have hby := bytes_any w.heap.size p ov' ⟨sure, loose, room', left, false⟩ wc HT.out
            rw [if_neg (by simp), if_neg (by simp)] at hby
            obtain ⟨Y, hY⟩ : ∃ Y : List UInt8, Y = sure ++ loose := ⟨_, rfl⟩
            rw [← hY] at hby
            have HBY := Lib.hid hby; clear hby
            have HY := Lib.hid hY; clear hY
            go_wp2_with fail
            refine HBY.out.mono ?_
            rintro e5 w5 ⟨A5, c5, rfl, ho5, hb5⟩
            have HO5 := Lib.hid ho5.rdB
            have HT5 := Lib.hid (HT.out.mv (Mv.of_new hb5 (fun _ => False)) (fun h => h) (fun _ _ h => h))
            have HR5 := Lib.hid (HR.out.mv (Mv.of_new hb5 (fun _ => False)) (fun h => h))
            have HB5 := Lib.hid (HB.out.trans (hb5.mono HT.out.low.2.2))
            clear ho5 hb5 HBY
            obtain ⟨S1, hS1⟩ : ∃ S1, S1 = strB sure := ⟨_, rfl⟩
            obtain ⟨L1, hL1⟩ : ∃ L1, L1 = strB loose := ⟨_, rfl⟩
            have hbk := HR5.out.1
            simp only at hbk
            rw [← hS1, ← hL1] at hbk
            have hok := HR5.out.2.1
            obtain ⟨m, hm⟩ : ∃ m, m = loose.length := ⟨_, rfl⟩
            have z1 : L1.size = m := by rw [hL1, strB_size, hm]
            have HZ1 := Lib.hid z1
            have hcat : ¬ (9223372036854775807 < S1.size + L1.size) := by
              obtain ⟨m1, m2, m3⟩ := hok
              simp only at m1 m2 m3
              rw [hS1, hL1, strB_size, strB_size]; omega
            have HCAT := Lib.hid hcat
            have HS1 := Lib.hid hS1
            have HL1 := Lib.hid hL1
            have HM := Lib.hid hm
            clear hcat hok z1 hS1 hL1 hm
            have HCELL := Lib.hid (show ∀ W, Below w5.drew.heap.size w5.drew W → W.cell? ⟨r, 0, none⟩ = some (.string S1) ∧ W.cell? ⟨r, 1, none⟩ = some (.string L1) ∧ W.cell? ⟨r, 4, none⟩ = some (.bool false) from fun W hW =>
              have hk : Whole W r _ _ := (hbk.drew).below hW hbk.size
              ⟨hk.cell 0 _ rfl, hk.cell 1 _ rfl, hk.cell 4 _ rfl⟩)
            have HBK := Lib.hid hbk; clear hbk
            go_wp2_with fail
            refine wp_region_planB [(true, 0), (true, 1), (true, 2), (true, 3), (true, 4), (true, 5), (true, 6), (true, 7), (true, 8), (true, 9)] (by kernel_rfl) (by kernel_rfl) (fun _ _ d _ _ h => by cases d <;> exact h) ?_
            repeat (refine PlanB.take (v := ?_) rfl rfl ?_ ?_; rotate_left; (focus (intro W hW; obtain ⟨q0, q1, q4⟩ := HCELL.out W hW; (have hcat := HCAT.out); go_simp; (try with_reducible rfl); done)); (try simp only [Act.put, List.setIfInBounds_toArray, List.set_cons_zero, List.set_cons_succ]))
            simp only [PlanB]
            have hmd : Mv (fun _ => False) w5 w5.drew := (Mv.refl _ w5).drew
            have ht6 := HT5.out.mv hmd (fun h => h) (fun _ _ h => h)
            have hr6 := HR5.out.mv hmd (fun h => h)
            have hb6 := HB5.out.drew
            have ho6 : RdB w5.drew w5.drew.heap.size _ _ := HO5.out.drewN 1
            have hk6 := HBK.out.drew
            clear HCELL hmd HT5 HR5 HB5 HO5 HBK
            generalize w5.drew = w6 at ht6 hr6 hb6 ho6 hk6 ⊢
            have q4 := hk6.cell 4 _ rfl
            have HT6 := Lib.hid ht6; clear ht6
            have HR6 := Lib.hid hr6; clear hr6
            have HB6 := Lib.hid hb6; clear hb6
            have HO6 := Lib.hid ho6; clear ho6
            have HCELL2 := Lib.hid (show ∀ W, Below w6.drew.heap.size w6.drew W → W.cell? ⟨r, 0, none⟩ = some (.string S1) ∧ W.cell? ⟨r, 1, none⟩ = some (.string L1) ∧ W.cell? ⟨r, 4, none⟩ = some (.bool false) from fun W hW =>
              have hk : Whole W r _ _ := (hk6.drew).below hW hk6.size
              ⟨hk.cell 0 _ rfl, hk.cell 1 _ rfl, hk.cell 4 _ rfl⟩)
            clear hk6
            have HCV := Lib.hid (show ∀ W, Below w6.drew.heap.size w6.drew W → (convert 31 9 (.slice A5 Y.length c5)).run Try.prog W = .ok (.string (strB Y)) W from fun W hW => run_convB (HO6.out.below (((Below.refl _ w6).drew).trans hW) (Nat.le_refl _)))
            have HE1 := Lib.hid (show (strB Y).toList = (S1 ++ L1 : ByteArray).toList from by rw [HY.out, HS1.out, HL1.out, strB_append])
            have hlo := loose_any w.heap.size p ov' ⟨sure, loose, room', left, false⟩ w6.drew (HT6.out.mv ((Mv.refl (fun _ => False) w6).drew) (fun h => h) (fun _ _ h => h))
            simp only at hlo
            rw [← HM.out] at hlo
            have HLO := Lib.hid hlo; clear hlo
            go_wp2_with fail
            refine wp_region_planB [(true, 0), (true, 1), (true, 2), (true, 3), (true, 4), (true, 5), (true, 6), (true, 7), (true, 8), (true, 9), (true, 10), (true, 11), (true, 12), (true, 13), (true, 14), (true, 15), (true, 16), (true, 17), (true, 18), (true, 19), (true, 21), (true, 22), (true, 23), (true, 24), (true, 25), (false, 20), (true, 26), (true, 27)] (by kernel_rfl) (by kernel_rfl) (fun _ _ d _ _ h => by cases d <;> exact h) ?_
            repeat (refine PlanB.take (v := ?_) rfl rfl ?_ ?_; rotate_left; (focus (intro W hW; obtain ⟨q0, q1, q4⟩ := HCELL2.out W hW; have hcv := HCV.out W hW; have e1 := HE1.out; go_simp; (try with_reducible rfl); done)); (try simp only [Act.put, List.setIfInBounds_toArray, List.set_cons_zero, List.set_cons_succ]))
            refine PlanB.step rfl rfl (fun Kk hKk => ?_)
            go_simp
            go_at_call 19
            refine HLO.out.mono ?_
            rintro e w7 ⟨rfl, hbw⟩
            have HBW := Lib.hid hbw
            have hb7 : Below w6.heap.size w6 w7 := ((Below.refl _ w6).drew).trans hbw
            have HT7 := Lib.hid (HT6.out.mv (Mv.of_new hb7 (fun _ => False)) (fun h => h) (fun _ _ h => h))
            have HR7 := Lib.hid (HR6.out.mv (Mv.of_new hb7 (fun _ => False)) (fun h => h))
            have HB7 := Lib.hid (HB6.out.trans (hb7.mono HT6.out.low.2.2))
            refine hKk.out _ _ HBW.out ?_
            clear hKk Kk HBW hbw hb7 HT6 HR6 HB6 HLO HO6 HCV HCELL2
            (try simp only [Act.put, List.setIfInBounds_toArray, List.set_cons_zero, List.set_cons_succ])
            repeat (refine PlanB.take (v := ?_) rfl rfl ?_ ?_; rotate_left; (focus (intro W hW; have z1 := HZ1.out; go_simp; (try with_reducible rfl); done)); (try simp only [Act.put, List.setIfInBounds_toArray, List.set_cons_zero, List.set_cons_succ]))
            simp only [PlanB]
            go_wp2_with fail
            go_roundw
            case rel => exact ⟨i + 1, _, _, by omega, by go_num, HT7.out, HR7.out, HOR2.out, HB7.out⟩
            case measure => simp [intOf]; omega
      · have hex : ¬ ((i : Int) < (l.length : Int)) ∨ ((i : Int) < (l.length : Int) ∧ ¬ ((i : Int) < 100)) := by omega
        clear hgo
        rcases hex with h1 | ⟨h1, h2⟩
        · go_wp2_with fail
          go_ret
          exact ⟨rfl, HB.out⟩
        · go_wp2_with fail
          go_ret
          exact ⟨rfl, HB.out⟩
end Go.Proofs.Ythkhcobdcmclfaa

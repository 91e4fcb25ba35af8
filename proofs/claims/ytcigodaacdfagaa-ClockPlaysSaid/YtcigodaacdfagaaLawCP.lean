/- ClockPlays's walk. -/
import Derived.Test.YtcigodaacdfagaaCActs
import Derived.Test.YtcigodaacdfagaaRInts
import Derived.Deep.CutBlock
import Derived.Deep.DeepCutAuto
import Derived.Deep.Cut
import Derived.Deep.CutRange
namespace Go.Proofs.Ytcigodaacdfagaa
open Go.RowKit

set_option maxHeartbeats 8000000 in
set_option maxRecDepth 100000 in
theorem clockPlays_walk (l : List CAct) (v : Value) (w : World) (hv : Rd encCA 3 w w.heap.size v l) (hl : l.length ≤ 140737488351232) (hall : ∀ a ∈ l, I64 a.bell ∧ I64 a.n) :
    Calls Try.prog 3 #[v] w fun e w' => e = .returned (.bool true) ∧ Below w.heap.size w w' := by
  obtain ⟨A, cl, rfl, hc, -⟩ := RdCA.at hv
  have HV := Lib.hid hv; clear hv
  have HALL := Lib.hid hall; clear hall
  have HN := Lib.hid (cnew_any w)
  go_enter Try.func3, Try.ntmps3
  go_wp2_with fail
  refine HN.out.mono ?_
  rintro e w1 ⟨q, G0, rfl, ht, hb⟩
  have HA := Lib.hid (awake_any w1)
  have H1 := Lib.hid ht; clear ht HN
  have HB := Lib.hid hb; clear hb
  go_wp2_with fail
  refine HA.out.mono ?_
  rintro e w2 ⟨rfl, hb⟩
  have H2 := Lib.hid (H1.out.mv (Mv.of_new hb (fun _ => False)) (fun _ _ h => h))
  have HB2 := Lib.hid (HB.out.trans (hb.mono HB.out.size))
  clear hb HA H1 HB
  go_wp2_with fail
  have hb3 : Below w2.heap.size w2 (w2.alloc (.cells #[.int .i64 0, .slice none 0 0] 29)) := (Below.refl _ w2).alloc (Nat.le_refl _) _
  have hr3 : RkAt (w2.alloc (.cells #[.int .i64 0, .slice none 0 0] 29)) w.heap.size w2.heap.size (fun i => i = w2.heap.size) Ck.new :=
    ⟨⟨none, 0, Whole.fresh w2 _ [_, _], RdG.none_ _ _ _ _ _⟩, rfl, ⟨by have := HB2.out.size; simp; omega, fun i hi => by have := HB2.out.size; simp; omega⟩, Ck.Ok.new⟩
  have HM3 := Lib.hid (show Mid _ w.heap.size q w2.heap.size G0 (fun i => i = w2.heap.size) Ck.new Ck.new from ⟨H2.out.mv (Mv.of_new hb3 (fun _ => False)) (fun _ _ h => h), hr3, fun i hi e => by have := (H2.out.low.2 i hi).2; omega⟩)
  have HB3 := Lib.hid (HB2.out.trans (hb3.mono HB2.out.size))
  clear H2 HB2 hb3 hr3
  generalize (w2.alloc (.cells #[.int .i64 0, .slice none 0 0] 29)) = w3 at HM3 HB3 ⊢
  obtain ⟨Gr0, hGr0⟩ : ∃ Gr0 : Nat → Prop, Gr0 = fun i => i = w2.heap.size := ⟨_, rfl⟩
  rw [← hGr0] at HM3
  clear hGr0
  generalize w2.heap.size = r at HM3 ⊢
  go_loopw [5] (fun iv wr => ∃ (i : Nat) (G Gr : Nat → Prop) (c : Ck), i ≤ 200 ∧ iv = .int .i64 (i : Int) ∧ Mid wr w.heap.size q r G Gr c c ∧ Below w.heap.size w wr) (fun iv _ => 200 - (intOf iv).toNat)
  case atStart => exact ⟨0, G0, Gr0, _, by omega, rfl, HM3.out, HB3.out⟩
  case round =>
    obtain ⟨i, G, Gr, c, hi3, rfl, hm, hb⟩ := hrel
    have HM := Lib.hid hm
    have HB := Lib.hid hb
    have hbs := hb.size
    clear hm hb HM3 HB3
    by_cases hgo : i < l.length ∧ i < 200
    · obtain ⟨hil, hi4⟩ := hgo
      have h1 : (i : Int) < (l.length : Int) := by omega
      have h2 : (i : Int) < 200 := by omega
      have h0 : (0 : Int) ≤ (i : Int) := by omega
      obtain ⟨A', c', e, -, hcell⟩ := RdCA.at (HV.out.below HB.out (Nat.le_refl _))
      injection e with e1 e2 e3
      subst e1 e3
      obtain ⟨ba, o, rfl, hbl, q0, q1, q2⟩ := hcell i hil
      clear hcell
      obtain ⟨hib, hin⟩ := HALL.out l[i] (List.getElem_mem hil)
      generalize l[i] = a at q0 q1 q2 hib hin
      obtain ⟨what, bell, n⟩ := a
      simp only at q0 q1 q2 hib hin
      go_upto_block 2 with fail
      have hG : Whole (wr.alloc (.cells #[.int .i64 what, .int .i64 bell, .int .i64 n] 31)) wr.heap.size 31 [.int .i64 what, .int .i64 bell, .int .i64 n] := Whole.fresh wr _ [_, _, _]
      have hmv : Below wr.heap.size wr (wr.alloc (.cells #[.int .i64 what, .int .i64 bell, .int .i64 n] 31)) := (Below.refl wr.heap.size wr).alloc (Nat.le_refl _) _
      have HNG := Lib.hid (HM.out.fresh (Nat.le_refl _)).1
      have HM4 := Lib.hid (HM.out.same hmv)
      have HB4 := Lib.hid (HB.out.trans (hmv.mono hbs))
      have HG := Lib.hid hG
      clear q0 q1 q2 hG hmv h1 h2 h0 HM HB hbs
      generalize (wr.alloc (.cells #[.int .i64 what, .int .i64 bell, .int .i64 n] 31)) = w4 at HG HM4 HB4 ⊢
      generalize wr.heap.size = gA at HG HNG ⊢
      go_cut [7, 8, 9, 10] (fun fv gv xv yv wx => ∃ (e : Int) (G' Gr' : Nat → Prop) (c' : Ck) (A1 : Option Addr) (c1 : Nat) (A2 : Option Addr) (c2 : Nat) (pl : List Int), fv = .int .i64 e ∧ gv = .int .i64 e ∧ xv = .slice A1 pl.length c1 ∧ yv = .slice A2 pl.length c2 ∧ RdI wx wx.heap.size (.slice A1 pl.length c1) pl ∧ RdI wx wx.heap.size (.slice A2 pl.length c2) pl ∧ pl.length ≤ 4096 ∧ Mid wx w.heap.size q r G' Gr' c' c' ∧ Below w.heap.size w wx)
      case first =>
        have hwhat : what = 0 ∨ what = 1 ∨ what = 2 ∨ (¬ what = 0 ∧ ¬ what = 1 ∧ ¬ what = 2) := by omega
        rcases hwhat with h | h | h | ⟨h, h', h''⟩
        case' inl => subst h
        case' inr.inl => subst h
        case' inr.inr.inl => subst h
        · skip
          have HC := Lib.hid (cstop_any w.heap.size q G c bell w4 HM4.out.clk hib)
          have c0 := HG.out.cell 0 _ rfl
          have c1 := HG.out.cell 1 _ rfl
          have c2 := HG.out.cell 2 _ rfl
          go_wp2_with fail
          refine HC.out.mono ?_
          rintro e w5 ⟨rfl, G5, hk5, hG5, hm5⟩
          have HM5 := Lib.hid (HM4.out.prog hk5 hG5 hm5)
          have HG5 := Lib.hid (hm5.whole HG.out HNG.out)
          have HB5 := Lib.hid (HB4.out.trans (HM4.out.below hm5))
          have HR := Lib.hid (rstop_any w.heap.size r Gr c bell w5 HM5.out.ref)
          clear hk5 hG5 hm5 HC c0 c1 c2
          have c0 := HG5.out.cell 0 _ rfl
          have c1 := HG5.out.cell 1 _ rfl
          have c2 := HG5.out.cell 2 _ rfl
          go_wp2_with fail
          refine HR.out.mono ?_
          rintro e w6 ⟨rfl, hw⟩
          obtain ⟨Gr6, hm6, hmv6⟩ := HM5.out.went hw
          have HM6 := Lib.hid hm6
          have HB6 := Lib.hid (HB5.out.trans (HM5.out.belowr hmv6))
          clear hw hm6 hmv6 HR c0 c1 c2
          go_wp2_with fail
          go_meet
          case rel => exact ⟨_, _, _, _, none, 0, none, 0, [], rfl, rfl, rfl, rfl, Rd.none_ _ _ _ _, Rd.none_ _ _ _ _, by simp, HM6.out, HB6.out⟩
        · skip
          have HC := Lib.hid (cset_any w.heap.size q G c bell n w4 HM4.out.clk hib hin)
          have c0 := HG.out.cell 0 _ rfl
          have c1 := HG.out.cell 1 _ rfl
          have c2 := HG.out.cell 2 _ rfl
          go_wp2_with fail
          refine HC.out.mono ?_
          rintro e w5 ⟨rfl, G5, hk5, hG5, hm5⟩
          have HM5 := Lib.hid (HM4.out.prog hk5 hG5 hm5)
          have HG5 := Lib.hid (hm5.whole HG.out HNG.out)
          have HB5 := Lib.hid (HB4.out.trans (HM4.out.below hm5))
          have HR := Lib.hid (rset_any w.heap.size r Gr c bell n w5 HM5.out.ref)
          clear hk5 hG5 hm5 HC c0 c1 c2
          have c0 := HG5.out.cell 0 _ rfl
          have c1 := HG5.out.cell 1 _ rfl
          have c2 := HG5.out.cell 2 _ rfl
          go_wp2_with fail
          refine HR.out.mono ?_
          rintro e w6 ⟨rfl, hw⟩
          obtain ⟨Gr6, hm6, hmv6⟩ := HM5.out.went hw
          have HM6 := Lib.hid hm6
          have HB6 := Lib.hid (HB5.out.trans (HM5.out.belowr hmv6))
          clear hw hm6 hmv6 HR c0 c1 c2
          go_wp2_with fail
          go_meet
          case rel => exact ⟨_, _, _, _, none, 0, none, 0, [], rfl, rfl, rfl, rfl, Rd.none_ _ _ _ _, Rd.none_ _ _ _ _, by simp, HM6.out, HB6.out⟩
        · skip
          have HC := Lib.hid (cset_any w.heap.size q G c bell n w4 HM4.out.clk hib hin)
          have c0 := HG.out.cell 0 _ rfl
          have c1 := HG.out.cell 1 _ rfl
          have c2 := HG.out.cell 2 _ rfl
          go_wp2_with fail
          refine HC.out.mono ?_
          rintro e w5 ⟨rfl, G5, hk5, hG5, hm5⟩
          have HM5 := Lib.hid (HM4.out.prog hk5 hG5 hm5)
          have HG5 := Lib.hid (hm5.whole HG.out HNG.out)
          have HB5 := Lib.hid (HB4.out.trans (HM4.out.below hm5))
          have HR := Lib.hid (rset_any w.heap.size r Gr c bell n w5 HM5.out.ref)
          clear hk5 hG5 hm5 HC c0 c1 c2
          have c0 := HG5.out.cell 0 _ rfl
          have c1 := HG5.out.cell 1 _ rfl
          have c2 := HG5.out.cell 2 _ rfl
          go_wp2_with fail
          refine HR.out.mono ?_
          rintro e w6 ⟨rfl, hw⟩
          obtain ⟨Gr6, hm6, hmv6⟩ := HM5.out.went hw
          have HM6 := Lib.hid hm6
          have HB6 := Lib.hid (HB5.out.trans (HM5.out.belowr hmv6))
          clear hw hm6 hmv6 HR c0 c1 c2
          go_wp2_with fail
          go_meet
          case rel => exact ⟨_, _, _, _, none, 0, none, 0, [], rfl, rfl, rfl, rfl, Rd.none_ _ _ _ _, Rd.none_ _ _ _ _, by simp, HM6.out, HB6.out⟩
        · skip
          have HC := Lib.hid (cpass_any w.heap.size q G c n w4 HM4.out.clk hin)
          obtain ⟨PL, hPL⟩ : ∃ PL, PL = (c.pass n).1.1 := ⟨_, rfl⟩
          have hpl := pass_len HM4.out.clk.ok n
          rw [← hPL] at HC hpl
          have HPL := Lib.hid hPL
          have HPN := Lib.hid hpl
          clear hPL hpl
          have c0 := HG.out.cell 0 _ rfl
          have c2 := HG.out.cell 2 _ rfl
          go_wp2_with fail
          refine HC.out.mono ?_
          rintro e w5 ⟨A5, cap5, rfl, G5, hk5, hG5, hm5, hr5⟩
          have HM5 := Lib.hid (HM4.out.prog hk5 hG5 hm5)
          have HG5 := Lib.hid (hm5.whole HG.out HNG.out)
          have HB5 := Lib.hid (HB4.out.trans (HM4.out.below hm5))
          have HX5 := Lib.hid (hr5.mono (G' := fun i => i = r) (Nat.le_refl _) fun i _ hi => .inr (by rw [hi]; exact ⟨HM4.out.nr, (HM4.out.ref.low.2 r HM4.out.ref.me).2⟩))
          have hrp := rpass_any w.heap.size r Gr c n w5 HM5.out.ref
          rw [← HPL.out] at hrp
          have HR := Lib.hid hrp
          clear hk5 hG5 hm5 hr5 hrp HC c0 c2
          have c0 := HG5.out.cell 0 _ rfl
          have c2 := HG5.out.cell 2 _ rfl
          go_wp2_with fail
          refine HR.out.mono ?_
          rintro e w6 ⟨A6, cap6, rfl, ho6, hk6, hmv6⟩
          have HX6 := Lib.hid (((HX5.out.mv hmv6 (Nat.le_refl _) fun _ _ h => h).mono hmv6.size fun _ _ h => h).rd)
          have HY6 := Lib.hid ho6.rdI
          obtain ⟨Gr6, hm6, hmv6'⟩ := HM5.out.went ⟨Gr, hk6, fun _ h => .inl h, hmv6⟩
          have HM6 := Lib.hid hm6
          have HB6 := Lib.hid (HB5.out.trans (HM5.out.belowr hmv6))
          clear ho6 hk6 hm6 hmv6 hmv6' HR c0 c2
          go_wp2_with fail
          go_meet
          case rel => exact ⟨_, _, _, _, A5, cap5, A6, cap6, PL, rfl, rfl, rfl, rfl, HX6.out, HY6.out, HPN.out, HM6.out, HB6.out⟩
      case rest =>
        obtain ⟨e, G5, Gr5, c5, A1, c1, A2, c2, pl, rfl, rfl, rfl, rfl, hx, hy, hpl, hm, hb⟩ := hcut
        have hm6 : Mid wc.drew w.heap.size q r G5 Gr5 c5 c5 := hm.drew
        have hi := ints_any pl pl _ _ wc.drew (hx.next ((Below.refl _ wc).drew)) (hy.next ((Below.refl _ wc).drew)) (by omega) (by omega)
        rw [show decide (pl = pl) = true from decide_eq_true rfl] at hi
        have HI := Lib.hid hi
        clear hi
        have HM6 := Lib.hid hm6
        have HB6 := Lib.hid hb.drew
        clear hm hb hm6 hx hy hpl HM4 HB4 HG HNG
        go_wp2_with fail
        refine wp_region_planB [(true, 0), (true, 1), (true, 2), (true, 3), (true, 4), (true, 5), (false, 6), (true, 7), (true, 8), (true, 9), (true, 10), (true, 12), (true, 13), (true, 14), (true, 15), (false, 11), (true, 16), (true, 17)] (by kernel_rfl) (by kernel_rfl) (fun _ _ d _ _ h => by cases d <;> exact h) ?_
        repeat (refine PlanB.take (v := ?_) rfl rfl ?_ ?_; rotate_left; (focus (intro W hW; skip; go_simp; (try with_reducible rfl); done)); (try simp only [Act.put, List.setIfInBounds_toArray, List.set_cons_zero, List.set_cons_succ]))
        refine PlanB.step rfl rfl (fun Kk hKk => ?_)
        go_simp
        go_at_call 15
        refine HI.out.mono ?_
        rintro e w7 ⟨rfl, hbw⟩
        have HBW := Lib.hid hbw
        have hm7 := HM6.out.same hbw
        obtain ⟨A8, cap8, hW8, -⟩ := hm7.ref.blk
        have HCELL := Lib.hid (show ∀ W, Below w7.heap.size w7 W → W.cell? ⟨r, 0, none⟩ = some (.int .i64 c5.now) from fun W hW => (hW8.below hW hW8.size).cell 0 _ rfl)
        have HM7 := Lib.hid hm7
        have HNW := Lib.hid (cnow_any w.heap.size q G5 c5 w7 hm7.clk)
        have HB7 := Lib.hid (HB6.out.trans (hbw.mono HB6.out.size))
        refine hKk.out _ _ HBW.out ?_
        clear hKk Kk HBW HM6 HB6 HI hbw hm7 hW8
        (try simp only [Act.put, List.setIfInBounds_toArray, List.set_cons_zero, List.set_cons_succ])
        repeat (refine PlanB.take (v := ?_) rfl rfl ?_ ?_; rotate_left; (focus (intro W hW; have k1 := HCELL.out W hW; go_simp; (try with_reducible rfl); done)); (try simp only [Act.put, List.setIfInBounds_toArray, List.set_cons_zero, List.set_cons_succ]))
        refine PlanB.step rfl rfl (fun Kk hKk => ?_)
        go_simp
        go_at_call 16
        refine HNW.out.mono ?_
        rintro e w8 ⟨rfl, hbw⟩
        have HBW := Lib.hid hbw
        have HM8 := Lib.hid (HM7.out.same hbw)
        have HB8 := Lib.hid (HB7.out.trans (hbw.mono HB7.out.size))
        refine hKk.out _ _ HBW.out ?_
        clear hKk Kk HBW HM7 HB7 HNW HCELL hbw
        (try simp only [Act.put, List.setIfInBounds_toArray, List.set_cons_zero, List.set_cons_succ])
        repeat (refine PlanB.take (v := ?_) rfl rfl ?_ ?_; rotate_left; (focus (intro W hW; skip; go_simp; (try with_reducible rfl); done)); (try simp only [Act.put, List.setIfInBounds_toArray, List.set_cons_zero, List.set_cons_succ]))
        simp only [PlanB]
        go_wp2_with fail
        go_roundw
        case rel => exact ⟨i + 1, G5, Gr5, c5, by omega, by go_num, HM8.out, HB8.out⟩
        case measure => simp [intOf]; omega
    · have hex : ¬ ((i : Int) < (l.length : Int)) ∨ ((i : Int) < (l.length : Int) ∧ ¬ ((i : Int) < 200)) := by omega
      clear hgo
      rcases hex with h1 | ⟨h1, h2⟩
      all_goals
        go_wp2_with fail
        go_ret
        exact ⟨rfl, HB.out⟩
end Go.Proofs.Ytcigodaacdfagaa

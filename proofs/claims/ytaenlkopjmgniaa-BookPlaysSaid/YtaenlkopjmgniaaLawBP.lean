/- BookPlays's walk. -/
import Derived.Test.YtaenlkopjmgniaaBAwk
import Derived.Test.YtaenlkopjmgniaaStep
import Derived.Test.YtaenlkopjmgniaaActs
import Derived.Deep.CutBlock
import Derived.Deep.DeepCutAuto
import Derived.Deep.Cut
import Derived.Deep.CutRange
namespace Go.Proofs.Ytaenlkopjmgniaa
open Go.RowKit

/-- what holds ahead of each act -/
structure BInv (w wr : World) (B p q : Nat) (G : Nat → Prop) (b : Bks) (now cut : List Row) (nv cv : Value) (m : Nat) : Prop where
  bk : BkAt wr w.heap.size q p G b
  inv : Bks.Inv (texts now) (texts cut) b
  rn : RdRs wr B G nv now
  rc : RdRs wr B G cv cut
  ln : now.length ≤ m
  lc : cut.length ≤ m
  bl : Below w.heap.size w wr
  hB : B ≤ wr.heap.size
theorem BInv.mv {D : Nat → Prop} {w wr w' : World} {B p q : Nat} {G : Nat → Prop} {b : Bks} {now cut : List Row} {nv cv : Value} {m : Nat} (h : BInv w wr B p q G b now cut nv cv m) (hm : Mv D wr w') (h1 : ∀ i, G i → ¬ D i) (h2 : ∀ i, i < B → ¬ D i) (h3 : ∀ i, D i → w.heap.size ≤ i) : BInv w w' B p q G b now cut nv cv m :=
  ⟨h.bk.mv hm h1, h.inv, h.rn.mv hm h.hB (fun b hb hd => (h2 b hb hd).elim), h.rc.mv hm h.hB (fun b hb hd => (h2 b hb hd).elim), h.ln, h.lc, h.bl.trans (hm.below h.bk.low.1 h3), Nat.le_trans h.hB hm.size⟩
theorem BInv.new {w wr w' : World} {B p q : Nat} {G : Nat → Prop} {b : Bks} {now cut : List Row} {nv cv : Value} {m : Nat} (h : BInv w wr B p q G b now cut nv cv m) (hm : Below wr.heap.size wr w') : BInv w w' B p q G b now cut nv cv m :=
  h.mv (Mv.of_new hm (fun _ => False)) (fun _ _ h => h) (fun _ _ h => h) (fun _ h => h.elim)
theorem BInv.up {w wr : World} {B B' p q : Nat} {G : Nat → Prop} {b : Bks} {now cut : List Row} {nv cv : Value} {m m' : Nat} (h : BInv w wr B p q G b now cut nv cv m) (hB : B ≤ B') (hB2 : B' ≤ wr.heap.size) (hm : m ≤ m') : BInv w wr B' p q G b now cut nv cv m' :=
  ⟨h.bk, h.inv, h.rn.mono hB (fun _ _ h => h), h.rc.mono hB (fun _ _ h => h), Nat.le_trans h.ln hm, Nat.le_trans h.lc hm, h.bl, hB2⟩

set_option maxHeartbeats 16000000 in
set_option maxRecDepth 100000 in
theorem bookPlays_walk (l : List BAct) (v : Value) (w : World) (hv : Rd encBA 4 w w.heap.size v l) (hl : l.length ≤ 140737488351232)
    (hall : ∀ a ∈ l, RdRs w w.heap.size (fun _ => False) (.slice a.a a.rows.length a.c) a.rows ∧ a.rows.length ≤ 140737488351232 ∧ (∀ r ∈ a.rows, r.l.length ≤ 140737488351232) ∧ a.n < 9223372036854775808) :
    Calls Try.prog 3 #[v] w fun e w' => e = .returned (.bool true) ∧ Below w.heap.size w w' := by
  obtain ⟨A, c, rfl, hc, -⟩ := RdBA.at hv
  have HV := Lib.hid hv; clear hv
  have HALL := Lib.hid hall; clear hall
  have HN := Lib.hid (new_any 262144 (by decide) (by decide) w)
  go_enter Try.func3, Try.ntmps3
  go_wp2_with fail
  refine HN.out.mono ?_
  rintro e w1 ⟨p, rfl, ht, hb⟩
  have HO := Lib.hid (bopen_any w.heap.size p none _ w1 ht Bks.start.1)
  have H1 := Lib.hid ht; clear ht HN
  have HB := Lib.hid hb; clear hb
  go_wp2_with fail
  refine HO.out.mono ?_
  rintro e w2 ⟨q, G, rfl, hbk, hG, hm⟩
  have hb2 : Below w.heap.size w w2 := HB.out.trans (hm.below H1.out.low.2.2 (by rintro i (rfl | h); exact H1.out.low.1; cases h))
  have H2 := Lib.hid hbk
  have HB2 := Lib.hid hb2
  have HA := Lib.hid (awake_any w2)
  clear hbk hG hm hb2 HO H1 HB
  go_wp2_with fail
  refine HA.out.mono ?_
  rintro e w3 ⟨rfl, hb3⟩
  have H3 := Lib.hid (H2.out.mv (Mv.of_new hb3 (fun _ => False)) (fun _ _ h => h))
  have HB3 := Lib.hid (HB2.out.trans (hb3.mono HB2.out.size))
  clear hb3 HA H2 HB2
  go_wp2_with fail
  go_loopw [5, 7, 8, 9, 10] (fun bv nv cv dv iv wr => ∃ (i q : Nat) (G : Nat → Prop) (b : Bks) (now cut : List Row), i ≤ 60 ∧ iv = .int .i64 (i : Int) ∧ bv = .pointer (some ⟨q, 0, none⟩) ∧ dv = .bool b.dead ∧ BInv w wr wr.heap.size p q G b now cut nv cv (i * 20)) (fun _ _ _ _ iv _ => 60 - (intOf iv).toNat)
  case atStart =>
    have hmv : Mv (fun _ => False) w3 ((w3.alloc (.cells #[] 36)).alloc (.cells #[] 36)) := ((Mv.refl _ w3).alloc _).alloc _
    exact ⟨0, q, G, _, [], [], by omega, rfl, rfl, by rw [Bks.start.2.2], ⟨H3.out.mv hmv (fun _ _ h => h), Bks.start.2.1, RdRs.nil _ _ _ _ _, RdRs.nil _ _ _ _ _, Nat.zero_le _, Nat.zero_le _, (HB3.out.alloc HB3.out.size _).alloc (Nat.le_trans HB3.out.size (by simp)) _, Nat.le_refl _⟩⟩
  case round =>
    obtain ⟨i, q2, G2, b, now, cut, hi6, rfl, rfl, rfl, hinv⟩ := hrel
    obtain ⟨An, cn, rfl, -, -⟩ := hinv.rn.1
    obtain ⟨Ac, cc, rfl, -, -⟩ := hinv.rc.1
    have hbs := hinv.bk.low.1
    clear H3 HB3
    by_cases hgo : i < l.length ∧ i < 60
    · obtain ⟨hil, hi7⟩ := hgo
      have h1 : (i : Int) < (l.length : Int) := by omega
      have h2 : (i : Int) < 60 := by omega
      obtain ⟨A', c', e, -, hcell⟩ := RdBA.at (HV.out.below hinv.bl (Nat.le_refl _))
      injection e with e1 e2 e3
      subst e1 e3
      obtain ⟨ba, oa, rfl, hbl, k0, k1, k2, k3⟩ := hcell i hil
      clear hcell e2
      obtain ⟨hrd, hlen, hrl, hn⟩ := HALL.out l[i] (List.getElem_mem hil)
      have hrd4 := hrd.mv (Mv.of_below hinv.bl) (Nat.le_refl _) (fun b h1 h2 => by omega)
      generalize l[i] = a at k0 k1 k2 k3 hrd4 hlen hrl hn
      obtain ⟨what, n, Al, cl, rows, turn⟩ := a
      simp only at k0 k1 k2 k3 hrd4 hlen hrl hn
      have HRD := Lib.hid hrd4
      have HINV := Lib.hid hinv
      have HRL := Lib.hid hrl
      clear hrd hrd4 hinv hrl
      go_upto_if 57 with fail
      have hG4 : Whole (wr.alloc (.cells #[.int .i64 what, .int .i64 n, .slice Al rows.length cl, .int .u8 (turn.toNat : Int)] 33)) wr.heap.size 33 _ := Whole.fresh wr _ [_, _, _, _]
      have hbe : Below wr.heap.size wr (wr.alloc (.cells #[.int .i64 what, .int .i64 n, .slice Al rows.length cl, .int .u8 (turn.toNat : Int)] 33)) := (Below.refl _ _).alloc (Nat.le_refl _) _
      have hinv4 := HINV.out.new hbe
      have hrd4 := HRD.out.mv (Mv.of_new hbe (fun _ => False)) hbs (fun _ _ h => h)
      have hga : ∀ i, G2 i → i ≠ wr.heap.size := fun i hi => Nat.ne_of_lt ((HINV.out.bk.low).2 i hi).2
      have hgb : w.heap.size ≤ wr.heap.size := hbs
      clear HINV HRD k0 k1 k2 k3 h1 h2 hbe hbs
      generalize (wr.alloc (.cells #[.int .i64 what, .int .i64 n, .slice Al rows.length cl, .int .u8 (turn.toNat : Int)] 33)) = w4 at hG4 hinv4 hrd4 ⊢
      generalize wr.heap.size = ga at hG4 hga hgb hinv4 ⊢
      have HG4 := Lib.hid hG4
      have HINV := Lib.hid hinv4
      have HRD := Lib.hid hrd4
      have HGA := Lib.hid hga
      have HGB := Lib.hid hgb
      clear hG4 hinv4 hrd4 hga hgb
      go_cut [] (fun wx => ∃ (A2 : Option Addr) (c2 : Nat) (rows2 : List Row), rows2.length ≤ 20 ∧ (∀ r ∈ rows2, r.l.length ≤ 140737488351232) ∧ Whole wx ga 33 [.int .i64 what, .int .i64 n, .slice A2 rows2.length c2, .int .u8 (turn.toNat : Int)] ∧
        RdRs wx w.heap.size (fun _ => False) (.slice A2 rows2.length c2) rows2 ∧ BInv w wx ga p q2 G2 b now cut (.slice An now.length cn) (.slice Ac cut.length cc) (i * 20))
      case first =>
        as_aux_lemma =>
          by_cases hbig : 20 < rows.length
          · have hb1 : (20 : Int) < (rows.length : Int) := by omega
            obtain ⟨_, _, e, hcl, _⟩ := HRD.out.1
            injection e with e1 e2 e3
            have hc20 : (20 : Int) ≤ (cl : Int) := by omega
            have y2 := HG4.out.cell 2 _ rfl
            have y2f := HG4.out.frozen 2
            have hlt4 := HG4.out.size
            clear e1 e2 e3 hcl
            go_wp2_with fail
            go_meet
            case rel =>
              have hmv : Mv (fun i => i = ga) w4 (w4.setCell ⟨ga, 2, none⟩ (.slice Al 20 cl)) := (Mv.refl (fun i => i = ga) w4).setCell (p := ⟨ga, 2, none⟩) (fun _ => rfl) _
              have hl2 : (rows.take 20).length = 20 := by rw [List.length_take]; omega
              refine ⟨Al, cl, rows.take 20, by omega, fun r hr => HRL.out r (List.mem_of_mem_take hr), ?_, ?_, ?_⟩
              · have := HG4.out.put 2 (.slice Al 20 cl)
                simp only [List.set] at this
                rw [hl2]
                exact this
              · rw [hl2]
                exact ((HRD.out.take 20 (by omega)).mono (Nat.le_refl _) (fun i hi (h : i = ga) => by have := HGB.out; omega)).mv (G := fun i => i = ga) hmv (Nat.le_trans HINV.out.bk.low.1 (Nat.le_refl _)) (fun _ _ h => h) |>.mono (Nat.le_refl _) (fun _ _ h => h.elim)
              · exact HINV.out.mv hmv (fun i hi h => HGA.out i hi h) (fun i hi (h : i = ga) => by omega) (fun i (h : i = ga) => by rw [h]; exact HGB.out)
          · have hb1 : ¬ (20 : Int) < (rows.length : Int) := by omega
            have y2 := HG4.out.cell 2 _ rfl
            go_wp2_with fail
            go_meet
            case rel => exact ⟨Al, cl, rows, by omega, HRL.out, HG4.out, HRD.out, HINV.out⟩
      case rest =>
        as_aux_lemma =>
          obtain ⟨A2, c2, rows2, hl20, hrl2, hG5, hrd5, hinv5⟩ := hcut
          obtain ⟨wa, hwa⟩ : ∃ wa, wa = wc := ⟨_, rfl⟩
          rw [← hwa] at hG5 hrd5 hinv5 ⊢
          clear hwa
          have HG5 := Lib.hid hG5
          have HRD5 := Lib.hid hrd5
          have HINV5 := Lib.hid hinv5
          have HRL2 := Lib.hid hrl2
          have hlow := hinv5.bk.low
          have HLOW := Lib.hid hlow.2
          have hbs5 := hlow.1
          have hgl : ga < wa.heap.size := hG5.size
          have y0 := hG5.cell 0 _ rfl
          have y1 := hG5.cell 1 _ rfl
          have y2 := hG5.cell 2 _ rfl
          have y3 := hG5.cell 3 _ rfl
          clear hG5 hrd5 hinv5 hrl2 hlow HG4 HINV HRD HRL
          go_upto_if 122 with fail
          go_cut [122] (fun bv wx => ∃ bb : Bool, bv = .bool bb ∧ (bb = true ↔ (what = 0 ∨ what = 1 ∨ what = 2)) ∧ wx = wa)
          case first =>
            by_cases d0 : what = 0
            · subst d0
              go_wp2_with fail
              go_meet
              case rel => exact ⟨true, rfl, by simp, rfl⟩
            · by_cases d1 : what = 1
              · subst d1
                go_wp2_with fail
                go_meet
                case rel => exact ⟨true, rfl, by simp, rfl⟩
              · by_cases d2 : what = 2
                · subst d2
                  go_wp2_with fail
                  go_meet
                  case rel => exact ⟨true, rfl, by simp, rfl⟩
                · go_wp2_with fail
                  go_meet
                  case rel => exact ⟨(what == 2), rfl, by simp [d0, d1, d2], rfl⟩
          case rest =>
            as_aux_lemma =>
              obtain ⟨bb, rfl, hbb, hwc⟩ := hcut
              rw [hwc]
              clear hwc
              cases bb with
              | true =>
                have hw012 := hbb.1 rfl
                clear hbb
                go_wp2_with (at_builtin; go_must (refine wpList_addR rfl _ _ rfl wa.heap.size _ [] rfl (Own.empty _ _ (Nat.le_refl _)) w.heap.size _ rows2 rfl ((HRD5.out.mv ((Mv.refl (fun _ => False) wa).alloc _) hbs5 (fun _ _ h => h)).rd) (by simp; omega) (by simp) ?_))
                intro A6 c6 w5 ho hg
                have ho6 : OwnR w5 wa.heap.size (.slice A6 rows2.length c6) rows2 := by simpa using ho.out
                have hb5 : Below wa.heap.size wa w5 := ((Below.refl _ wa).alloc (Nat.le_refl _) _).grown hg.out (by simp) (by simp [Value.ownBlock])
                have HO6 := Lib.hid ho6
                have HI6 := Lib.hid (HINV5.out.new hb5)
                have HG6 := Lib.hid (HG5.out.below hb5 hgl)
                have HRD6 := Lib.hid (HRD5.out.mv (Mv.of_new hb5 (fun _ => False)) hbs5 (fun _ _ h => h))
                have hbs6 : w.heap.size ≤ w5.heap.size := Nat.le_trans hbs5 hb5.size
                have hwa6 := hb5.size
                have HINVB := Lib.hid HINV5.out.inv
                have HLN := Lib.hid HINV5.out.ln
                have HLC := Lib.hid HINV5.out.lc
                have y0 := HG6.out.cell 0 _ rfl
                have y2 := HG6.out.cell 2 _ rfl
                clear ho hg ho6 hb5 HINV5 HG5 HRD5
                go_upto_if 132 with fail
                go_cut [12, 13] (fun gv xv wx => ∃ (g : Int) (b' : Bks) (G' : Nat → Prop) (A3 : Option Addr) (c3 : Nat) (rows3 : List Row), gv = .int .i64 g ∧ xv = .slice A3 rows3.length c3 ∧ Bks.StepOk (texts now) (texts cut) (texts rows2) (texts rows3) b b' g ∧ BkAt wx w.heap.size q2 p G' b' ∧ RdRs wx wx.heap.size G' (.slice A3 rows3.length c3) rows3 ∧ rows3.length ≤ i * 20 + 20 ∧ RdRs wx wx.heap.size G' (.slice An now.length cn) now ∧ RdRs wx wx.heap.size G' (.slice Ac cut.length cc) cut ∧ Below w.heap.size w wx ∧ Whole wx ga 33 [.int .i64 what, .int .i64 n, .slice A2 rows2.length c2, .int .u8 (turn.toNat : Int)] ∧ RdRs wx w.heap.size (fun _ => False) (.slice A2 rows2.length c2) rows2)
                case first =>
                  as_aux_lemma =>
                    have hrs6 : RdRs w5 w5.heap.size G2 (.slice A2 rows2.length c2) rows2 := HRD6.out.mono hbs6 (fun b hb hg => by have := (HI6.out.bk.low.2 b hg).1; omega)
                    have hrl2 := HRL2.out
                    by_cases h2 : what = 2
                    · as_aux_lemma =>
                        subst h2
                        have HC := Lib.hid (breset_any w.heap.size q2 p G2 b rows2 _ w5 HI6.out.bk hrs6 (by omega) hrl2)
                        clear hrs6 hrl2
                        go_wp2_with fail
                        refine HC.out.mono ?_
                        rintro e w6 ⟨rfl, G', hbk, hG', hmv⟩
                        have hst := Bks.step_reset (list := texts rows2) HI6.out.inv
                        go_wp2_with fail
                        go_meet
                        case rel =>
                          have hnx : RdRs w5 w5.heap.size G2 (.slice A6 rows2.length c6) rows2 := HO6.out.rs (fun b hb hg => by have := HLOW.out b hg; omega) (fun r hr => (HRD6.out.2 r hr).mono hbs6 (fun b hb hg => by have := (HI6.out.bk.low.2 b hg).1; omega))
                          refine ⟨_, _, G', A6, c6, rows2, rfl, rfl, hst, hbk, hnx.shift (Nat.le_refl _) hmv hG', by omega, HI6.out.rn.shift HI6.out.hB hmv hG', HI6.out.rc.shift HI6.out.hB hmv hG', HI6.out.bl.trans (hmv.below HI6.out.bk.low.1 (fun i hi => (HI6.out.bk.low.2 i hi).1)), hmv.whole HG6.out (fun h => HGA.out _ h rfl), HRD6.out.mv hmv hbs6 (fun b hb hg => by have := (HI6.out.bk.low.2 b hg).1; omega)⟩
                    · as_aux_lemma =>
                        have h2b : (what == 2) = false := by simp [h2]
                        have HC := Lib.hid (badd_any w.heap.size q2 p G2 b rows2 _ w5 HI6.out.bk hrs6 (by omega) hrl2 (fun hd => by rw [HI6.out.inv.alive hd]; have := HI6.out.inv.len; omega))
                        clear hrs6 hrl2
                        go_wp2_with fail
                        refine HC.out.mono ?_
                        rintro e w6 ⟨rfl, G', hbk, hG', hmv⟩
                        have hst := Bks.step_add (list := texts rows2) HI6.out.inv
                        have HST := Lib.hid hst
                        have HG7 := Lib.hid (hmv.whole HG6.out (fun h => HGA.out _ h rfl))
                        have HRD7 := Lib.hid (HRD6.out.mv hmv hbs6 (fun b hb hg => by have := (HI6.out.bk.low.2 b hg).1; omega))
                        have HRN7 := Lib.hid (HI6.out.rn.shift HI6.out.hB hmv hG')
                        have HRC7 := Lib.hid (HI6.out.rc.shift HI6.out.hB hmv hG')
                        have HB7 := Lib.hid (HI6.out.bl.trans (hmv.below HI6.out.bk.low.1 (fun i hi => (HI6.out.bk.low.2 i hi).1)))
                        have hln := HI6.out.ln
                        have HBK := Lib.hid hbk
                        have hg7 : ga < w6.heap.size := HG7.out.size
                        have hbs7 : w.heap.size ≤ w6.heap.size := HB7.out.size
                        clear hst hmv hG' hbk HC y0 y2
                        go_wp2_with fail
                        have hS0 : Below w6.drew.heap.size w6.drew w6.drew := Below.refl _ _
                        refine wp_region_plan (S := fun W => Below w6.drew.heap.size w6.drew W) [(true, 1), (true, 3), (true, 4), (false, 0), (false, 2), (false, 5), (true, 6)] (by kernel_rfl) (by kernel_rfl) (fun _ _ d _ _ h => by cases d <;> exact h) hS0 ?_
                        have HCELL := Lib.hid (show ∀ W, Below w6.drew.heap.size w6.drew W → W.cell? ⟨ga, 2, none⟩ = some (.slice A2 rows2.length c2) from fun W hW => (hW.cell (p := ⟨ga, 2, none⟩) hg7).trans (HG7.out.drew.cell 2 _ rfl))
                        iterate 3 (refine Plan.take (v := ?_) rfl rfl ?_ ?_; rotate_left; (focus (intro W hW; have k2 := HCELL.out W hW; go_simp; (try with_reducible rfl); done)); (try simp only [Act.put, List.setIfInBounds_toArray, List.set_cons_zero, List.set_cons_succ]))
                        refine Plan.step rfl rfl (fun Kk hKk => ?_)
                        go_simp
                        refine hKk.out _ _ ((Below.refl _ _).alloc (Nat.le_refl _) _) ?_
                        clear hKk Kk
                        (try simp only [Act.put, List.setIfInBounds_toArray, List.set_cons_zero, List.set_cons_succ])
                        refine Plan.step rfl rfl (fun Kk hKk => ?_)
                        refine wp_addR _ _ rfl w6.drew.heap.size (.slice (some ⟨w6.drew.heap.size, 0, none⟩) 0 0) [] rfl (Own.empty _ _ (Nat.le_refl _)) w6.heap.size _ now rfl ((HRN7.out.mv (w' := w6.drew.alloc (.cells #[] 36)) (((Mv.refl (fun _ => False) w6).drew).alloc _) (Nat.le_refl _) (fun _ _ h => h.elim)).rd) (by simp; omega) (by simp) (fun A8 c8 w8 ho8 hg8 => ?_)
                        have hb8 : Below w6.drew.heap.size w6.drew w8 := ((Below.refl _ w6.drew).alloc (Nat.le_refl _) _).grown hg8 (by simp) (by simp [Value.ownBlock])
                        have HO8 := Lib.hid (show OwnR w8 w6.drew.heap.size (.slice A8 now.length c8) now by simpa using ho8)
                        have hb68 : Below w6.heap.size w6 w8 := ((Below.refl _ w6).drew).trans hb8
                        refine hKk.out _ _ hb8 ?_
                        clear hKk Kk ho8 hg8
                        (try simp only [Act.put, List.setIfInBounds_toArray, List.set_cons_zero, List.set_cons_succ, List.nil_append])
                        refine Plan.step rfl rfl (fun Kk hKk => ?_)
                        refine wp_addR _ _ rfl w6.drew.heap.size (.slice A8 now.length c8) now rfl HO8.out w.heap.size _ rows2 rfl ((HRD7.out.mv (Mv.of_new hb68 (fun _ => False)) hbs7 (fun _ _ h => h)).rd) (by omega) hb8.size (fun A9 c9 w9 ho9 hg9 => ?_)
                        have hb9 : Below w6.drew.heap.size w6.drew w9 := hb8.grown hg9 hb8.size (fun k hk => (HO8.out.low hk).1)
                        refine hKk.out _ _ hb9 ?_
                        clear hKk Kk
                        (try simp only [Act.put, List.setIfInBounds_toArray, List.set_cons_zero, List.set_cons_succ])
                        (refine Plan.take (v := ?_) rfl rfl ?_ ?_; rotate_left; (focus (intro W hW; go_simp; (try with_reducible rfl); done)); (try simp only [Act.put, List.setIfInBounds_toArray, List.set_cons_zero, List.set_cons_succ]))
                        simp only [Plan]
                        have hb69 : Below w6.heap.size w6 w9 := ((Below.refl _ w6).drew).trans hb9
                        have HO9 := Lib.hid (show OwnR w9 w6.heap.size (.slice A9 (now ++ rows2).length c9) (now ++ rows2) from ho9)
                        have HB69 := Lib.hid hb69
                        obtain ⟨rows3, hr3⟩ : ∃ rows3, rows3 = now ++ rows2 := ⟨_, rfl⟩
                        have hr3l : now.length + rows2.length = rows3.length := by rw [hr3, List.length_append]
                        rw [← hr3] at HO9
                        (try rw [← hr3])
                        have HR3 := Lib.hid hr3
                        (try simp only [hr3l])
                        clear ho9 hg9 hb9 hb8 hb68 hb69 HO8 hS0 HCELL hr3
                        go_wp2_with fail
                        go_meet
                        case rel =>
                          have hmv9 := Mv.of_new HB69.out (fun _ => False)
                          have hn9 := (HRN7.out.mv hmv9 (Nat.le_refl _) (fun _ _ h => h.elim)).mono (B' := w9.heap.size) HB69.out.size (fun _ _ h => h)
                          have hc9 := (HRC7.out.mv hmv9 (Nat.le_refl _) (fun _ _ h => h.elim)).mono (B' := w9.heap.size) HB69.out.size (fun _ _ h => h)
                          have hrd9 := HRD7.out.mv hmv9 hbs7 (fun _ _ h => h)
                          have hx9 : RdRs w9 w9.heap.size G' (.slice A9 rows3.length c9) rows3 := HO9.out.rs (fun b hb hg => by have := (HBK.out.low.2 b hg).2; omega) (fun r hr => by
                            rw [HR3.out] at hr
                            rcases List.mem_append.1 hr with hr | hr
                            · exact hn9.2 r hr
                            · exact (hrd9.2 r hr).mono (Nat.le_trans hbs7 HB69.out.size) (fun b hb hg => by have := (HBK.out.low.2 b hg).1; omega))
                          refine ⟨_, _, G', A9, c9, rows3, rfl, rfl, ?_, HBK.out.mv hmv9 (fun _ _ h => h), hx9, by omega, hn9, hc9, HB7.out.trans (HB69.out.mono hbs7), hmv9.whole HG7.out (fun h => h), hrd9⟩
                          rw [HR3.out]
                          have := HST.out
                          simp only [texts, List.map_append] at this ⊢
                          exact this
                case rest =>
                  as_aux_lemma =>
                    obtain ⟨g, b', G', A3, c3, rows3, rfl, rfl, hst, hbk, hr3, hl3, hn9, hc9, hb9, hg9, hrd9⟩ := hcut
                    obtain ⟨wb, hwb⟩ : ∃ wb, wb = wc := ⟨_, rfl⟩
                    rw [← hwb] at hbk hr3 hn9 hc9 hb9 hg9 hrd9 ⊢
                    clear hwb HG6 HRD6 HI6 HO6 y0 y1 y2 y3
                    have HBK := Lib.hid hbk
                    have HR3 := Lib.hid hr3
                    have HN9 := Lib.hid hn9
                    have HC9 := Lib.hid hc9
                    have HB9 := Lib.hid hb9
                    have HG9 := Lib.hid hg9
                    have HRD9 := Lib.hid hrd9
                    have hlow9 := hbk.low
                    have hbs9 := hlow9.1
                    have HLOW9 := Lib.hid hlow9.2
                    have z2 := hg9.cell 2 _ rfl
                    clear hbk hr3 hn9 hc9 hb9 hg9 hrd9 hlow9
                    rcases hst with ⟨hd, rfl, hbb⟩ | ⟨hd, hf, rfl, hbb⟩ | ⟨hd, hf, hfn, hst⟩
                    · as_aux_lemma =>
                        have HBB := Lib.hid hbb
                        have HINV0 := Lib.hid HINVB.out
                        rw [hd]
                        have HD := Lib.hid hd
                        clear hbb hd
                        go_wp2_with fail
                        go_roundw
                        case rel => exact ⟨i + 1, q2, G', b, now, cut, by omega, by go_num, rfl, by rw [HD.out], by have := HBK.out; rw [HBB.out] at this; exact this, HINV0.out, HN9.out, HC9.out, by have := HLN.out; omega, by have := HLC.out; omega, HB9.out, Nat.le_refl _⟩
                        case measure => simp [intOf]; omega
                    · as_aux_lemma =>
                        have HBB := Lib.hid hbb
                        rw [hd]
                        have HD := Lib.hid hd
                        have hrs9 : RdRs wb wb.heap.size (fun _ => False) (.slice A2 rows2.length c2) rows2 := HRD9.out.mono hbs9 (fun _ _ h => h)
                        have hft := fits_any rows2 _ _ wb hrs9 (by omega)
                        rw [decide_eq_false hf] at hft
                        have HFT := Lib.hid hft
                        clear hbb hf hft hrs9 hd
                        go_wp2_with fail
                        refine HFT.out.mono ?_
                        rintro e w7 ⟨rfl, rfl⟩
                        have hrec := brec_any w.heap.size q2 p G' b _ (by have := HBK.out; rw [HBB.out] at this; exact this) (by rw [Bks.Inv.alive HINVB.out HD.out]; have := Bks.Inv.len HINVB.out; omega)
                        have HREC := Lib.hid hrec
                        clear hrec
                        go_wp2_with fail
                        refine HREC.out.mono ?_
                        rintro e w8 ⟨A8, c8, rows8, rfl, hr8, ht8, hb8⟩
                        have hmv8 := Mv.of_new hb8 (fun _ => False)
                        have HBK8 := Lib.hid (HBK.out.mv hmv8 (fun _ _ h => h))
                        have hn8 := (HN9.out.mv hmv8 (Nat.le_refl _) (fun _ _ h => h.elim)).mono (B' := w8.heap.size) hb8.size (fun _ _ h => h)
                        have hc8 := (HC9.out.mv hmv8 (Nat.le_refl _) (fun _ _ h => h.elim)).mono (B' := w8.heap.size) hb8.size (fun _ _ h => h)
                        have hx8 := (HR3.out.mv hmv8 (Nat.le_refl _) (fun _ _ h => h.elim)).mono (B' := w8.heap.size) hb8.size (fun _ _ h => h)
                        have HB88 := Lib.hid (HB9.out.trans (hb8.mono (HBK.out.low.1)))
                        have heq8 : texts rows8 = texts now := by rw [ht8, Bks.Inv.alive HINVB.out HD.out]
                        have hlen8 : rows8.length = now.length := by have := congrArg List.length heq8; simpa [texts] using this
                        have hnl : now.length ≤ 1048576 := by have := Bks.Inv.len HINVB.out; simpa [texts] using this
                        have hsm := rsame_any rows8 now _ _ _ _ w8 hr8 hn8 (by omega) (by omega)
                        rw [decide_eq_true heq8] at hsm
                        have HSM := Lib.hid hsm
                        have HN88 := Lib.hid hn8
                        have HC88 := Lib.hid hc8
                        have HX88 := Lib.hid hx8
                        have hbs8 : w.heap.size ≤ w8.heap.size := Nat.le_trans (HBK.out.low.1) hb8.size
                        clear hr8 ht8 hb8 hmv8 hn8 hc8 hx8 heq8 hlen8 hnl hsm HREC
                        go_wp2_with fail
                        refine HSM.out.mono ?_
                        rintro e w9 ⟨rfl, hb99⟩
                        have hmv9 := Mv.of_new hb99 (fun _ => False)
                        have HBK8 := Lib.hid (HBK8.out.mv hmv9 (fun _ _ h => h))
                        have HN8 := Lib.hid ((HN88.out.mv hmv9 (Nat.le_refl _) (fun _ _ h => h.elim)).mono (B' := w9.heap.size) hb99.size (fun _ _ h => h))
                        have HC8 := Lib.hid ((HC88.out.mv hmv9 (Nat.le_refl _) (fun _ _ h => h.elim)).mono (B' := w9.heap.size) hb99.size (fun _ _ h => h))
                        have HR8 := Lib.hid ((HX88.out.mv hmv9 (Nat.le_refl _) (fun _ _ h => h.elim)).mono (B' := w9.heap.size) hb99.size (fun _ _ h => h))
                        have HB8 := Lib.hid (HB88.out.trans (hb99.mono hbs8))
                        clear hb99 hmv9 HSM
                        go_wp2_with fail
                        go_roundw
                        case rel => exact ⟨i + 1, q2, G', b, now, cut, by omega, by go_num, rfl, by rw [HD.out], by have := HBK8.out; rw [HBB.out] at this; exact this, HINVB.out, HN8.out, HC8.out, by have := HLN.out; omega, by have := HLC.out; omega, HB8.out, Nat.le_refl _⟩
                        case measure => simp [intOf]; omega
                    · as_aux_lemma =>
                        have hrs9 : RdRs wb wb.heap.size (fun _ => False) (.slice A2 rows2.length c2) rows2 := HRD9.out.mono hbs9 (fun _ _ h => h)
                        have hft := fits_any rows2 _ _ wb hrs9 (by omega)
                        rw [decide_eq_true hf] at hft
                        have HFT := Lib.hid hft
                        rw [hd]
                        have HD := Lib.hid hd
                        clear hf hft hrs9 hd
                        rcases hst with ⟨rfl, hd9, hinv9⟩ | ⟨rfl, hd9, hinv9⟩ | ⟨rfl, hd9, hbig9, hinv9⟩
                        · as_aux_lemma =>
                            have HI9 := Lib.hid hinv9
                            have HD9 := Lib.hid hd9
                            clear hinv9 hd9
                            go_wp2_with fail
                            refine HFT.out.mono ?_
                            rintro e w7 ⟨rfl, rfl⟩
                            go_wp2_with fail
                            go_roundw
                            case rel => exact ⟨i + 1, q2, G', b', now, rows3, by omega, by go_num, rfl, by rw [HD9.out], HBK.out, HI9.out, HN9.out, HR3.out, by have := HLN.out; omega, by omega, HB9.out, Nat.le_refl _⟩
                            case measure => simp [intOf]; omega
                        · as_aux_lemma =>
                            have HI9 := Lib.hid hinv9
                            have HD9 := Lib.hid hd9
                            clear hinv9 hd9
                            go_wp2_with fail
                            refine HFT.out.mono ?_
                            rintro e w7 ⟨rfl, rfl⟩
                            have hrec := brec_any w.heap.size q2 p G' b' _ HBK.out (by rw [Bks.Inv.alive HI9.out HD9.out]; have := Bks.Inv.len HI9.out; omega)
                            have HREC := Lib.hid hrec
                            clear hrec
                            go_wp2_with fail
                            refine HREC.out.mono ?_
                            rintro e w8 ⟨A8, c8, rows8, rfl, hr8, ht8, hb8⟩
                            have hmv8 := Mv.of_new hb8 (fun _ => False)
                            have HBK8 := Lib.hid (HBK.out.mv hmv8 (fun _ _ h => h))
                            have hn8 := (HN9.out.mv hmv8 (Nat.le_refl _) (fun _ _ h => h.elim)).mono (B' := w8.heap.size) hb8.size (fun _ _ h => h)
                            have hc8 := (HC9.out.mv hmv8 (Nat.le_refl _) (fun _ _ h => h.elim)).mono (B' := w8.heap.size) hb8.size (fun _ _ h => h)
                            have hx8 := (HR3.out.mv hmv8 (Nat.le_refl _) (fun _ _ h => h.elim)).mono (B' := w8.heap.size) hb8.size (fun _ _ h => h)
                            have HB88 := Lib.hid (HB9.out.trans (hb8.mono (HBK.out.low.1)))
                            have heq8 : texts rows8 = texts rows3 := by rw [ht8, Bks.Inv.alive HI9.out HD9.out]
                            have hlen8 : rows8.length = rows3.length := by have := congrArg List.length heq8; simpa [texts] using this
                            have hnl : rows3.length ≤ 1048576 := by have := Bks.Inv.len HI9.out; simpa [texts] using this
                            have hsm := rsame_any rows8 rows3 _ _ _ _ w8 hr8 hx8 (by omega) (by omega)
                            rw [decide_eq_true heq8] at hsm
                            have HSM := Lib.hid hsm
                            have HN88 := Lib.hid hn8
                            have HC88 := Lib.hid hc8
                            have HX88 := Lib.hid hx8
                            have hbs8 : w.heap.size ≤ w8.heap.size := Nat.le_trans (HBK.out.low.1) hb8.size
                            clear hr8 ht8 hb8 hmv8 hn8 hc8 hx8 heq8 hlen8 hnl hsm HREC
                            go_wp2_with fail
                            refine HSM.out.mono ?_
                            rintro e w9 ⟨rfl, hb99⟩
                            have hmv9 := Mv.of_new hb99 (fun _ => False)
                            have HBK8 := Lib.hid (HBK8.out.mv hmv9 (fun _ _ h => h))
                            have HN8 := Lib.hid ((HN88.out.mv hmv9 (Nat.le_refl _) (fun _ _ h => h.elim)).mono (B' := w9.heap.size) hb99.size (fun _ _ h => h))
                            have HC8 := Lib.hid ((HC88.out.mv hmv9 (Nat.le_refl _) (fun _ _ h => h.elim)).mono (B' := w9.heap.size) hb99.size (fun _ _ h => h))
                            have HR8 := Lib.hid ((HX88.out.mv hmv9 (Nat.le_refl _) (fun _ _ h => h.elim)).mono (B' := w9.heap.size) hb99.size (fun _ _ h => h))
                            have HB8 := Lib.hid (HB88.out.trans (hb99.mono hbs8))
                            clear hb99 hmv9 HSM
                            go_wp2_with fail
                            go_roundw
                            case rel => exact ⟨i + 1, q2, G', b', rows3, rows3, by omega, by go_num, rfl, by rw [HD9.out], HBK8.out, HI9.out, HR8.out, HR8.out, by omega, by omega, HB8.out, Nat.le_refl _⟩
                            case measure => simp [intOf]; omega
                        · as_aux_lemma =>
                            have HI9 := Lib.hid hinv9
                            have HD9 := Lib.hid hd9
                            have hly := rlay_any rows3 _ _ wb HR3.out hfn (by omega)
                            have hbig2 : ¬ ((lay (texts rows3)).length : Int) ≤ 262144 := by omega
                            obtain ⟨ll, hll⟩ : ∃ ll, ll = (lay (texts rows3)).length := ⟨_, rfl⟩
                            rw [← hll] at hly hbig2
                            have HLY := Lib.hid hly
                            clear hinv9 hd9 hly hbig9 hll hfn
                            go_wp2_with fail
                            refine HFT.out.mono ?_
                            rintro e w7 ⟨rfl, rfl⟩
                            go_wp2_with fail
                            refine HLY.out.mono ?_
                            rintro e w10 ⟨A10, c10, rfl, _, hb10⟩
                            have hmv10 := Mv.of_new hb10 (fun _ => False)
                            have HBK10 := Lib.hid (HBK.out.mv hmv10 (fun _ _ h => h))
                            have HN10 := Lib.hid ((HN9.out.mv hmv10 (Nat.le_refl _) (fun _ _ h => h.elim)).mono (B' := w10.heap.size) hb10.size (fun _ _ h => h))
                            have HC10 := Lib.hid ((HC9.out.mv hmv10 (Nat.le_refl _) (fun _ _ h => h.elim)).mono (B' := w10.heap.size) hb10.size (fun _ _ h => h))
                            have HR10 := Lib.hid ((HR3.out.mv hmv10 (Nat.le_refl _) (fun _ _ h => h.elim)).mono (B' := w10.heap.size) hb10.size (fun _ _ h => h))
                            have HB10 := Lib.hid (HB9.out.trans (hb10.mono hbs9))
                            have hbs10 : w.heap.size ≤ w10.heap.size := Nat.le_trans hbs9 hb10.size
                            clear hb10 hmv10 HBK HN9 HC9 HR3 HB9 HG9 HRD9 z2 HLY
                            have HBK := HBK10
                            have HN9 := HN10
                            have HC9 := HC10
                            have HR3 := HR10
                            have HB9 := HB10
                            clear HBK10 HN10 HC10 HR10 HB10
                            have hrec := brec_any w.heap.size q2 p G' b' _ HBK.out (by rw [Bks.Inv.alive HI9.out HD9.out]; have := Bks.Inv.len HI9.out; omega)
                            have HREC := Lib.hid hrec
                            clear hrec
                            go_wp2_with fail
                            refine HREC.out.mono ?_
                            rintro e w8 ⟨A8, c8, rows8, rfl, hr8, ht8, hb8⟩
                            have hmv8 := Mv.of_new hb8 (fun _ => False)
                            have HBK8 := Lib.hid (HBK.out.mv hmv8 (fun _ _ h => h))
                            have hn8 := (HN9.out.mv hmv8 (Nat.le_refl _) (fun _ _ h => h.elim)).mono (B' := w8.heap.size) hb8.size (fun _ _ h => h)
                            have hc8 := (HC9.out.mv hmv8 (Nat.le_refl _) (fun _ _ h => h.elim)).mono (B' := w8.heap.size) hb8.size (fun _ _ h => h)
                            have hx8 := (HR3.out.mv hmv8 (Nat.le_refl _) (fun _ _ h => h.elim)).mono (B' := w8.heap.size) hb8.size (fun _ _ h => h)
                            have HB88 := Lib.hid (HB9.out.trans (hb8.mono (HBK.out.low.1)))
                            have heq8 : texts rows8 = texts now := by rw [ht8, Bks.Inv.alive HI9.out HD9.out]
                            have hlen8 : rows8.length = now.length := by have := congrArg List.length heq8; simpa [texts] using this
                            have hnl : now.length ≤ 1048576 := by have := Bks.Inv.len HI9.out; simpa [texts] using this
                            have hsm := rsame_any rows8 now _ _ _ _ w8 hr8 hn8 (by omega) (by omega)
                            rw [decide_eq_true heq8] at hsm
                            have HSM := Lib.hid hsm
                            have HN88 := Lib.hid hn8
                            have HC88 := Lib.hid hc8
                            have HX88 := Lib.hid hx8
                            have hbs8 : w.heap.size ≤ w8.heap.size := Nat.le_trans (HBK.out.low.1) hb8.size
                            clear hr8 ht8 hb8 hmv8 hn8 hc8 hx8 heq8 hlen8 hnl hsm HREC
                            go_wp2_with fail
                            refine HSM.out.mono ?_
                            rintro e w9 ⟨rfl, hb99⟩
                            have hmv9 := Mv.of_new hb99 (fun _ => False)
                            have HBK8 := Lib.hid (HBK8.out.mv hmv9 (fun _ _ h => h))
                            have HN8 := Lib.hid ((HN88.out.mv hmv9 (Nat.le_refl _) (fun _ _ h => h.elim)).mono (B' := w9.heap.size) hb99.size (fun _ _ h => h))
                            have HC8 := Lib.hid ((HC88.out.mv hmv9 (Nat.le_refl _) (fun _ _ h => h.elim)).mono (B' := w9.heap.size) hb99.size (fun _ _ h => h))
                            have HR8 := Lib.hid ((HX88.out.mv hmv9 (Nat.le_refl _) (fun _ _ h => h.elim)).mono (B' := w9.heap.size) hb99.size (fun _ _ h => h))
                            have HB8 := Lib.hid (HB88.out.trans (hb99.mono hbs8))
                            clear hb99 hmv9 HSM
                            go_wp2_with fail
                            go_roundw
                            case rel => exact ⟨i + 1, q2, G', b', now, cut, by omega, by go_num, rfl, by rw [HD9.out], HBK8.out, HI9.out, HN8.out, HC8.out, by have := HLN.out; omega, by have := HLC.out; omega, HB8.out, Nat.le_refl _⟩
                            case measure => simp [intOf]; omega
              | false =>
                have hwn : ¬ (what = 0 ∨ what = 1 ∨ what = 2) := fun h => by have := hbb.2 h; cases this
                clear hbb
                by_cases d3 : what = 3
                · as_aux_lemma =>
                    subst d3
                    clear hwn
                    obtain ⟨ov, htp, hsub⟩ := HINV5.out.bk.tape
                    have HTP := Lib.hid htp
                    have HSUB := Lib.hid hsub
                    have HF := Lib.hid (fail_any w.heap.size p ov b.t n hn wa htp)
                    clear htp hsub
                    go_wp2_with fail
                    refine HF.out.mono ?_
                    rintro e w5 ⟨rfl, hw⟩
                    obtain ⟨G', hbk, hG'⟩ := HINV5.out.bk.went HTP.out hw
                    have hmv : Mv G2 wa w5 := hw.moved.mono (fun i _ hi => HSUB.out i hi)
                    have HBK := Lib.hid hbk
                    have HG' := Lib.hid hG'
                    have HMV := Lib.hid hmv
                    clear hw hbk hG' hmv HF y0 y1 y2 y3
                    go_wp2_with fail
                    go_roundw
                    case rel => exact ⟨i + 1, q2, G', { b with t := b.t.fail n }, now, cut, by omega, by go_num, rfl, rfl, HBK.out, Bks.fail_law HINV5.out.inv n, HINV5.out.rn.shift HINV5.out.hB HMV.out HG'.out, HINV5.out.rc.shift HINV5.out.hB HMV.out HG'.out, by have := HINV5.out.ln; omega, by have := HINV5.out.lc; omega, HINV5.out.bl.trans (HMV.out.below hbs5 (fun i hi => (HLOW.out i hi).1)), Nat.le_refl _⟩
                    case measure => simp [intOf]; omega
                · as_aux_lemma =>
                    clear hwn
                    obtain ⟨ov, htp, hsub⟩ := HINV5.out.bk.tape
                    have HTP := Lib.hid htp
                    have HSUB := Lib.hid hsub
                    have HF := Lib.hid (crash_any w.heap.size p ov b.t n turn wa htp)
                    obtain ⟨hc0, hcd, hcinv, hcase⟩ := Bks.crash_law HINV5.out.inv n turn
                    obtain ⟨B3, hB3⟩ : ∃ B3, B3 = (Bks.opens (b.t.crash n turn)).2 := ⟨_, rfl⟩
                    rw [← hB3] at hcd hcinv hcase
                    have HC0 := Lib.hid hc0
                    have HCD := Lib.hid hcd
                    have HCI := Lib.hid hcinv
                    have HCA := Lib.hid hcase
                    have HB3 := Lib.hid hB3
                    clear htp hsub hc0 hcd hcinv hcase hB3
                    go_wp2_with fail
                    refine HF.out.mono ?_
                    rintro e w5 ⟨rfl, hw⟩
                    have hmv : Mv G2 wa w5 := hw.moved.mono (fun i _ hi => HSUB.out i hi)
                    have HMV := Lib.hid hmv
                    have hop := bopen_any w.heap.size p ov _ w5 hw.now HC0.out
                    rw [← HB3.out] at hop
                    have HOP := Lib.hid hop
                    have HNW := Lib.hid hw.now
                    clear hw hmv hop HF y0 y1 y2 y3
                    go_wp2_with fail
                    refine HOP.out.mono ?_
                    rintro e w6 ⟨q3, G3, rfl, hbk, hG3, hm6⟩
                    have hmv6 : Mv G2 wa w6 := HMV.out.trans hm6 (fun i _ hi => HSUB.out i hi)
                    have hlow3 := hbk.low
                    have HBK := Lib.hid hbk
                    have HLOW3 := Lib.hid hlow3.2
                    have hbs6 := hlow3.1
                    have HM6 := Lib.hid hmv6
                    have HREC := Lib.hid (brec_any w.heap.size q3 p G3 B3 w6 hbk (by have := Bks.Inv.len HCI.out; omega))
                    clear hbk hG3 hm6 hmv6 hlow3 HOP
                    go_wp2_with fail
                    refine HREC.out.mono ?_
                    rintro e w7 ⟨A7, c7, rows7, rfl, hr7, ht7, hb7⟩
                    have hmv7 := Mv.of_new hb7 (fun _ => False)
                    have hn7 : RdRs w7 w7.heap.size (fun _ => False) (.slice An now.length cn) now := (((HINV5.out.rn.mv HM6.out HINV5.out.hB (fun _ _ h => h)).mv hmv7 (Nat.le_trans HINV5.out.hB HM6.out.size) (fun _ _ h => h.elim))).mono (Nat.le_trans HINV5.out.hB (Nat.le_trans HM6.out.size hb7.size)) (fun _ _ h => h.elim)
                    have hc7 : RdRs w7 w7.heap.size (fun _ => False) (.slice Ac cut.length cc) cut := (((HINV5.out.rc.mv HM6.out HINV5.out.hB (fun _ _ h => h)).mv hmv7 (Nat.le_trans HINV5.out.hB HM6.out.size) (fun _ _ h => h.elim))).mono (Nat.le_trans HINV5.out.hB (Nat.le_trans HM6.out.size hb7.size)) (fun _ _ h => h.elim)
                    have hx7 : RdRs w7 w7.heap.size G3 (.slice A7 rows7.length c7) rows7 := hr7.mono (Nat.le_refl _) (fun b _ hg => (HLOW3.out b hg).2)
                    have HB7 := Lib.hid ((HINV5.out.bl.trans (HM6.out.below hbs5 (fun i hi => (HLOW.out i hi).1))).trans (hb7.mono hbs6))
                    have HBK7 := Lib.hid (HBK.out.mv hmv7 (fun _ _ h => h))
                    have hlr : rows7.length = B3.l.length := by have := congrArg List.length ht7; simpa [texts] using this
                    have hnl := HINV5.out.ln
                    have hcl := HINV5.out.lc
                    have htn : (texts now).length = now.length := texts_len now
                    have htc : (texts cut).length = cut.length := texts_len cut
                    have hlen7 : rows7.length ≤ i * 20 := by
                      rcases HCA.out with h | ⟨_, list, j, hc, hj, h⟩
                      · rw [hlr, h]; omega
                      · have := congrArg List.length hc
                        rw [hlr, h]
                        simp only [List.length_append, List.length_take] at this ⊢
                        omega
                    have hs7 := rsame_any rows7 now _ _ _ _ w7 hx7 hn7 (by omega) (by omega)
                    have HX7 := Lib.hid hx7
                    have HC7 := Lib.hid hc7
                    have HT7 := Lib.hid ht7
                    have hbs7 : w.heap.size ≤ w7.heap.size := Nat.le_trans hbs6 hb7.size
                    by_cases heq : texts rows7 = texts now
                    · as_aux_lemma =>
                        rw [decide_eq_true heq] at hs7
                        have HS7 := Lib.hid hs7
                        clear hr7 ht7 hb7 hmv7 hn7 hc7 hx7 hs7 heq HREC hnl hcl htn htc hlr
                        go_wp2_with fail
                        refine HS7.out.mono ?_
                        rintro e w8 ⟨rfl, hb8⟩
                        have HB8 := Lib.hid hb8
                        clear hb8 HS7
                        go_wp2_with fail
                        go_roundw
                        case rel =>
                          have hmvx := Mv.of_new HB8.out (fun _ => False)
                          have hxx := (HX7.out.mv hmvx (Nat.le_refl _) (fun _ _ h => h.elim)).mono (B' := w8.heap.size) (HB8.out).size (fun _ _ h => h)
                          have hti : Bks.Inv (texts rows7) (texts rows7) B3 := by rw [HT7.out]; exact HCI.out
                          exact ⟨i + 1, q3, G3, B3, rows7, rows7, by omega, by go_num, rfl, by rw [HCD.out], HBK7.out.mv hmvx (fun _ _ h => h), hti, hxx, hxx, by omega, by omega, HB7.out.trans ((HB8.out).mono hbs7), Nat.le_refl _⟩
                        case measure => simp [intOf]; omega
                    · as_aux_lemma =>
                        rw [decide_eq_false heq] at hs7
                        have HS7 := Lib.hid hs7
                        have hcs : b.dead = true ∧ (rows7.length : Int) ≤ (cut.length : Int) ∧ (now.length : Int) ≤ (rows7.length : Int) ∧ texts rows7 = texts (cut.take rows7.length) := by
                          rcases HCA.out with h | ⟨hd, list, j, hc, hj, h⟩
                          · exact absurd (by rw [ht7, h]) heq
                          · have h1 := congrArg List.length hc
                            have h2 : rows7.length = now.length + j := by
                              rw [hlr, h, List.length_append, List.length_take, htn]; omega
                            rw [List.length_append, htc, htn] at h1
                            refine ⟨hd, by omega, by omega, ?_⟩
                            rw [ht7, h, show texts (cut.take rows7.length) = (texts cut).take rows7.length by simp [texts], hc, h2, ← htn, List.take_append]
                            simp only [Nat.add_sub_cancel_left]
                            rw [List.take_of_length_le (Nat.le_add_right _ _)]
                        obtain ⟨hd, hle, hge, htk⟩ := hcs
                        obtain ⟨_, _, e, hccl, _⟩ := HC7.out.1
                        injection e with e1 e2 e3
                        have hcap : (rows7.length : Int) ≤ (cc : Int) := by omega
                        have hle2 : rows7.length ≤ cut.length := by omega
                        have HTK := Lib.hid htk
                        rw [hd]
                        have HDD := Lib.hid hd
                        clear hr7 ht7 hb7 hmv7 hn7 hc7 hx7 hs7 heq HREC hnl hcl htn htc hlr hd htk e1 e2 e3 hccl
                        go_wp2_with fail
                        refine HS7.out.mono ?_
                        rintro e w8 ⟨rfl, hb8⟩
                        have hmv8 := Mv.of_new hb8 (fun _ => False)
                        have hk8 : (cut.take rows7.length).length = rows7.length := by rw [List.length_take]; omega
                        have hs8 := rsame_any rows7 (cut.take rows7.length) _ _ _ _ w8 ((HX7.out.mv hmv8 (Nat.le_refl _) (fun _ _ h => h.elim)).mono (B' := w8.heap.size) hb8.size (fun _ _ h => h)) (((HC7.out.mv hmv8 (Nat.le_refl _) (fun _ _ h => h.elim)).take rows7.length hle2).mono (B' := w8.heap.size) hb8.size (fun _ _ h => h)) (by omega) (by omega)
                        rw [decide_eq_true HTK.out] at hs8
                        have HS8 := Lib.hid hs8
                        have HB8 := Lib.hid hb8
                        clear hb8 hmv8 hs8 HS7 hk8
                        go_wp2_with fail
                        refine HS8.out.mono ?_
                        rintro e w9 ⟨rfl, hb9⟩
                        have HB9 := Lib.hid (HB8.out.trans (hb9.mono HB8.out.size))
                        clear hb9 HS8
                        go_wp2_with fail
                        go_roundw
                        case rel =>
                          have hmvx := Mv.of_new HB9.out (fun _ => False)
                          have hxx := (HX7.out.mv hmvx (Nat.le_refl _) (fun _ _ h => h.elim)).mono (B' := w9.heap.size) (HB9.out).size (fun _ _ h => h)
                          have hti : Bks.Inv (texts rows7) (texts rows7) B3 := by rw [HT7.out]; exact HCI.out
                          exact ⟨i + 1, q3, G3, B3, rows7, rows7, by omega, by go_num, rfl, by rw [HCD.out], HBK7.out.mv hmvx (fun _ _ h => h), hti, hxx, hxx, by omega, by omega, HB7.out.trans ((HB9.out).mono hbs7), Nat.le_refl _⟩
                        case measure => simp [intOf]; omega
    · have hex : ¬ ((i : Int) < (l.length : Int)) ∨ ((i : Int) < (l.length : Int) ∧ ¬ ((i : Int) < 60)) := by omega
      have HB := Lib.hid hinv.bl
      clear hgo hinv
      rcases hex with h1 | ⟨h1, h2⟩
      · go_wp2_with fail
        go_ret
        exact ⟨rfl, HB.out⟩
      · go_wp2_with fail
        go_ret
        exact ⟨rfl, HB.out⟩
end Go.Proofs.Ytaenlkopjmgniaa

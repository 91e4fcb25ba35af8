/- MarksPlays's walk. -/
import Derived.Test.YtcmpbhcldaogiaaGreatFai
import Derived.Test.YtcmpbhcldaogiaaGreatFaj
import Derived.Deep.CutBlock
import Derived.Deep.DeepCutAuto
import Derived.Deep.Cut
import Derived.Deep.CutRange
namespace Go.Proofs.YtcmpbhcldaogiaaGreat
open Go.RowKit

set_option maxHeartbeats 16000000 in
set_option maxRecDepth 100000 in
theorem marksPlays_walk (version : Int) (hver : I64 version) (l : List MAct) (v : Value) (w : World) (hv : Rd encMA 5 w w.heap.size v l) (hl : l.length ≤ 140737488351232) (hall : ∀ a ∈ l, I64 a.ver ∧ TxOk w a.v a.ts) :
    Calls Tryz.prog 3 #[.int .i64 version, v] w fun e w' => e = .returned (.bool true) ∧ Below w.heap.size w w' := by
  obtain ⟨A, cl, rfl, hc, -⟩ := RdMA.at hv
  have HV := Lib.hid hv; clear hv
  have HALL := Lib.hid hall; clear hall
  have HN := Lib.hid (mknew_any version hver w)
  go_enter Tryz.func3, Tryz.ntmps3
  go_wp2_with fail
  refine HN.out.mono ?_
  rintro e w1 ⟨q, G0, rfl, ht, hb⟩
  have HA := Lib.hid (awake_any w1)
  have H1 := Lib.hid ht
  have HB := Lib.hid hb
  clear ht hb HN
  go_wp2_with fail
  refine HA.out.mono ?_
  rintro e w2 ⟨rfl, hb⟩
  have H2 := Lib.hid (H1.out.new hb)
  have HB2 := Lib.hid (HB.out.trans (hb.mono HB.out.size))
  have HNR := Lib.hid (rmnew_any version hver.2 w2)
  clear hb HA H1 HB
  go_wp2_with fail
  refine HNR.out.mono ?_
  rintro e w3 ⟨r, rfl, hr3, hb3⟩
  have hr3' : RmAt w3 w.heap.size r none 0 (mnew version) := by
    obtain ⟨A3, cap3, L3, hw3, ho3, hov3, hf3, hn3, hp3⟩ := hr3.blk
    exact ⟨⟨A3, cap3, L3, hw3, ho3.lower HB2.out.size, hov3, hf3, hn3, hp3⟩, ⟨Nat.le_trans HB2.out.size hr3.low.1, Nat.le_trans HB2.out.size hr3.low.2⟩, hr3.ok⟩
  have HM3 := Lib.hid (show Mid w3 w.heap.size q r G0 none 0 0 (mnew version) (mnew version) from ⟨H2.out.new hb3, hr3', fun hg => by have := (H2.out.low.2 r hg).2; have := hr3.low.1; omega, by simp⟩)
  have HB3 := Lib.hid (HB2.out.trans (hb3.mono HB2.out.size))
  clear H2 HB2 hb3 hr3 hr3' HNR
  go_wp2_with fail
  go_loopw [7] (fun iv wr => ∃ (i : Nat) (G : Nat → Prop) (ov : Option Nat) (n n' : Nat) (m : Mk), i ≤ 14 ∧ iv = .int .i64 (i : Int) ∧ n ≤ 4 * i ∧ n' ≤ 96 * i ∧ Mid wr w.heap.size q r G ov n n' m m ∧ Below w.heap.size w wr) (fun iv _ => 14 - (intOf iv).toNat)
  case atStart => exact ⟨0, G0, none, 0, 0, _, by omega, rfl, by omega, by omega, HM3.out, HB3.out⟩
  case round =>
    obtain ⟨i, G, ov, n, n', m, hi3, rfl, hn, hn', hm, hb⟩ := hrel
    have HM := Lib.hid hm
    have HB := Lib.hid hb
    have hbs := hb.size
    clear hm hb HM3 HB3
    by_cases hgo : i < l.length ∧ i < 14
    · obtain ⟨hil, hi4⟩ := hgo
      have h1 : (i : Int) < (l.length : Int) := by omega
      have h2 : (i : Int) < 14 := by omega
      have h0 : (0 : Int) ≤ (i : Int) := by omega
      obtain ⟨A', c', e, -, hcell⟩ := RdMA.at (HV.out.below HB.out (Nat.le_refl _))
      injection e with e1 e2 e3
      subst e1 e3
      obtain ⟨ba, o, rfl, hbl, q0, q1, q2, q3, q4⟩ := hcell i hil
      clear hcell
      obtain ⟨hvr, htx⟩ := HALL.out l[i] (List.getElem_mem hil)
      generalize l[i] = a at q0 q1 q2 q3 q4 hvr htx
      obtain ⟨what, vr, ⟨sf, st⟩, av, ts⟩ := a
      simp only at q0 q1 q2 q3 q4 hvr htx
      obtain ⟨Aa, ca, rfl, _, _⟩ := htx.rd.at
      have HTX := Lib.hid htx
      clear htx
      go_upto_block 2 with fail
      have hG : Whole (wr.alloc (.cells #[.int .i64 what, .int .i64 vr, .string sf, .string st, .slice Aa ts.length ca] 32)) wr.heap.size 32 [.int .i64 what, .int .i64 vr, .string sf, .string st, .slice Aa ts.length ca] := Whole.fresh wr _ [_, _, _, _, _]
      have hmv : Below wr.heap.size wr (wr.alloc (.cells #[.int .i64 what, .int .i64 vr, .string sf, .string st, .slice Aa ts.length ca] 32)) := (Below.refl wr.heap.size wr).alloc (Nat.le_refl _) _
      have HNG := Lib.hid (HM.out.fresh (Nat.le_refl _))
      have HM4 := Lib.hid (HM.out.same hmv)
      have HB4 := Lib.hid (HB.out.trans (hmv.mono hbs))
      have HG := Lib.hid hG
      clear q0 q1 q2 q3 q4 hG hmv h1 h2 h0 HM HB hbs
      generalize (wr.alloc (.cells #[.int .i64 what, .int .i64 vr, .string sf, .string st, .slice Aa ts.length ca] 32)) = w4 at HG HM4 HB4 ⊢
      generalize wr.heap.size = gA at HG HNG ⊢
      go_cut [8] (fun _ wx => ∃ (G' : Nat → Prop) (ov' : Option Nat) (n1 n1' : Nat) (m' : Mk), n1 ≤ 4 * (i + 1) ∧ n1' ≤ 96 * (i + 1) ∧ Mid wx w.heap.size q r G' ov' n1 n1' m' m' ∧ Below w.heap.size w wx)
      case first =>
        have hwhat : what = 0 ∨ what = 1 ∨ what = 2 ∨ what = 3 ∨ (¬ what = 0 ∧ ¬ what = 1 ∧ ¬ what = 2 ∧ ¬ what = 3) := by omega
        rcases hwhat with h | h | h | h | ⟨h, h', h'', h3⟩
        case' inl => subst h
        case' inr.inl => subst h
        case' inr.inr.inl => subst h
        case' inr.inr.inr.inl => subst h
        · skip
          have HC := Lib.hid (mklast_any w.heap.size q n G m (sf, st) w4 HM4.out.pm)
          have c0 := HG.out.cell 0 _ rfl
          have c1 := HG.out.cell 1 _ rfl
          have c2 := HG.out.cell 2 _ rfl
          have c3 := HG.out.cell 3 _ rfl
          have c4 := HG.out.cell 4 _ rfl
          go_wp2_with fail
          refine HC.out.mono ?_
          rintro e w5 ⟨k5, rfl, hl5, hb5⟩
          have HM5 := Lib.hid (HM4.out.same hb5)
          have HG5 := Lib.hid (HG.out.below hb5 HG.out.size)
          have HB5 := Lib.hid (HB4.out.trans (hb5.mono HB4.out.size))
          have HL5 := Lib.hid hl5
          obtain ⟨L, hrd, hLf, hLn, _⟩ := HM5.out.ref.rd
          have HR := Lib.hid (rmlast_any r m.floor m.most L (sf, st) (by omega) w5 hrd)
          have HLF := Lib.hid hLf
          clear hl5 hb5 HC c0 c1 c2 c3 c4 hrd hLf hLn
          have c0 := HG5.out.cell 0 _ rfl
          have c1 := HG5.out.cell 1 _ rfl
          have c2 := HG5.out.cell 2 _ rfl
          have c3 := HG5.out.cell 3 _ rfl
          have c4 := HG5.out.cell 4 _ rfl
          go_wp2_with fail
          refine HR.out.mono ?_
          rintro e w6 ⟨k6, rfl, hl6, hb6⟩
          obtain rfl := LastIs.eq HM5.out.ref.ok HL5.out (hl6.whole HLF.out HM5.out.ref.ok.low)
          have HM6 := Lib.hid (HM5.out.same hb6)
          have HB6 := Lib.hid (HB5.out.trans (hb6.mono HB5.out.size))
          clear hl6 hb6 HR c0 c1 c2 c3 c4
          by_cases hk0 : 0 < k5
          · have hkb := decide_eq_true hk0
            go_wp2_with fail
            go_meet
            case rel => exact ⟨G, ov, n, n', m, by omega, by omega, HM6.out, HB6.out⟩
          · have hkb := decide_eq_false hk0
            go_wp2_with fail
            go_meet
            case rel => exact ⟨G, ov, n, n', m, by omega, by omega, HM6.out, HB6.out⟩
        · skip
          have HC := Lib.hid (mkjudge_any w.heap.size q n G m vr hvr ts _ w4 HM4.out.pm (HTX.out.off HB4.out HM4.out.pm) HTX.out.fit HTX.out.read (by omega))
          obtain ⟨O, hO⟩ : ∃ O, jout m vr (ts.map (·.t)) = O := ⟨_, rfl⟩
          obtain ⟨E, hE⟩ : ∃ E, jerr m vr (ts.map (·.t)) = E := ⟨_, rfl⟩
          obtain ⟨M, hM⟩ : ∃ M, jnext m vr (ts.map (·.t)) = M := ⟨_, rfl⟩
          have hol := jout_len m vr (ts.map (·.t))
          rw [hO] at hol
          rw [hO, hE, hM] at HC
          have HOL := Lib.hid hol
          have HO := Lib.hid hO
          have HE := Lib.hid hE
          have HMM := Lib.hid hM
          clear hO hE hM hol
          have c0 := HG.out.cell 0 _ rfl
          have c1 := HG.out.cell 1 _ rfl
          have c2 := HG.out.cell 2 _ rfl
          have c3 := HG.out.cell 3 _ rfl
          have c4 := HG.out.cell 4 _ rfl
          go_wp2_with fail
          refine HC.out.mono ?_
          rintro e w5 ⟨A5, cap5, rfl, G5, hk5, hG5, hm5, hr5⟩
          have HM5 := Lib.hid (HM4.out.prog hk5 hG5 hm5)
          have HG5 := Lib.hid (hm5.whole HG.out HNG.out.1)
          have HB5 := Lib.hid (HB4.out.trans (HM4.out.below hm5))
          have HX5 := Lib.hid (hr5.mono (G' := RmD r ov) (Nat.le_refl _) fun i _ hi => .inr (HM4.out.away hi))
          have HR := Lib.hid (rmjudge_any w.heap.size r ov n' m vr ts _ w5 HM5.out.ref (HTX.out.next HB5.out) HTX.out.fit hvr.2 (by omega))
          rw [HO.out, HE.out, HMM.out] at HR
          clear hk5 hG5 hm5 hr5 HC c0 c1 c2 c3 c4
          have c0 := HG5.out.cell 0 _ rfl
          have c1 := HG5.out.cell 1 _ rfl
          have c2 := HG5.out.cell 2 _ rfl
          have c3 := HG5.out.cell 3 _ rfl
          have c4 := HG5.out.cell 4 _ rfl
          go_wp2_with fail
          refine HR.out.mono ?_
          rintro e w6 ⟨A6, cap6, rfl, ho6, ov6, hw6⟩
          have HX6 := Lib.hid (((HX5.out.mv hw6.moved (Nat.le_refl _) fun _ _ h => h).mono hw6.moved.size fun _ _ h => h).rd)
          have HY6 := Lib.hid ho6.rdI
          have HM6 := Lib.hid (HM5.out.went hw6)
          have HB6 := Lib.hid (HB5.out.trans (HM5.out.belowr hw6))
          have hi := ints_any O O _ _ w6 HX6.out HY6.out (by have := HOL.out; omega) (by have := HOL.out; omega)
          rw [show decide (O = O) = true from decide_eq_true rfl] at hi
          have HI := Lib.hid hi
          clear ho6 hw6 HR c0 c1 c2 c3 c4 hi
          go_wp2_with fail
          refine HI.out.mono ?_
          rintro e w7 ⟨rfl, hb7⟩
          have HM7 := Lib.hid (HM6.out.same hb7)
          have HB7 := Lib.hid (HB6.out.trans (hb7.mono HB6.out.size))
          clear hb7 HI
          go_wp2_with fail
          go_meet
          case rel => exact ⟨G5, ov6, n + 4, n' + 96, M, by omega, by omega, HM7.out, HB7.out⟩
        · skip
          have HC := Lib.hid (mkjudge_any w.heap.size q n G m vr hvr ts _ w4 HM4.out.pm (HTX.out.off HB4.out HM4.out.pm) HTX.out.fit HTX.out.read (by omega))
          obtain ⟨O, hO⟩ : ∃ O, jout m vr (ts.map (·.t)) = O := ⟨_, rfl⟩
          obtain ⟨E, hE⟩ : ∃ E, jerr m vr (ts.map (·.t)) = E := ⟨_, rfl⟩
          obtain ⟨M, hM⟩ : ∃ M, jnext m vr (ts.map (·.t)) = M := ⟨_, rfl⟩
          have hol := jout_len m vr (ts.map (·.t))
          rw [hO] at hol
          rw [hO, hE, hM] at HC
          have HOL := Lib.hid hol
          have HO := Lib.hid hO
          have HE := Lib.hid hE
          have HMM := Lib.hid hM
          clear hO hE hM hol
          have c0 := HG.out.cell 0 _ rfl
          have c1 := HG.out.cell 1 _ rfl
          have c2 := HG.out.cell 2 _ rfl
          have c3 := HG.out.cell 3 _ rfl
          have c4 := HG.out.cell 4 _ rfl
          go_wp2_with fail
          refine HC.out.mono ?_
          rintro e w5 ⟨A5, cap5, rfl, G5, hk5, hG5, hm5, hr5⟩
          have HM5 := Lib.hid (HM4.out.prog hk5 hG5 hm5)
          have HG5 := Lib.hid (hm5.whole HG.out HNG.out.1)
          have HB5 := Lib.hid (HB4.out.trans (HM4.out.below hm5))
          have HX5 := Lib.hid (hr5.mono (G' := RmD r ov) (Nat.le_refl _) fun i _ hi => .inr (HM4.out.away hi))
          have HR := Lib.hid (rmjudge_any w.heap.size r ov n' m vr ts _ w5 HM5.out.ref (HTX.out.next HB5.out) HTX.out.fit hvr.2 (by omega))
          rw [HO.out, HE.out, HMM.out] at HR
          clear hk5 hG5 hm5 hr5 HC c0 c1 c2 c3 c4
          have c0 := HG5.out.cell 0 _ rfl
          have c1 := HG5.out.cell 1 _ rfl
          have c2 := HG5.out.cell 2 _ rfl
          have c3 := HG5.out.cell 3 _ rfl
          have c4 := HG5.out.cell 4 _ rfl
          go_wp2_with fail
          refine HR.out.mono ?_
          rintro e w6 ⟨A6, cap6, rfl, ho6, ov6, hw6⟩
          have HX6 := Lib.hid (((HX5.out.mv hw6.moved (Nat.le_refl _) fun _ _ h => h).mono hw6.moved.size fun _ _ h => h).rd)
          have HY6 := Lib.hid ho6.rdI
          have HM6 := Lib.hid (HM5.out.went hw6)
          have HB6 := Lib.hid (HB5.out.trans (HM5.out.belowr hw6))
          have hi := ints_any O O _ _ w6 HX6.out HY6.out (by have := HOL.out; omega) (by have := HOL.out; omega)
          rw [show decide (O = O) = true from decide_eq_true rfl] at hi
          have HI := Lib.hid hi
          clear ho6 hw6 HR c0 c1 c2 c3 c4 hi
          go_wp2_with fail
          refine HI.out.mono ?_
          rintro e w7 ⟨rfl, hb7⟩
          have HM7 := Lib.hid (HM6.out.same hb7)
          have HB7 := Lib.hid (HB6.out.trans (hb7.mono HB6.out.size))
          clear hb7 HI
          go_wp2_with fail
          go_meet
          case rel => exact ⟨G5, ov6, n + 4, n' + 96, M, by omega, by omega, HM7.out, HB7.out⟩
        · skip
          have HC := Lib.hid (mkjudge_any w.heap.size q n G m vr hvr ts _ w4 HM4.out.pm (HTX.out.off HB4.out HM4.out.pm) HTX.out.fit HTX.out.read (by omega))
          obtain ⟨O, hO⟩ : ∃ O, jout m vr (ts.map (·.t)) = O := ⟨_, rfl⟩
          obtain ⟨E, hE⟩ : ∃ E, jerr m vr (ts.map (·.t)) = E := ⟨_, rfl⟩
          obtain ⟨M, hM⟩ : ∃ M, jnext m vr (ts.map (·.t)) = M := ⟨_, rfl⟩
          have hol := jout_len m vr (ts.map (·.t))
          rw [hO] at hol
          rw [hO, hE, hM] at HC
          have HOL := Lib.hid hol
          have HO := Lib.hid hO
          have HE := Lib.hid hE
          have HMM := Lib.hid hM
          clear hO hE hM hol
          have c0 := HG.out.cell 0 _ rfl
          have c1 := HG.out.cell 1 _ rfl
          have c2 := HG.out.cell 2 _ rfl
          have c3 := HG.out.cell 3 _ rfl
          have c4 := HG.out.cell 4 _ rfl
          go_wp2_with fail
          refine HC.out.mono ?_
          rintro e w5 ⟨A5, cap5, rfl, G5, hk5, hG5, hm5, hr5⟩
          have HM5 := Lib.hid (HM4.out.prog hk5 hG5 hm5)
          have HG5 := Lib.hid (hm5.whole HG.out HNG.out.1)
          have HB5 := Lib.hid (HB4.out.trans (HM4.out.below hm5))
          have HX5 := Lib.hid (hr5.mono (G' := RmD r ov) (Nat.le_refl _) fun i _ hi => .inr (HM4.out.away hi))
          have HR := Lib.hid (rmjudge_any w.heap.size r ov n' m vr ts _ w5 HM5.out.ref (HTX.out.next HB5.out) HTX.out.fit hvr.2 (by omega))
          rw [HO.out, HE.out, HMM.out] at HR
          clear hk5 hG5 hm5 hr5 HC c0 c1 c2 c3 c4
          have c0 := HG5.out.cell 0 _ rfl
          have c1 := HG5.out.cell 1 _ rfl
          have c2 := HG5.out.cell 2 _ rfl
          have c3 := HG5.out.cell 3 _ rfl
          have c4 := HG5.out.cell 4 _ rfl
          go_wp2_with fail
          refine HR.out.mono ?_
          rintro e w6 ⟨A6, cap6, rfl, ho6, ov6, hw6⟩
          have HX6 := Lib.hid (((HX5.out.mv hw6.moved (Nat.le_refl _) fun _ _ h => h).mono hw6.moved.size fun _ _ h => h).rd)
          have HY6 := Lib.hid ho6.rdI
          have HM6 := Lib.hid (HM5.out.went hw6)
          have HB6 := Lib.hid (HB5.out.trans (HM5.out.belowr hw6))
          have hi := ints_any O O _ _ w6 HX6.out HY6.out (by have := HOL.out; omega) (by have := HOL.out; omega)
          rw [show decide (O = O) = true from decide_eq_true rfl] at hi
          have HI := Lib.hid hi
          clear ho6 hw6 HR c0 c1 c2 c3 c4 hi
          go_wp2_with fail
          refine HI.out.mono ?_
          rintro e w7 ⟨rfl, hb7⟩
          have HM7 := Lib.hid (HM6.out.same hb7)
          have HB7 := Lib.hid (HB6.out.trans (hb7.mono HB6.out.size))
          clear hb7 HI
          go_wp2_with fail
          go_meet
          case rel => exact ⟨G5, ov6, n + 4, n' + 96, M, by omega, by omega, HM7.out, HB7.out⟩
        · skip
          obtain ⟨E, hE⟩ : ∃ E, ferr m vr = E := ⟨_, rfl⟩
          obtain ⟨M, hM⟩ : ∃ M, fnext m vr = M := ⟨_, rfl⟩
          have HE := Lib.hid hE
          have HMM := Lib.hid hM
          clear hE hM
          have c0 := HG.out.cell 0 _ rfl
          have c1 := HG.out.cell 1 _ rfl
          have c2 := HG.out.cell 2 _ rfl
          have c3 := HG.out.cell 3 _ rfl
          have c4 := HG.out.cell 4 _ rfl
          go_wp2_with fail
          obtain ⟨wd, hwd⟩ : ∃ wd, w4.drew = wd := ⟨_, rfl⟩
          have hd4 : Below w4.heap.size w4 wd := by rw [← hwd]; exact (Below.refl _ w4).drew
          have HMD := Lib.hid (HM4.out.same hd4)
          have HGD := Lib.hid (HG.out.below hd4 HG.out.size)
          have HBD := Lib.hid (HB4.out.trans (hd4.mono HB4.out.size))
          have HC := Lib.hid (mkforget_any w.heap.size q n G m vr hvr wd HMD.out.pm)
          rw [HE.out, HMM.out] at HC
          have HWD := Lib.hid hwd
          refine wp_region_planT (fun W => W.cell? ⟨gA, 1, none⟩ = some (.int .i64 vr)) (.take 0 (.take 1 (.take 2 (.take 4 (.take 5 (.take 6 (.step 3 (.step 7 (.take 8 .done))))))))) (by kernel_rfl) (by kernel_rfl) (fun _ _ d _ _ h => by cases d <;> exact h) (by rw [hwd]; exact HGD.out.cell 1 _ rfl) ?_
          rw [hwd]
          clear hwd hd4 c0 c1 c2 c3 c4
          (refine PlanT.takeI (v := ?_) rfl rfl ?_ ?_; rotate_left; (focus (intro W hW; go_simp; (try with_reducible rfl); done)); (try simp only [Act.put, List.setIfInBounds_toArray, List.set_cons_zero, List.set_cons_succ]))
          (refine PlanT.takeI (v := ?_) rfl rfl ?_ ?_; rotate_left; (focus (intro W hW; go_simp; (try with_reducible rfl); done)); (try simp only [Act.put, List.setIfInBounds_toArray, List.set_cons_zero, List.set_cons_succ]))
          (refine PlanT.takeI (v := ?_) rfl rfl ?_ ?_; rotate_left; (focus (intro W hW; go_simp; (try with_reducible rfl); done)); (try simp only [Act.put, List.setIfInBounds_toArray, List.set_cons_zero, List.set_cons_succ]))
          (refine PlanT.takeI (v := ?_) rfl rfl ?_ ?_; rotate_left; (focus (intro W hW; go_simp; (try with_reducible rfl); done)); (try simp only [Act.put, List.setIfInBounds_toArray, List.set_cons_zero, List.set_cons_succ]))
          (refine PlanT.takeI (v := ?_) rfl rfl ?_ ?_; rotate_left; (focus (intro W hW; go_simp; (try with_reducible rfl); done)); (try simp only [Act.put, List.setIfInBounds_toArray, List.set_cons_zero, List.set_cons_succ]))
          (refine PlanT.takeI (v := ?_) rfl rfl ?_ ?_; rotate_left; (focus (intro W hW; go_simp; (try with_reducible rfl); done)); (try simp only [Act.put, List.setIfInBounds_toArray, List.set_cons_zero, List.set_cons_succ]))
          refine wpOp_stepT rfl rfl (fun Kk hKk => ?_)
          go_simp
          go_at_call 12
          refine HC.out.mono ?_
          rintro e w5 ⟨rfl, G5, hk5, hG5, hm5⟩
          have HM5 := Lib.hid (HMD.out.prog hk5 hG5 hm5)
          have HG5 := Lib.hid (hm5.whole HGD.out HNG.out.1)
          have HB5 := Lib.hid (HBD.out.trans (HMD.out.below hm5))
          have HR := Lib.hid (rmforget_any w.heap.size r ov n' m vr hvr.2 w5 HM5.out.ref)
          rw [HE.out, HMM.out] at HR
          refine hKk.out _ _ (HG5.out.cell 1 _ rfl) ?_
          clear hKk Kk hk5 hG5 hm5 HC
          (try simp only [Act.put, List.setIfInBounds_toArray, List.set_cons_zero, List.set_cons_succ])
          refine wpOp_stepT rfl rfl (fun Kk hKk => ?_)
          go_simp
          go_at_call 13
          refine HR.out.mono ?_
          rintro e w6 ⟨rfl, hw6⟩
          have HG6 := Lib.hid (hw6.moved.whole HG5.out HNG.out.2)
          have HM6 := Lib.hid (HM5.out.went hw6)
          have HB6 := Lib.hid (HB5.out.trans (HM5.out.belowr hw6))
          refine hKk.out _ _ (HG6.out.cell 1 _ rfl) ?_
          clear hKk Kk hw6 HR
          (try simp only [Act.put, List.setIfInBounds_toArray, List.set_cons_zero, List.set_cons_succ])
          (refine PlanT.takeI (v := ?_) rfl rfl ?_ ?_; rotate_left; (focus (intro W hW; go_simp; (try with_reducible rfl); done)); (try simp only [Act.put, List.setIfInBounds_toArray, List.set_cons_zero, List.set_cons_succ]))
          simp only [PlanT]
          go_wp2_with fail
          go_meet
          case rel => exact ⟨G5, ov, n, n', M, by omega, by omega, HM6.out, HB6.out⟩
      case rest =>
        obtain ⟨G5, ov5, n5, n5', m5, hn5, hn5', hm5, hb5⟩ := hcut
        have HC := Lib.hid (mksize_any w.heap.size q n5 G5 m5 wc hm5.pm)
        have HM5 := Lib.hid hm5
        have HB5 := Lib.hid hb5
        clear hm5 hb5 HM4 HB4 HG HNG HTX
        go_wp2_with fail
        refine HC.out.mono ?_
        rintro e w6 ⟨k6, rfl, hs6, hb6⟩
        have HM6 := Lib.hid (HM5.out.same hb6)
        have HB6 := Lib.hid (HB5.out.trans (hb6.mono HB5.out.size))
        have HS6 := Lib.hid hs6
        obtain ⟨L, hrd, hLf, hLn, _⟩ := HM6.out.ref.rd
        have HR := Lib.hid (rmsize_any r m5.floor m5.most L (by omega) HM6.out.ref.ok.low w6 hrd)
        have HLF := Lib.hid hLf
        clear hs6 hb6 HC hrd hLf hLn HM5 HB5
        go_wp2_with fail
        refine HR.out.mono ?_
        rintro e w7 ⟨k7, rfl, hs7, hb7⟩
        rw [HLF.out] at hs7
        obtain rfl := SizeIs.eq HS6.out hs7
        have HM7 := Lib.hid (HM6.out.same hb7)
        have HB7 := Lib.hid (HB6.out.trans (hb7.mono HB6.out.size))
        clear hs7 hb7 HR HM6 HB6
        go_wp2_with fail
        go_roundw
        case rel => exact ⟨i + 1, G5, ov5, n5, n5', m5, by omega, by go_num, hn5, hn5', HM7.out, HB7.out⟩
        case measure => simp [intOf]; omega
    · have hex : ¬ ((i : Int) < (l.length : Int)) ∨ ((i : Int) < (l.length : Int) ∧ ¬ ((i : Int) < 14)) := by omega
      clear hgo
      rcases hex with h1 | ⟨h1, h2⟩
      all_goals
        go_wp2_with fail
        go_ret
        exact ⟨rfl, HB.out⟩
end Go.Proofs.YtcmpbhcldaogiaaGreat

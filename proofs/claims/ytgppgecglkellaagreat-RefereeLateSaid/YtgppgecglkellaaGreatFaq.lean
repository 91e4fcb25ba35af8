/- The reference's Marks: Judge. How the reference's Size gathers pieces, and counts them: pure. The reference's Marks: Size. Acts of marks as they come in; the program's marks beside the reference's. Transactions as arguments: one that came in, some of a list; pure facts for the small laws. -/
import Derived.Test.YtgppgecglkellaaGreatFao
import Derived.Test.YtgppgecglkellaaGreatFaf
import Derived.Test.YtgppgecglkellaaGreatFap
namespace Go.Proofs.YtgppgecglkellaaGreat
open Go.RowKit

theorem take_map {α β : Type} (f : α → β) (l : List α) (i : Nat) (h : i < l.length) : (l.map f).take (i + 1) = (l.map f).take i ++ [f l[i]] := by
  rw [List.take_add_one, List.getElem?_map, List.getElem?_eq_getElem h]
  rfl
theorem chgs_small {t : Txn} (h : fitT t) : ∀ c ∈ t.chgs, smallC c := h.2.2.2

set_option maxHeartbeats 16000000 in
set_option maxRecDepth 100000 in
theorem rmjudge_any (base r : Nat) (ov : Option Nat) (n : Nat) (m : Mk) (version : Int) (ts : List TxV) (v : Value) (w : World) (h : RmAt w base r ov n m) (hr : RdTx w base (fun _ => False) v ts) (hfit : ∀ x ∈ ts, fitT x.t) (hv : version < 9223372036854775808) (hn : n + 96 ≤ 90000) :
    Calls Tryz.prog 19 #[.pointer (some ⟨r, 0, none⟩), .int .i64 version, v] w fun e w' => ∃ A cap, e = .returned (.tuple #[.slice A (jout m version (ts.map (·.t))).length cap, .int .i64 (jerr m version (ts.map (·.t)))]) ∧ OwnI w' w.heap.size (.slice A (jout m version (ts.map (·.t))).length cap) (jout m version (ts.map (·.t))) ∧
      ∃ ov', RmWent w w' base r ov (n + 96) (jnext m version (ts.map (·.t))) ov' := by
  obtain ⟨E, hE⟩ : ∃ E, E = jerr m version (ts.map (·.t)) := ⟨_, rfl⟩
  obtain ⟨O, hO⟩ : ∃ O, O = jout m version (ts.map (·.t)) := ⟨_, rfl⟩
  obtain ⟨N, hN⟩ : ∃ N, N = jnext m version (ts.map (·.t)) := ⟨_, rfl⟩
  rw [← hE, ← hO, ← hN]
  unfold jout at hO
  unfold jnext at hN
  rw [← hE] at hO hN
  have hbad : ∀ c : Int, c ≠ 0 → E = c → O = [] ∧ N = m := fun c hc he => by
    rw [if_neg (by omega)] at hO hN
    exact ⟨hO, hN⟩
  have H := Lib.hid h
  have HBAD := Lib.hid hbad
  have hbz := h.low.2
  have hrz := h.size
  have hstay : ∀ w', Below w.heap.size w w' → RmWent w w' base r ov (n + 96) m ov := fun w' hb => .of (h.wide (by omega)) hb
  have HSTAY := Lib.hid hstay
  obtain ⟨Am, cm, Lm, hw, _⟩ := h.blk
  have c1 := hw.cell 1 _ rfl
  have c2 := hw.cell 2 _ rfl
  obtain ⟨At, ct, rfl, hct, hi⟩ := hr.at
  have HI := Lib.hid hi
  have HPARTS := Lib.hid hr.parts
  have HFIT := Lib.hid hfit
  clear hbad hstay hw hi hr hfit
  unfold jerr at hE
  rw [List.length_map] at hE
  by_cases hfl : version ≤ m.floor
  · rw [if_pos (.inl hfl)] at hE
    obtain ⟨h1, h2⟩ := HBAD.out 9 (by omega) hE
    clear hO hN
    subst hE h1 h2
    have hb := decide_eq_true hfl
    go_enter Tryz.func19, Tryz.ntmps19
    go_wp2_with fail
    exact bodyPost_ret (v := .tuple #[.slice none 0 0, .int .i64 9]) (by simp [results, Tryz.results19, go_sem]) rfl ⟨none, 0, rfl, Own.nil _ _, ov, HSTAY.out _ (Below.refl _ _)⟩
  have hb1 := decide_eq_false hfl
  by_cases hmo : version ≤ m.most
  · rw [if_pos (.inr hmo)] at hE
    obtain ⟨h1, h2⟩ := HBAD.out 9 (by omega) hE
    clear hO hN
    subst hE h1 h2
    have hb := decide_eq_true hmo
    go_enter Tryz.func19, Tryz.ntmps19
    go_wp2_with fail
    exact bodyPost_ret (v := .tuple #[.slice none 0 0, .int .i64 9]) (by simp [results, Tryz.results19, go_sem]) rfl ⟨none, 0, rfl, Own.nil _ _, ov, HSTAY.out _ (Below.refl _ _)⟩
  have hb2 := decide_eq_false hmo
  rw [if_neg (by rintro (h1 | h1); exact hfl h1; exact hmo h1)] at hE
  by_cases hlen4 : 4 < ts.length
  · rw [if_pos (.inl hlen4)] at hE
    obtain ⟨h1, h2⟩ := HBAD.out 2 (by omega) hE
    clear hO hN
    subst hE h1 h2
    have hb3 : (4 : Int) < (ts.length : Int) := by omega
    go_enter Tryz.func19, Tryz.ntmps19
    go_wp2_with fail
    exact bodyPost_ret (v := .tuple #[.slice none 0 0, .int .i64 2]) (by simp [results, Tryz.results19, go_sem]) rfl ⟨none, 0, rfl, Own.nil _ _, ov, HSTAY.out _ (Below.refl _ _)⟩
  have hb3 : ¬ (4 : Int) < (ts.length : Int) := by omega
  have HE := Lib.hid hE
  have HOO := Lib.hid hO
  have HN := Lib.hid hN
  clear hE hO hN
  go_enter Tryz.func19, Tryz.ntmps19
  go_wp2_with fail
  go_loopw [8] (fun iv wr => ∃ i : Nat, i ≤ ts.length ∧ iv = .int .i64 (i : Int) ∧ (∀ x ∈ ts.take i, soundT x.t) ∧ Below w.heap.size w wr) (fun iv _ => ts.length - (intOf iv).toNat)
  case atStart => exact ⟨0, Nat.zero_le _, rfl, by simp, Below.refl _ _⟩
  case round =>
    obtain ⟨i, hil, rfl, hall, hbw⟩ := hrel
    have HALL := Lib.hid hall
    have HBW := Lib.hid hbw
    have hwz := hbw.size
    by_cases hlt : i < ts.length
    · obtain ⟨b, o, rfl, hbB, _, k0, k1, k2⟩ := HI.out i hlt
      have hbw' : b < w.heap.size := by omega
      rw [← hbw.cell (p := ⟨b, o + i * 3, none⟩) hbw'] at k0
      rw [← hbw.cell (p := ⟨b, o + i * 3 + 1, none⟩) hbw'] at k1
      rw [← hbw.cell (p := ⟨b, o + i * 3 + 2, none⟩) hbw'] at k2
      have hmem := List.getElem_mem hlt
      have hp := HPARTS.out _ hmem
      have hcon := rsoundT_any ts[i].t (HFIT.out _ hmem) ts[i].v1 ts[i].v2 wr ((hp.1.rd.below hbw hbz).mono (by omega)) ((hp.2.rd.below hbw hbz).mono (by omega))
      have hyes : soundT ts[i].t → ∀ x ∈ ts.take (i + 1), soundT x.t := fun h x hx => by
        rw [List.take_add_one, List.getElem?_eq_getElem hlt, List.mem_append] at hx
        rcases hx with hx | hx
        · exact HALL.out x hx
        · simp only [Option.toList_some, List.mem_singleton] at hx; rw [hx]; exact h
      have hno : ¬ soundT ts[i].t → E = 2 := fun h => by rw [HE.out, if_pos (.inr ⟨_, List.mem_map.2 ⟨_, hmem, rfl⟩, h⟩)]
      generalize ts[i] = x at k0 k1 k2 hcon hyes hno
      obtain ⟨t, v1, v2⟩ := x
      unfold tval at hcon
      simp only at k0 k1 k2 hcon hyes hno
      have HCON := Lib.hid hcon
      have HYES := Lib.hid hyes
      have HNO := Lib.hid hno
      have h0 : (0 : Int) ≤ (i : Int) := by omega
      have h1 : (i : Int) < (ts.length : Int) := by omega
      have h2 : IntKind.i64.wrap ((i : Int) + 1) = ((i + 1 : Nat) : Int) := by rw [IntKind.wrap_i64]; omega
      clear hcon hyes hno hp hmem hall
      by_cases hs : soundT t
      · have hsb := decide_eq_true hs
        go_wp2_with (go_at_call 14; refine HCON.out.mono ?_; rw [hsb]; rintro e w2 ⟨rfl, hb2'⟩)
        go_roundw
        case rel => exact ⟨i + 1, by omega, rfl, HYES.out hs, HBW.out.trans (hb2'.mono HBW.out.size)⟩
        case measure => simp [intOf]; omega
      · have hsb := decide_eq_false hs
        have he := HNO.out hs
        obtain ⟨hq1, hq2⟩ := HBAD.out 2 (by omega) he
        have HQ := Lib.hid (And.intro he (And.intro hq1 hq2))
        clear he hq1 hq2
        go_wp2_with (go_at_call 14; refine HCON.out.mono ?_; rw [hsb]; rintro e w2 ⟨rfl, hb2'⟩)
        have hfin := HSTAY.out _ (HBW.out.trans (hb2'.mono HBW.out.size))
        refine bodyPost_ret (v := .tuple #[.slice none 0 0, .int .i64 2]) (by simp [results, Tryz.results19, go_sem]) rfl ⟨none, 0, by rw [HQ.out.1, HQ.out.2.1]; rfl, by rw [HQ.out.2.1]; exact Own.nil _ _, ov, by rw [HQ.out.2.2]; exact hfin⟩
    · obtain rfl : i = ts.length := by omega
      rw [List.take_length] at hall
      have he : E = 0 := by
        rw [HE.out, if_neg]
        rintro (h1 | ⟨t, ht, hns⟩)
        · exact hlen4 h1
        · obtain ⟨x, hx, rfl⟩ := List.mem_map.1 ht
          exact hns (hall x hx)
      have ho := HOO.out
      have hnn := HN.out
      rw [if_pos he] at ho hnn
      have HSND := Lib.hid hall
      have HEE := Lib.hid he
      have HOE := Lib.hid ho
      have HNE := Lib.hid hnn
      have hrm : RmAt wr base r ov n m := H.out.new hbw
      have HRM := Lib.hid hrm
      clear hall he ho hnn HALL HE HOO HN HBAD HSTAY c1 c2 hb1 hb2 hrm
      go_wp2_with fail
      have HOST := Lib.hid (show OwnI (wr.alloc (.cells #[] 3)) w.heap.size (.slice (some ⟨wr.heap.size, 0, none⟩) 0 0) [] from Own.empty wr _ hwz)
      have HRS := Lib.hid (show RmWent w (wr.alloc (.cells #[] 3)) base r ov n m ov from ⟨HRM.out.new ((Below.refl _ wr).alloc (Nat.le_refl _) _), Mv.of_new (hbw.alloc hwz _) _, fun _ h => .inl h⟩)
      clear hbw HBW HRM
      go_loopw [9, 10] (fun ov_ iv wr => ∃ (i : Nat) (A' : Option Addr) (c' : Nat) (ovi : Option Nat), i ≤ ts.length ∧ iv = .int .i64 (i : Int) ∧ ov_ = .slice A' i c' ∧ OwnI wr w.heap.size (.slice A' i c') (judgeL m version ((ts.map (·.t)).take i)) ∧ RmWent w wr base r ov (n + 24 * i) (judgeM m version ((ts.map (·.t)).take i)) ovi) (fun _ iv _ => ts.length - (intOf iv).toNat)
      case atStart => exact ⟨0, _, _, ov, Nat.zero_le _, rfl, rfl, HOST.out, HRS.out⟩
      case round =>
        obtain ⟨i, A', c', ovi, hil, rfl, rfl, ho, hrm⟩ := hrel
        have HO := Lib.hid ho
        have HRM := Lib.hid hrm
        have hwz2 := hrm.moved.size
        have hbb : Below base w wr := hrm.below H.out
        have HBB := Lib.hid hbb
        clear HOST HRS ho
        by_cases hlt : i < ts.length
        · obtain ⟨b, o, rfl, hbB, _, k0, k1, k2⟩ := HI.out i hlt
          rw [← hbb.cell (p := ⟨b, o + i * 3, none⟩) hbB] at k0
          rw [← hbb.cell (p := ⟨b, o + i * 3 + 1, none⟩) hbB] at k1
          rw [← hbb.cell (p := ⟨b, o + i * 3 + 2, none⟩) hbB] at k2
          have hmem := List.getElem_mem hlt
          have hp := HPARTS.out _ hmem
          have hft := HFIT.out _ hmem
          have hst := HSND.out _ hmem
          have htk := take_map (fun x : TxV => x.t) ts i hlt
          have hsn := judge_snoc ((ts.map (·.t)).take i) m version ts[i].t
          rw [← htk] at hsn
          obtain ⟨hok', hmost', hfloor'⟩ := Mk.Ok.judgeM ((ts.map (·.t)).take i) H.out.ok (v := version) (by omega) hv
          obtain ⟨M', hM'⟩ : ∃ M', judgeM m version ((ts.map (·.t)).take i) = M' := ⟨_, rfl⟩
          obtain ⟨J', hJ'⟩ : ∃ J', judgeL m version ((ts.map (·.t)).take i) = J' := ⟨_, rfl⟩
          have hJl : J'.length = i := by rw [← hJ', judgeL_len, List.length_take, List.length_map]; omega
          rw [hM', hJ'] at hsn
          rw [hM'] at hok' hmost' hfloor' hrm HRM
          rw [hJ'] at HO
          obtain ⟨L, hL, hLf, hLn, hLp⟩ := hrm.now.open
          have hcv := rmverdict_any r L M' hLf hok' (by omega) ts[i].t hst ts[i].v1 ts[i].v2 wr hL.rd ((hp.1.rd.below hbb (Nat.le_refl _)).mono (by have := hrm.now.low.2; omega))
          have hcs := fun W (hW : Below base w W) (hz : base ≤ W.heap.size) => rspans_any ts[i].t.chgs (chgs_small hft) ts[i].v2 W ((hp.2.rd.below hW (Nat.le_refl _)).mono hz) (by have := hst.2.2.2.1; omega)
          have hcl : ts[i].t.chgs.length ≤ 24 := hst.2.2.2.1
          generalize ts[i] = x at k0 k1 k2 hcv hcs hsn hcl
          obtain ⟨t, v1, v2⟩ := x
          unfold tval at hcv
          simp only at k0 k1 k2 hcv hcs hsn hcl
          obtain ⟨vd, hvd⟩ : ∃ vd, verd M' t = vd := ⟨_, rfl⟩
          rw [hvd] at hcv hsn
          have HVD := Lib.hid hvd
          have HCV := Lib.hid hcv
          have HCS := Lib.hid hcs
          have HSN := Lib.hid hsn
          have HL := Lib.hid hL
          have HLF := Lib.hid hLf
          have HLN := Lib.hid hLn
          have HLP := Lib.hid hLp
          have HOK' := Lib.hid hok'
          have HJL := Lib.hid hJl
          have HMO := Lib.hid hmost'
          have HFL := Lib.hid hfloor'
          have hbw0 : b < wr.heap.size := by have := hrm.now.low.2; omega
          have HK2 := Lib.hid (fun W (hW : Below base w W) => (hW.cell (p := ⟨b, o + i * 3 + 2, none⟩) hbB).trans ((hbb.cell (p := ⟨b, o + i * 3 + 2, none⟩) hbB).symm.trans k2))
          have h0 : (0 : Int) ≤ (i : Int) := by omega
          have h1 : (i : Int) < (ts.length : Int) := by omega
          have h2 : IntKind.i64.wrap ((i : Int) + 1) = ((i + 1 : Nat) : Int) := by rw [IntKind.wrap_i64]; omega
          clear hcv hcs hsn hL hLf hLn hLp hok' hvd hp hft hst htk hM' hJ' hmem hJl hmost' hfloor' hrm hbb
          go_wp2_with fail
          refine HCV.out.mono ?_
          rintro e w2 ⟨rfl, hb2'⟩
          have HL2 := Lib.hid (HL.out.new (hb2'.alloc hb2'.size (.cells #[.int .i64 vd] 3)))
          have HO2 := Lib.hid ((HO.out.below hb2' (Nat.le_refl _)).alloc (.cells #[.int .i64 vd] 3))
          have HRD := Lib.hid (RdI.one w2 vd)
          have HZ2 := Lib.hid (show w.heap.size ≤ (w2.alloc (.cells #[.int .i64 vd] 3)).heap.size by have := hb2'.size; simp; omega)
          have HM2 := Lib.hid (hb2'.alloc hb2'.size (.cells #[.int .i64 vd] 3))
          clear hb2' k0 k1 k2
          have hJi := HJL.out
          go_wp2_with (at_builtin; refine wpList_addIm rfl _ _ rfl w.heap.size (.slice A' i c') J' rfl HO2.out (w2.heap.size + 1) (.slice (some ⟨w2.heap.size, 0, none⟩) 1 1) [vd] rfl HRD.out (by rw [HJL.out]; simp only [List.length_cons, List.length_nil]; omega) HZ2.out ?_)
          intro A3 c3 w3 ho3 hg3
          have hL3 := HL2.out.grown HO2.out (by decide) (by decide) hg3.out
          have hbl3 : Below base wr w3 := (HM2.out.mono (by have := HRM.out.now.low.2; omega)).grown hg3.out (by have := HRM.out.now.low.2; have := HM2.out.size; omega) (fun j hj => Nat.le_trans hbz (Own.low HO2.out hj).1)
          have hb3' : Below base w w3 := HBB.out.trans hbl3
          have hm3 : Mv (fun i => w.heap.size ≤ i) wr w3 := (Mv.of_new HM2.out (fun i => w.heap.size ≤ i)).trans (Mv.of_grown hg3.out) (fun i _ e => (Own.low HO2.out e.symm).1)
          have kk2 := HK2.out w3 hb3'
          have HCS3 := Lib.hid (HCS.out w3 hb3' hL3.low.2)
          have HL3 := Lib.hid hL3
          have HO3 := Lib.hid ho3.out
          have HM3 := Lib.hid hm3
          have hz3 := hm3.size
          clear hL3 hbl3 hb3' hm3 hg3 ho3 HL2 HO2 HRD HZ2 HM2 HCS HK2
          go_wp2_with fail
          refine HCS3.out.mono ?_
          rintro e w5 ⟨v5, R, rfl, ho5, hb5, hf5, hl5⟩
          have hRl := fits_len hf5
          rw [List.length_map] at hRl
          have hf5' : Fits R (keysOf t) := hf5
          obtain ⟨hwf, hwm⟩ := wrote_f (v := version) HLF.out hf5'
          have HL5 := Lib.hid (HL3.out.new hb5)
          have HO5 := Lib.hid (HO3.out.below hb5 (Nat.le_refl _))
          have HM5 := Lib.hid (HM3.out.trans (Mv.of_new hb5 (fun i => w.heap.size ≤ i)) (fun _ _ h => h))
          have HS5 := Lib.hid (show Own cellsS 2 52 w5 w3.heap.size v5 R from ho5)
          have HWF5 := Lib.hid hwf
          have HWM5 := Lib.hid hwm
          have hz5 := hb5.size
          clear hf5 hf5' hl5 ho5 hb5 hwf hwm kk2 HCS3 HL3 HO3 HM3
          -- what stands behind this round
          have hnext : ∀ (w9 : World) (M2 : Mk) (X : List Wr) (ov9 : Option Nat), judgeM m version ((ts.map (·.t)).take (i + 1)) = M2 → ver X = M2.f → X.length ≤ n + 24 * (i + 1) → (∀ x ∈ X, 1 ≤ x.v) → M2.Ok → RmLW w5 w9 base r ovi M2.floor M2.most X ov9 → RmWent w w9 base r ov (n + 24 * (i + 1)) (judgeM m version ((ts.map (·.t)).take (i + 1))) ov9 := by
            intro w9 M2 X ov9 e1 e2 e3 e4 e5 e6
            rw [e1]
            have hr0 : RmLW w wr base r ov M'.floor M'.most L ovi := ⟨HL.out, HRM.out.moved, HRM.out.new⟩
            have hr1 := hr0.after HM5.out HL5.out (fun i hi e => by omega)
            have hr2 := hr1.trans e6 hrz
            exact ⟨hr2.now.close e2 e3 e4 e5, hr2.moved, hr2.new⟩
          have HNX := Lib.hid hnext
          clear hnext
          rcases Own.form HS5.out with ⟨rfl, hR0⟩ | ⟨g5, c5, rfl, hg5, hgs5, hc5⟩
          · subst hR0
            have hsame : judgeM m version ((ts.map (·.t)).take (i + 1)) = judge1 M' version t := HSN.out.2
            have hfin : RmWent w w5 base r ov (n + 24 * (i + 1)) (judgeM m version ((ts.map (·.t)).take (i + 1))) ovi := by
              by_cases hv1 : vd = 1
              · have hj : judge1 M' version t = wrote M' version t := by unfold judge1; rw [if_pos (HVD.out.trans hv1)]
                refine HNX.out w5 (wrote M' version t) L ovi (by rw [hsame, hj]) ?_ (by have := HLN.out; omega) HLP.out (HOK'.out.wrote t HMO.out hv) ?_
                · rw [HWF5.out]; simp
                · have hm0 : (wrote M' version t).most = M'.most := by rw [HWM5.out, if_pos rfl]
                  rw [hm0]
                  exact RmLW.refl HL5.out
              · have hj : judge1 M' version t = M' := by unfold judge1; rw [if_neg (fun e => hv1 (HVD.out.symm.trans e))]
                exact HNX.out w5 M' L ovi (by rw [hsame, hj]) HLF.out (by have := HLN.out; omega) HLP.out HOK'.out (RmLW.refl HL5.out)
            have HFIN := Lib.hid hfin
            clear hfin hsame
            go_wp2_with fail
            refine wp_loop_rounds 1 ?_
            rw [rounds_succ]
            go_wp2_with fail
            go_roundw
            case rel => exact ⟨i + 1, A3, c3, ovi, by omega, rfl, rfl, by rw [HSN.out.1]; exact HO5.out, HFIN.out⟩
            case measure => simp [intOf]; omega
          · have hsame : judgeM m version ((ts.map (·.t)).take (i + 1)) = judge1 M' version t := HSN.out.2
            by_cases hv1 : vd = 1
            · have hj : judge1 M' version t = wrote M' version t := by unfold judge1; rw [if_pos (HVD.out.trans hv1)]
              have hend : ∀ w9 ov9, RmLW w5 w9 base r ovi M'.floor (if R.length = 0 then M'.most else version) (L ++ R.map fun s => ⟨s, version⟩) ov9 → RmWent w w9 base r ov (n + 24 * (i + 1)) (judgeM m version ((ts.map (·.t)).take (i + 1))) ov9 := fun w9 ov9 e6 => by
                refine HNX.out w9 (wrote M' version t) _ ov9 (by rw [hsame, hj]) HWF5.out.symm (by have := HLN.out; rw [List.length_append, List.length_map]; omega) (fun x hx => ?_) (HOK'.out.wrote t HMO.out hv) ?_
                · rcases List.mem_append.1 hx with hx | hx
                  · exact HLP.out x hx
                  · obtain ⟨s, _, rfl⟩ := List.mem_map.1 hx
                    have := H.out.ok.low
                    simp only
                    omega
                · rw [HWM5.out]
                  by_cases hR0 : R = []
                  · rw [if_pos hR0]
                    rw [if_pos (by rw [hR0]; rfl)] at e6
                    exact e6
                  · rw [if_neg hR0]
                    rw [if_neg (fun e => hR0 (List.eq_nil_of_length_eq_zero e))] at e6
                    exact e6
              have HEND := Lib.hid hend
              clear hend hsame hj HNX
              have hvb : (vd == 1) = true := by rw [hv1]; rfl
              go_wp2_with fail
              go_loopw [13] (fun kv wr => ∃ (k : Nat) (ovk : Option Nat), k ≤ R.length ∧ kv = .int .i64 (k : Int) ∧ RmLW w5 wr base r ovi M'.floor (if k = 0 then M'.most else version) (L ++ (R.take k).map fun s => ⟨s, version⟩) ovk) (fun kv _ => R.length - (intOf kv).toNat)
              case atStart => exact ⟨0, ovi, Nat.zero_le _, rfl, by simpa using RmLW.refl HL5.out⟩
              case round =>
                obtain ⟨k, ovk, hkl, rfl, hrl⟩ := hrel
                have hO9 := HL5.out.keeps HO5.out (by decide) (by decide) hrl.moved
                have hS9 := HL5.out.keeps HS5.out (by decide) (by decide) hrl.moved
                have HRLW := Lib.hid hrl
                have HO9 := Lib.hid hO9
                have HS9 := Lib.hid hS9
                have hzr := hrl.now.low.2
                clear hrl hO9 hS9
                by_cases hkr : k < R.length
                · obtain ⟨_, _, e, _, hq⟩ := Own.rd cellsS_len HS9.out
                  injection e with e1 e2 e3
                  subst e1
                  obtain ⟨b9, o9, e9, _, hq2⟩ := hq k hkr
                  injection e9 with e9
                  injection e9 with e10 e11
                  subst e10 e11
                  have g0 := hq2 0 _ rfl
                  have g1 := hq2 1 _ rfl
                  clear hq hq2 e2 e3
                  have hnx : (R.take (k + 1)).map (fun s => (⟨s, version⟩ : Wr)) = (R.take k).map (fun s => ⟨s, version⟩) ++ [⟨R[k], version⟩] := by
                    rw [List.take_add_one, List.getElem?_eq_getElem hkr, Option.toList_some, List.map_append]
                    rfl
                  have hXl : (L ++ (R.take k).map fun s => (⟨s, version⟩ : Wr)).length ≤ 90000 := by rw [List.length_append, List.length_map, List.length_take]; have := HLN.out; omega
                  have hXn : L ++ (R.take (k + 1)).map (fun s => (⟨s, version⟩ : Wr)) = (L ++ (R.take k).map (fun s => ⟨s, version⟩)) ++ [⟨R[k], version⟩] := by rw [hnx, List.append_assoc]
                  obtain ⟨X, hX⟩ : ∃ X, L ++ (R.take k).map (fun s => (⟨s, version⟩ : Wr)) = X := ⟨_, rfl⟩
                  obtain ⟨mo, hmo⟩ : ∃ mo : Int, (if k = 0 then M'.most else version) = mo := ⟨_, rfl⟩
                  rw [hX] at hXl hXn HRLW
                  rw [hmo] at HRLW
                  generalize R[k] = z at g0 g1 hXn
                  obtain ⟨sf, st⟩ := z
                  simp only [Nat.add_zero, Nat.zero_add] at g0 g1
                  have hnext : ∀ (w9 : World) (ov9 : Option Nat), RmLW wr w9 base r ovk M'.floor version (X ++ [⟨(sf, st), version⟩]) ov9 → RmLW w5 w9 base r ovi M'.floor (if k + 1 = 0 then M'.most else version) (L ++ (R.take (k + 1)).map fun s => ⟨s, version⟩) ov9 := fun w9 ov9 h9 => by
                    rw [hXn, if_neg (by omega)]
                    exact HRLW.out.trans h9 (by have := HL5.out.size; omega)
                  have HNEXT := Lib.hid hnext
                  have HXL := Lib.hid hXl
                  obtain ⟨A8, c8, hw8, ho8, hv8⟩ := HRLW.out.now.blk
                  obtain ⟨wd, hwd⟩ : ∃ wd, wr.drew = wd := ⟨_, rfl⟩
                  have hzd : wd.heap.size = wr.heap.size := by rw [← hwd]; rfl
                  have hRd : RmL wd base r ovk M'.floor mo X := by rw [← hwd]; exact ⟨⟨A8, c8, hw8.drew, ho8.drew, hv8⟩, HRLW.out.now.low⟩
                  have hWd : Whole wd r 62 [.slice A8 X.length c8, .int .i64 M'.floor, .int .i64 mo] := by rw [← hwd]; exact hw8.drew
                  obtain ⟨wf, hwf⟩ : ∃ wf, wd.alloc (.cells #[.string sf, .string st, .int .i64 version] 81) = wf := ⟨_, rfl⟩
                  have hbf : Below wd.heap.size wd wf := by rw [← hwf]; exact (Below.refl _ wd).alloc (Nat.le_refl _) _
                  have hof : OwnW wf base (.slice A8 X.length c8) X := by rw [← hwf, ← hwd]; exact ho8.drew.alloc _
                  have hone : RdW wf (wd.heap.size + 1) (.slice (some ⟨wd.heap.size, 0, none⟩) 1 1) [⟨(sf, st), version⟩] := by rw [← hwf]; exact RdW.one wd ⟨(sf, st), version⟩
                  have hgl : g5 < wd.heap.size := by rw [hzd]; exact (Own.low HS9.out (by rfl)).2
                  have hgr : g5 ≠ r := fun e => Own.apart HS9.out hw8 (by decide) (by rw [← e]; rfl)
                  have hgo : ovk ≠ some g5 := fun e => Own.apart2 HS9.out ho8 (by decide) (g := g5) (by rfl) (hv8.trans e)
                  have hsd : wd.cell? ⟨g5, k * 2, none⟩ = some (.string sf) ∧ wd.cell? ⟨g5, k * 2 + 1, none⟩ = some (.string st) := by rw [← hwd]; exact ⟨g0, g1⟩
                  have hsf : wf.cell? ⟨g5, k * 2, none⟩ = some (.string sf) ∧ wf.cell? ⟨g5, k * 2 + 1, none⟩ = some (.string st) := ⟨(hbf.cell (p := ⟨g5, _, none⟩) hgl).trans hsd.1, (hbf.cell (p := ⟨g5, _, none⟩) hgl).trans hsd.2⟩
                  have hgf : g5 < wf.heap.size := Nat.lt_of_lt_of_le hgl hbf.size
                  have hsk : ∀ w4, Mv (fun i => some i = ovk) wf w4 → w4.cell? ⟨g5, k * 2, none⟩ = some (.string sf) ∧ w4.cell? ⟨g5, k * 2 + 1, none⟩ = some (.string st) := fun w4 hm => by
                    have hb4 := hm.block g5 hgf (fun e => hgo e.symm)
                    exact ⟨(World.cell?_of_block (w := wf) hb4).trans hsf.1, (World.cell?_of_block (w := wf) hb4).trans hsf.2⟩
                  have hsl : ∀ w4 (u : Value), Mv (fun i => some i = ovk) wf w4 → (w4.setCell ⟨r, 0, none⟩ u).cell? ⟨g5, k * 2, none⟩ = some (.string sf) ∧ (w4.setCell ⟨r, 0, none⟩ u).cell? ⟨g5, k * 2 + 1, none⟩ = some (.string st) := fun w4 u hm => by
                    have hb4 : (w4.setCell ⟨r, 0, none⟩ u).heap[g5]? = w4.heap[g5]? := Below.heap_setCell w4 ⟨r, 0, none⟩ u g5 hgr
                    exact ⟨(World.cell?_of_block (w := w4) hb4).trans (hsk w4 hm).1, (World.cell?_of_block (w := w4) hb4).trans (hsk w4 hm).2⟩
                  have HSD := Lib.hid hsd
                  have HSF := Lib.hid hsf
                  have HSK := Lib.hid hsk
                  have HSL := Lib.hid hsl
                  have HWD := Lib.hid hWd
                  have HWF := Lib.hid (show Whole wf r 62 [.slice A8 X.length c8, .int .i64 M'.floor, .int .i64 mo] from hWd.below hbf hWd.size)
                  have HOF := Lib.hid hof
                  have HONE := Lib.hid hone
                  have HBF := Lib.hid hbf
                  have HEF := Lib.hid hwf
                  have HOV := Lib.hid hv8
                  have HAP := Lib.hid (show ovk ≠ some r from fun e => Own.apart ho8 hw8 (by decide) (by rw [hv8, e]))
                  have HZF := Lib.hid (show base ≤ wf.heap.size from Nat.le_trans hRd.low.2 hbf.size)
                  have HRL := Lib.hid hRd
                  have HNXD := Lib.hid (show ∀ (w9 : World) (ov9 : Option Nat), RmLW wd w9 base r ovk M'.floor version (X ++ [⟨(sf, st), version⟩]) ov9 → RmLW wr w9 base r ovk M'.floor version (X ++ [⟨(sf, st), version⟩]) ov9 from fun w9 ov9 h9 => ⟨h9.now, (show Mv (RmD r ovk) wr wd by rw [← hwd]; exact (Mv.refl _ wr).drew).trans h9.moved (fun _ _ h => h), fun g hg => by have := h9.new g hg; rwa [hzd] at this⟩)
                  have HNEXT2 := Lib.hid (fun (w9 : World) (ov9 : Option Nat) (h9 : RmLW wd w9 base r ovk M'.floor version (X ++ [⟨(sf, st), version⟩]) ov9) => HNEXT.out w9 ov9 (HNXD.out w9 ov9 h9))
                  have HWW := Lib.hid hwd
                  clear hsd hsf hsk hsl hWd hof hone hbf hv8 hRd HNEXT HNXD hnext hnx hXl hXn hX hmo ho8 hw8 hgr hgo hgf hgl g0 g1 hzd
                  have HNEXT := HNEXT2
                  clear HNEXT2
                  have j0 : (0 : Int) ≤ (k : Int) := by omega
                  have j1 : (k : Int) < (R.length : Int) := by omega
                  have j2 : IntKind.i64.wrap ((k : Int) + 1) = ((k + 1 : Nat) : Int) := by rw [IntKind.wrap_i64]; omega
                  go_wp2_with fail
                  refine wp_region_planT (fun W => W.cell? ⟨g5, k * 2, none⟩ = some (.string sf) ∧ W.cell? ⟨g5, k * 2 + 1, none⟩ = some (.string st)) (.take 0 (.take 1 (.take 2 (.take 3 (.take 5 (.take 6 (.take 7 (.take 8 (.take 9 (.take 10 (.fork 4 (.step 11 (.step 12 (.take 13 (.take 14 (.step 15 .done))))) 11 (.step 4 (.step 12 (.take 13 (.take 14 (.step 15 .done)))))))))))))))) (by kernel_rfl) (by kernel_rfl) (fun _ _ d _ _ h => by cases d <;> exact h) (by rw [HWW.out]; exact HSD.out) ?_
                  rw [HWW.out]
                  clear hwd hwf
                  (refine PlanT.takeI (v := ?_) rfl rfl ?_ ?_; rotate_left; (focus (intro W hW; obtain ⟨hs0, hs1⟩ := hW; go_simp; (try with_reducible rfl); done)); (try simp only [Act.put, List.setIfInBounds_toArray, List.set_cons_zero, List.set_cons_succ]))
                  (refine PlanT.takeI (v := ?_) rfl rfl ?_ ?_; rotate_left; (focus (intro W hW; obtain ⟨hs0, hs1⟩ := hW; go_simp; (try with_reducible rfl); done)); (try simp only [Act.put, List.setIfInBounds_toArray, List.set_cons_zero, List.set_cons_succ]))
                  (refine PlanT.takeI (v := ?_) rfl rfl ?_ ?_; rotate_left; (focus (intro W hW; obtain ⟨hs0, hs1⟩ := hW; go_simp; (try with_reducible rfl); done)); (try simp only [Act.put, List.setIfInBounds_toArray, List.set_cons_zero, List.set_cons_succ]))
                  (refine PlanT.takeI (v := ?_) rfl rfl ?_ ?_; rotate_left; (focus (intro W hW; obtain ⟨hs0, hs1⟩ := hW; go_simp; (try with_reducible rfl); done)); (try simp only [Act.put, List.setIfInBounds_toArray, List.set_cons_zero, List.set_cons_succ]))
                  (refine PlanT.takeI (v := ?_) rfl rfl ?_ ?_; rotate_left; (focus (intro W hW; obtain ⟨hs0, hs1⟩ := hW; go_simp; (try with_reducible rfl); done)); (try simp only [Act.put, List.setIfInBounds_toArray, List.set_cons_zero, List.set_cons_succ]))
                  (refine PlanT.takeI (v := ?_) rfl rfl ?_ ?_; rotate_left; (focus (intro W hW; obtain ⟨hs0, hs1⟩ := hW; go_simp; (try with_reducible rfl); done)); (try simp only [Act.put, List.setIfInBounds_toArray, List.set_cons_zero, List.set_cons_succ]))
                  (refine PlanT.takeI (v := ?_) rfl rfl ?_ ?_; rotate_left; (focus (intro W hW; obtain ⟨hs0, hs1⟩ := hW; go_simp; (try with_reducible rfl); done)); (try simp only [Act.put, List.setIfInBounds_toArray, List.set_cons_zero, List.set_cons_succ]))
                  (refine PlanT.takeI (v := ?_) rfl rfl ?_ ?_; rotate_left; (focus (intro W hW; obtain ⟨hs0, hs1⟩ := hW; go_simp; (try with_reducible rfl); done)); (try simp only [Act.put, List.setIfInBounds_toArray, List.set_cons_zero, List.set_cons_succ]))
                  (refine PlanT.takeI (v := ?_) rfl rfl ?_ ?_; rotate_left; (focus (intro W hW; obtain ⟨hs0, hs1⟩ := hW; go_simp; (try with_reducible rfl); done)); (try simp only [Act.put, List.setIfInBounds_toArray, List.set_cons_zero, List.set_cons_succ]))
                  (refine PlanT.takeI (v := ?_) rfl rfl ?_ ?_; rotate_left; (focus (intro W hW; obtain ⟨hs0, hs1⟩ := hW; go_simp; (try with_reducible rfl); done)); (try simp only [Act.put, List.setIfInBounds_toArray, List.set_cons_zero, List.set_cons_succ]))
                  refine ⟨wpOp_stepT rfl rfl (fun Kk hKk => ?_), wpOp_stepT rfl rfl (fun Kk hKk => ?_)⟩
                  · have q0 := HWD.out.cell 0 _ rfl
                    go_simp
                    refine hKk.out _ _ HSD.out ?_
                    clear hKk Kk q0
                    (try simp only [Act.put, List.setIfInBounds_toArray, List.set_cons_zero, List.set_cons_succ])
                    refine wpOp_stepT rfl rfl (fun Kk hKk => ?_)
                    go_simp
                    rw [HEF.out]
                    refine hKk.out _ _ HSF.out ?_
                    clear hKk Kk
                    (try simp only [Act.put, List.setIfInBounds_toArray, List.set_cons_zero, List.set_cons_succ])
                    refine wpOp_stepT rfl rfl (fun Kk hKk => ?_)
                    refine wp_addWr _ _ rfl base (.slice A8 X.length c8) X rfl HOF.out (wd.heap.size + 1) (.slice (some ⟨wd.heap.size, 0, none⟩) 1 1) [⟨(sf, st), version⟩] rfl HONE.out (by have := HXL.out; simp only [List.length_cons, List.length_nil]; omega) HZF.out (fun A4 c4 w4 ho4 hg4 hn4 => ?_)
                    have hlen4 : X.length + 1 = (X ++ [(⟨(sf, st), version⟩ : Wr)]).length := by simp
                    rw [← hlen4] at ho4 hn4 ⊢
                    have HLEN4 := Lib.hid hlen4; clear hlen4
                    rw [HOV.out] at hg4 hn4
                    have hm4 := Mv.of_grown hg4
                    refine hKk.out _ _ (HSK.out w4 hm4) ?_
                    clear hKk Kk
                    (try simp only [Act.put, List.setIfInBounds_toArray, List.set_cons_zero, List.set_cons_succ])
                    (refine PlanT.takeI (v := ?_) rfl rfl ?_ ?_; rotate_left; (focus (intro W hW; go_simp; (try with_reducible rfl); done)); (try simp only [Act.put, List.setIfInBounds_toArray, List.set_cons_zero, List.set_cons_succ]))
                    (refine PlanT.takeI (v := ?_) rfl rfl ?_ ?_; rotate_left; (focus (intro W hW; go_simp; (try with_reducible rfl); done)); (try simp only [Act.put, List.setIfInBounds_toArray, List.set_cons_zero, List.set_cons_succ]))
                    have hr4 : Whole w4 r 62 [.slice A8 X.length c8, .int .i64 M'.floor, .int .i64 mo] := hm4.whole HWF.out (fun e => HAP.out e.symm)
                    refine wpOp_stepT rfl rfl (fun Kk hKk => ?_)
                    have q0 := hr4.cell 0 _ rfl
                    have q0f := hr4.frozen 0
                    go_simp
                    refine hKk.out _ _ (HSL.out w4 _ hm4) ?_
                    clear hKk Kk q0 q0f
                    (try simp only [Act.put, List.setIfInBounds_toArray, List.set_cons_zero, List.set_cons_succ])
                    simp only [PlanT]
                    have q2 := (hr4.put 0 (.slice A4 (X.length + 1) c4)).cell 2 _ rfl
                    have q2f := (hr4.put 0 (.slice A4 (X.length + 1) c4)).frozen 2
                    have hpush := RmL.push (most' := version) HRL.out HBF.out hg4 HLEN4.out ho4 hn4
                    have HPUSH := Lib.hid hpush
                    clear hpush hr4 ho4 hn4 hm4 hg4
                    go_wp2_with fail
                    go_roundw
                    case rel => exact ⟨k + 1, _, by omega, rfl, HNEXT.out _ _ HPUSH.out⟩
                    case measure => simp [intOf]; omega
                  · go_simp
                    rw [HEF.out]
                    refine hKk.out _ _ HSF.out ?_
                    clear hKk Kk
                    (try simp only [Act.put, List.setIfInBounds_toArray, List.set_cons_zero, List.set_cons_succ])
                    refine wpOp_stepT rfl rfl (fun Kk hKk => ?_)
                    have q0 := HWF.out.cell 0 _ rfl
                    go_simp
                    refine hKk.out _ _ HSF.out ?_
                    clear hKk Kk q0
                    (try simp only [Act.put, List.setIfInBounds_toArray, List.set_cons_zero, List.set_cons_succ])
                    refine wpOp_stepT rfl rfl (fun Kk hKk => ?_)
                    refine wp_addWr _ _ rfl base (.slice A8 X.length c8) X rfl HOF.out (wd.heap.size + 1) (.slice (some ⟨wd.heap.size, 0, none⟩) 1 1) [⟨(sf, st), version⟩] rfl HONE.out (by have := HXL.out; simp only [List.length_cons, List.length_nil]; omega) HZF.out (fun A4 c4 w4 ho4 hg4 hn4 => ?_)
                    have hlen4 : X.length + 1 = (X ++ [(⟨(sf, st), version⟩ : Wr)]).length := by simp
                    rw [← hlen4] at ho4 hn4 ⊢
                    have HLEN4 := Lib.hid hlen4; clear hlen4
                    rw [HOV.out] at hg4 hn4
                    have hm4 := Mv.of_grown hg4
                    refine hKk.out _ _ (HSK.out w4 hm4) ?_
                    clear hKk Kk
                    (try simp only [Act.put, List.setIfInBounds_toArray, List.set_cons_zero, List.set_cons_succ])
                    (refine PlanT.takeI (v := ?_) rfl rfl ?_ ?_; rotate_left; (focus (intro W hW; go_simp; (try with_reducible rfl); done)); (try simp only [Act.put, List.setIfInBounds_toArray, List.set_cons_zero, List.set_cons_succ]))
                    (refine PlanT.takeI (v := ?_) rfl rfl ?_ ?_; rotate_left; (focus (intro W hW; go_simp; (try with_reducible rfl); done)); (try simp only [Act.put, List.setIfInBounds_toArray, List.set_cons_zero, List.set_cons_succ]))
                    have hr4 : Whole w4 r 62 [.slice A8 X.length c8, .int .i64 M'.floor, .int .i64 mo] := hm4.whole HWF.out (fun e => HAP.out e.symm)
                    refine wpOp_stepT rfl rfl (fun Kk hKk => ?_)
                    have q0 := hr4.cell 0 _ rfl
                    have q0f := hr4.frozen 0
                    go_simp
                    refine hKk.out _ _ (HSL.out w4 _ hm4) ?_
                    clear hKk Kk q0 q0f
                    (try simp only [Act.put, List.setIfInBounds_toArray, List.set_cons_zero, List.set_cons_succ])
                    simp only [PlanT]
                    have q2 := (hr4.put 0 (.slice A4 (X.length + 1) c4)).cell 2 _ rfl
                    have q2f := (hr4.put 0 (.slice A4 (X.length + 1) c4)).frozen 2
                    have hpush := RmL.push (most' := version) HRL.out HBF.out hg4 HLEN4.out ho4 hn4
                    have HPUSH := Lib.hid hpush
                    clear hpush hr4 ho4 hn4 hm4 hg4
                    go_wp2_with fail
                    go_roundw
                    case rel => exact ⟨k + 1, _, by omega, rfl, HNEXT.out _ _ HPUSH.out⟩
                    case measure => simp [intOf]; omega
                · obtain rfl : k = R.length := by omega
                  have hfin := HRLW.out
                  rw [List.take_length] at hfin
                  have HFIN := Lib.hid (HEND.out _ ovk hfin)
                  clear hfin
                  go_wp2_with fail
                  go_roundw
                  case rel => exact ⟨i + 1, A3, c3, ovk, by omega, rfl, rfl, by rw [HSN.out.1]; exact HO9.out, HFIN.out⟩
                  case measure => simp [intOf]; omega
            · have hj : judge1 M' version t = M' := by unfold judge1; rw [if_neg (fun e => hv1 (HVD.out.symm.trans e))]
              have hfin := HNX.out w5 M' L ovi (by rw [hsame, hj]) HLF.out (by have := HLN.out; omega) HLP.out HOK'.out (RmLW.refl HL5.out)
              have HFIN := Lib.hid hfin
              have hvb : (vd == 1) = false := by simpa using hv1
              clear hfin hsame hj HNX
              by_cases hR0 : 0 < R.length
              · have hRb : (0 : Int) < (R.length : Int) := by omega
                go_wp2_with fail
                refine wp_loop_rounds 1 ?_
                rw [rounds_succ]
                go_wp2_with fail
                go_roundw
                case rel => exact ⟨i + 1, A3, c3, ovi, by omega, rfl, rfl, by rw [HSN.out.1]; exact HO5.out, HFIN.out⟩
                case measure => simp [intOf]; omega
              · have hRb : ¬ (0 : Int) < (R.length : Int) := by omega
                go_wp2_with fail
                refine wp_loop_rounds 1 ?_
                rw [rounds_succ]
                go_wp2_with fail
                go_roundw
                case rel => exact ⟨i + 1, A3, c3, ovi, by omega, rfl, rfl, by rw [HSN.out.1]; exact HO5.out, HFIN.out⟩
                case measure => simp [intOf]; omega
        · obtain rfl : i = ts.length := by omega
          have hall : (ts.map (·.t)).take ts.length = ts.map (·.t) := by rw [← List.length_map (f := fun x : TxV => x.t)]; exact List.take_length
          rw [hall, ← HOE.out] at HO
          rw [hall, ← HNE.out] at HRM
          have hOl : O.length = ts.length := by rw [HOE.out, judgeL_len, List.length_map]
          have HOL := Lib.hid hOl
          have hfin : RmWent w wr base r ov (n + 96) N ovi := ⟨HRM.out.now.wide (by omega), HRM.out.moved, HRM.out.new⟩
          have HFIN := Lib.hid hfin
          clear hall hOl hfin hbb hrm
          go_wp2_with fail
          exact bodyPost_ret (v := .tuple #[.slice A' ts.length c', .int .i64 0]) (by simp [results, Tryz.results19, go_sem]) rfl ⟨A', c', by rw [HOL.out, HEE.out], by rw [HOL.out]; exact HO.out, ovi, HFIN.out⟩
end Go.Proofs.YtgppgecglkellaaGreat
namespace Go.Proofs.YtgppgecglkellaaGreat

/-- the pieces of the first i that were written -/
structure PiecesTo (L : List Wr) (floor : Int) (i : Nat) (X : List Wr) : Prop where
  ne : ∀ x ∈ X, x.s.1 < x.s.2 ∧ floor < x.v
  of : ∀ x ∈ X, ∃ j y, j < i ∧ L[j]? = some y ∧ y.v = x.v ∧ ∀ k, has x.s k → Left L j k
  all : ∀ j k y, j < i → L[j]? = some y → Left L j k → floor < y.v → ∃ x ∈ X, has x.s k
  apart : X.Pairwise fun x y => ∀ k, has x.s k → ¬ has y.s k
theorem PiecesTo.start (L : List Wr) (floor : Int) : PiecesTo L floor 0 [] := ⟨by simp, by simp, fun j _ _ h => by omega, .nil⟩
theorem left_one {L : List Wr} {j j' : Nat} {k : K} (h : Left L j k) (h' : Left L j' k) : j = j' := by
  obtain ⟨x, hx, hk, hn⟩ := h
  obtain ⟨x', hx', hk', hn'⟩ := h'
  have key : ∀ (a b : Nat) (y : Wr), a < b → L[b]? = some y → has y.s k → (∀ z ∈ L.drop (a + 1), ¬ has z.s k) → False := fun a b y hab hb hy hz => by
    refine hz y (List.mem_of_getElem? (i := b - (a + 1)) ?_) hy
    rw [List.getElem?_drop, show a + 1 + (b - (a + 1)) = b by omega]
    exact hb
  rcases Nat.lt_trichotomy j j' with hlt | hlt | hlt
  · exact (key j j' x' hlt hx' hk' hn).elim
  · exact hlt
  · exact (key j' j x hlt hx hk hn').elim
theorem PiecesTo.skip {L : List Wr} {floor : Int} {i : Nat} {X : List Wr} (h : PiecesTo L floor i X) (hi : i < L.length) (hv : L[i].v ≤ floor) : PiecesTo L floor (i + 1) X := by
  refine ⟨h.ne, fun x hx => ?_, fun j k y hj hy hl hf => ?_, h.apart⟩
  · obtain ⟨j, y, hj, r⟩ := h.of x hx
    exact ⟨j, y, by omega, r⟩
  · by_cases e : j = i
    · subst e
      rw [List.getElem?_eq_getElem hi] at hy
      injection hy with hy
      subst hy
      omega
    · exact h.all j k y (by omega) hy hl hf
theorem PiecesTo.add {L : List Wr} {floor : Int} {i : Nat} {X : List Wr} {R : List (K × K)} (h : PiecesTo L floor i X) (hi : i < L.length) (hv : floor < L[i].v) (hR : Fits R (fun k => Left L i k)) : PiecesTo L floor (i + 1) (X ++ R.map fun s => ⟨s, L[i].v⟩) := by
  refine ⟨fun x hx => ?_, fun x hx => ?_, fun j k y hj hy hl hf => ?_, ?_⟩
  · rcases List.mem_append.1 hx with hx | hx
    · exact h.ne x hx
    · obtain ⟨s, hs, rfl⟩ := List.mem_map.1 hx
      exact ⟨hR.1.ne s hs, hv⟩
  · rcases List.mem_append.1 hx with hx | hx
    · obtain ⟨j, y, hj, r⟩ := h.of x hx
      exact ⟨j, y, by omega, r⟩
    · obtain ⟨s, hs, rfl⟩ := List.mem_map.1 hx
      exact ⟨i, L[i], by omega, List.getElem?_eq_getElem hi, rfl, fun k hk => (hR.2 k).1 ⟨s, hs, hk⟩⟩
  · by_cases e : j = i
    · subst e
      obtain ⟨s, hs, hk⟩ := (hR.2 k).2 hl
      exact ⟨_, List.mem_append_right _ (List.mem_map.2 ⟨s, hs, rfl⟩), hk⟩
    · obtain ⟨x, hx, hk⟩ := h.all j k y (by omega) hy hl hf
      exact ⟨x, List.mem_append_left _ hx, hk⟩
  · refine List.pairwise_append.2 ⟨h.apart, ?_, fun x hx y hy k h1 h2 => ?_⟩
    · rw [List.pairwise_map]
      refine (normal_pair hR.1).imp ?_
      intro s t hst k h1 h2
      unfold has at h1 h2
      grind
    · obtain ⟨s, hs, rfl⟩ := List.mem_map.1 hy
      obtain ⟨j, z, hj, _, _, hl⟩ := h.of x hx
      have := left_one (hl k h1) ((hR.2 k).1 ⟨s, hs, h2⟩)
      omega
theorem PiecesTo.whole {L : List Wr} {floor : Int} {X : List Wr} (h : PiecesTo L floor L.length X) (h0 : 0 ≤ floor) : Pieces (ver L) floor X := by
  refine ⟨h.ne, fun k hk => ?_, fun x hx k hk => ?_, h.apart⟩
  · rcases ver_cases L k with ⟨e, _⟩ | ⟨j, y, hy, hl, e⟩
    · omega
    · exact h.all j k y (List.getElem?_eq_some_iff.1 hy).1 hy hl (by omega)
  · obtain ⟨j, y, hj, hy, hv, hl⟩ := h.of x hx
    rw [ver_left (hl k hk) hy, hv]

/-- how many are counted off when i of the outer loop are done, and k of the inner one -/
def gone (X : List Wr) (i k : Nat) : Nat := pairsOf (X.take i) X + (match X[i]? with | none => 0 | some x => ((X.take k).filter (touch x)).length)
theorem gone_zero (X : List Wr) : gone X 0 0 = 0 := by
  unfold gone pairsOf
  cases X[0]? <;> simp
theorem gone_step {X : List Wr} {i k : Nat} (hi : i < X.length) (hk : k < X.length) : gone X i (k + 1) = gone X i k + if touch X[i] X[k] then 1 else 0 := by
  unfold gone
  rw [List.getElem?_eq_getElem hi]
  simp only
  rw [List.take_add_one, List.getElem?_eq_getElem hk, Option.toList_some, List.filter_append, List.length_append]
  by_cases h : touch X[i] X[k] = true
  · rw [if_pos h, List.filter_cons_of_pos h]; simp; omega
  · rw [if_neg h, List.filter_cons_of_neg h]; simp
theorem gone_row {X : List Wr} {i : Nat} (hi : i < X.length) : gone X i X.length = gone X (i + 1) 0 := by
  unfold gone pairsOf
  rw [List.getElem?_eq_getElem hi]
  simp only [List.take_length, List.take_zero, List.filter_nil, List.length_nil]
  rw [List.take_add_one, List.getElem?_eq_getElem hi, Option.toList_some, List.map_append, List.sum_append]
  cases X[i + 1]? <;> simp
theorem gone_end (X : List Wr) : gone X X.length 0 = pairsOf X X := by
  unfold gone
  rw [List.take_length, List.getElem?_eq_none (Nat.le_refl _)]
  rfl
theorem gone_mono {X : List Wr} {i : Nat} (hi : i < X.length) : ∀ (k : Nat), k ≤ X.length → gone X i k ≤ gone X i X.length := by
  intro k hk
  obtain ⟨d, hd⟩ : ∃ d, X.length = k + d := ⟨X.length - k, by omega⟩
  induction d generalizing k with
  | zero => rw [hd]; exact Nat.le_refl _
  | succ d ih =>
    refine Nat.le_trans ?_ (ih (k + 1) (by omega) (by omega))
    rw [gone_step hi (by omega)]
    omega
theorem gone_le {X : List Wr} : ∀ (d i k : Nat), X.length = i + d → k ≤ X.length → gone X i k ≤ pairsOf X X
  | 0, i, k, hd, hk => by
    have : gone X i k = gone X X.length 0 := by
      have e : i = X.length := by omega
      subst e
      unfold gone
      rw [List.getElem?_eq_none (Nat.le_refl _)]
    rw [this, gone_end]
    exact Nat.le_refl _
  | d + 1, i, k, hd, hk => by
    refine Nat.le_trans (gone_mono (by omega) k hk) ?_
    rw [gone_row (by omega)]
    exact gone_le d (i + 1) 0 (by omega) (Nat.zero_le _)
end Go.Proofs.YtgppgecglkellaaGreat
namespace Go.Proofs.YtgppgecglkellaaGreat
open Go.RowKit
attribute [local go_sem] less_eq same_eq le_eq ge_eq gt_eq

end Go.Proofs.YtgppgecglkellaaGreat
namespace Go.Proofs.YtgppgecglkellaaGreat
open Go.RowKit

/-- one act, as it came in -/
structure MAct where
  what : Int
  ver : Int
  span : K × K
  v : Value
  ts : List TxV
def encMA (a : MAct) : List Value := [.int .i64 a.what, .int .i64 a.ver, .string a.span.1, .string a.span.2, a.v]
theorem encMA_len (a : MAct) : (encMA a).length = 5 := rfl
theorem RdMA.at {w : World} {B : Nat} {v : Value} {l : List MAct} (h : Rd encMA 5 w B v l) : ∃ A c, v = .slice A l.length c ∧ l.length ≤ c ∧ ∀ i (_ : i < l.length), ∃ b o, A = some ⟨b, o, none⟩ ∧ b < B ∧
    w.cell? ⟨b, o + i * 5, none⟩ = some (.int .i64 l[i].what) ∧ w.cell? ⟨b, o + i * 5 + 1, none⟩ = some (.int .i64 l[i].ver) ∧ w.cell? ⟨b, o + i * 5 + 2, none⟩ = some (.string l[i].span.1) ∧ w.cell? ⟨b, o + i * 5 + 3, none⟩ = some (.string l[i].span.2) ∧ w.cell? ⟨b, o + i * 5 + 4, none⟩ = some l[i].v := by
  obtain ⟨A, c, hv, hc, hi⟩ := h
  refine ⟨A, c, hv, hc, fun i hs => ?_⟩
  obtain ⟨b, o, hA, hB, h1⟩ := hi i hs
  exact ⟨b, o, hA, hB, h1 0 _ rfl, h1 1 _ rfl, h1 2 _ rfl, h1 3 _ rfl, h1 4 _ rfl⟩
/-- transactions that came in: none of them in a new block -/
structure TxOk (w : World) (v : Value) (ts : List TxV) : Prop where
  rd : RdTx w w.heap.size (fun _ => False) v ts
  fit : ∀ x ∈ ts, fitT x.t
  read : ∀ x ∈ ts, I64 x.t.read
theorem TxOk.next {w w' : World} {v : Value} {ts : List TxV} (h : TxOk w v ts) (hb : Below w.heap.size w w') : RdTx w' w.heap.size (fun _ => False) v ts :=
  h.rd.mv (Mv.of_below hb) (Nat.le_refl _) (fun b h1 h2 => by omega)
/-- and none of them in a block of marks that were made since -/
theorem TxOk.off {w w' : World} {v : Value} {ts : List TxV} {q n : Nat} {G : Nat → Prop} {m : Mk} (h : TxOk w v ts) (hb : Below w.heap.size w w') (hm : MkAt w' w.heap.size q G n m) : RdTx w' w'.heap.size G v ts :=
  (h.next hb).mono hb.size (fun b h1 h2 => by have := (hm.low.2 b h2).1; omega)

/-- the program's marks at their blocks G, the reference's: apart -/
structure Mid (w : World) (base q r : Nat) (G : Nat → Prop) (ov : Option Nat) (n n' : Nat) (m m0 : Mk) : Prop where
  pm : MkAt w base q G n m
  ref : RmAt w base r ov n' m0
  off : ¬ G r ∧ ∀ g, ov = some g → ¬ G g
section
variable {w w' : World} {base q r g n n' n1 : Nat} {G G' : Nat → Prop} {ov ov' : Option Nat} {m m0 m1 : Mk}
theorem Mid.rowlt (h : Mid w base q r G ov n n' m m0) {g : Nat} (hg : ov = some g) : g < w.heap.size := (h.ref.row hg).2
theorem Mid.prog (h : Mid w base q r G ov n n' m m0) (hb : MkAt w' base q G' n1 m1) (hn : ∀ i, G' i → G i ∨ w.heap.size ≤ i) (hm : Mv G w w') : Mid w' base q r G' ov n1 n' m1 m0 :=
  ⟨hb, h.ref.mv hm h.off.1 h.off.2, fun hg => by
    rcases hn r hg with k | k
    · exact h.off.1 k
    · have := h.ref.size; omega, fun g hg hG => by
    rcases hn g hG with k | k
    · exact h.off.2 g hg k
    · have := h.rowlt hg; omega⟩
theorem Mid.offD (h : Mid w base q r G ov n n' m m0) (i : Nat) (hi : G i) : ¬ RmD r ov i := by
  rintro (rfl | hd)
  · exact h.off.1 hi
  · exact h.off.2 i hd.symm hi
theorem Mid.went (h : Mid w base q r G ov n n' m m0) (hw : RmWent w w' base r ov n1 m1 ov') : Mid w' base q r G ov' n n1 m m1 :=
  ⟨h.pm.mv hw.moved h.offD, hw.now, h.off.1, fun g hg hG => by
    rcases hw.new g hg with k | k
    · exact h.off.2 g k hG
    · have := (h.pm.low.2 g hG).2; omega⟩
theorem Mid.same (h : Mid w base q r G ov n n' m m0) (hb : Below w.heap.size w w') : Mid w' base q r G ov n n' m m0 := ⟨h.pm.new hb, h.ref.new hb, h.off⟩
theorem Mid.below (h : Mid w base q r G ov n n' m m0) (hm : Mv G w w') : Below base w w' := mv_below h.pm hm
theorem Mid.belowr (h : Mid w base q r G ov n n' m m0) (hw : RmWent w w' base r ov n1 m1 ov') : Below base w w' := hw.below h.ref
theorem Mid.fresh (h : Mid w base q r G ov n n' m m0) (hg : w.heap.size ≤ g) : ¬ G g ∧ ¬ RmD r ov g :=
  ⟨fun hi => by have := (h.pm.low.2 g hi).2; omega, by
    rintro (rfl | hd)
    · have := h.ref.size; omega
    · have := h.rowlt hd.symm; omega⟩
/-- what the program answered lies in no block of the reference's -/
theorem Mid.away (h : Mid w base q r G ov n n' m m0) {i : Nat} (hi : RmD r ov i) : Else w G i := by
  rcases hi with rfl | hd
  · exact ⟨h.off.1, h.ref.size⟩
  · exact ⟨h.off.2 i hd.symm, h.rowlt hd.symm⟩
end
theorem jout_len (m : Mk) (v : Int) (ts : List Txn) : (jout m v ts).length ≤ 4 := by
  unfold jout
  split
  · rename_i h
    rw [judgeL_len]
    exact (jerr_ok h).2.2.1
  · simp
theorem jnext_ok {m : Mk} (h : m.Ok) (v : Int) (ts : List Txn) (hv : v < 9223372036854775808) : (jnext m v ts).Ok := h.jnext ts hv
end Go.Proofs.YtgppgecglkellaaGreat
namespace Go.Proofs.YtgppgecglkellaaGreat
open Go.RowKit

/-- a transaction that came in -/
structure TxIn (w : World) (t : Txn) (v1 v2 : Value) : Prop where
  reads : RdP w w.heap.size v1 t.reads
  chgs : RdC w w.heap.size v2 t.chgs
  fit : fitT t
  read : I64 t.read
theorem TxIn.again {w : World} {t : Txn} {v1 v2 : Value} (h : TxIn w t v1 v2) {r : Int} (hr : I64 r) : TxIn w { t with read := r } v1 v2 := ⟨h.reads, h.chgs, h.fit, hr⟩
theorem TxIn.slices {w : World} {t : Txn} {v1 v2 : Value} (h : TxIn w t v1 v2) : ∃ A1 c1 A2 c2, v1 = .slice A1 t.reads.length c1 ∧ v2 = .slice A2 t.chgs.length c2 := by
  obtain ⟨A1, c1, e1, _, _⟩ := h.reads.at
  obtain ⟨A2, c2, e2, _, _⟩ := h.chgs.at
  exact ⟨A1, c1, A2, c2, e1, e2⟩
/-- it is found sound or not -/
theorem TxIn.sound {w w' : World} {t : Txn} {v1 v2 : Value} (h : TxIn w t v1 v2) (hb : Below w.heap.size w w') : Calls Tryz.prog 14 #[tval t v1 v2] w' fun e w2 => e = .returned (.bool (decide (soundT t))) ∧ Below w'.heap.size w' w2 :=
  rsoundT_any t h.fit v1 v2 w' ((h.reads.below hb (Nat.le_refl _)).mono hb.size) ((h.chgs.below hb (Nat.le_refl _)).mono hb.size)
theorem TxIn.part {w w' : World} {t : Txn} {v1 v2 : Value} {G : Nat → Prop} (h : TxIn w t v1 v2) (hb : Below w.heap.size w w') (hG : ∀ i, G i → w.heap.size ≤ i) : RdG cellsS 2 w' w'.heap.size G v1 t.reads ∧ RdG encC 3 w' w'.heap.size G v2 t.chgs :=
  ⟨(RdG.of (h.reads.below hb (Nat.le_refl _)) (fun b h1 h2 => by have := hG b h2; omega)).mono hb.size (fun _ _ h => h), (RdG.of (h.chgs.below hb (Nat.le_refl _)) (fun b h1 h2 => by have := hG b h2; omega)).mono hb.size (fun _ _ h => h)⟩
/-- one transaction in a new block -/
theorem RdTx.one {w' : World} {g : Nat} {G : Nat → Prop} {x : TxV} (hW : Whole w' g 47 [.int .i64 x.t.read, x.v1, x.v2]) (hp : RdG cellsS 2 w' w'.heap.size G x.v1 x.t.reads ∧ RdG encC 3 w' w'.heap.size G x.v2 x.t.chgs) (hG : ¬ G g) : RdTx w' w'.heap.size G (.slice (some ⟨g, 0, none⟩) 1 1) [x] :=
  ⟨Whole.rdg encTx_len (l := [x]) hW (Nat.le_refl 1) hW.size hG, fun y hy => by rw [List.mem_singleton] at hy; subst hy; exact hp⟩
theorem RdTx.two {w' : World} {g : Nat} {G : Nat → Prop} {x y : TxV} (hW : Whole w' g 47 [.int .i64 x.t.read, x.v1, x.v2, .int .i64 y.t.read, y.v1, y.v2]) (hp : RdG cellsS 2 w' w'.heap.size G x.v1 x.t.reads ∧ RdG encC 3 w' w'.heap.size G x.v2 x.t.chgs) (hp2 : RdG cellsS 2 w' w'.heap.size G y.v1 y.t.reads ∧ RdG encC 3 w' w'.heap.size G y.v2 y.t.chgs) (hG : ¬ G g) : RdTx w' w'.heap.size G (.slice (some ⟨g, 0, none⟩) 2 2) [x, y] :=
  ⟨Whole.rdg encTx_len (l := [x, y]) hW (Nat.le_refl 2) hW.size hG, fun z hz => by
    simp only [List.mem_cons, List.not_mem_nil, or_false] at hz
    rcases hz with rfl | rfl
    · exact hp
    · exact hp2⟩
theorem RdG.take {α : Type} {enc : α → List Value} {k : Nat} {w : World} {B : Nat} {G : Nat → Prop} {A : Option Addr} {c m : Nat} {l : List α} (h : RdG enc k w B G (.slice A m c) l) (n : Nat) (hn : n ≤ l.length) : RdG enc k w B G (.slice A n c) (l.take n) := by
  obtain ⟨A', c', hv, hc, hi⟩ := h
  injection hv with h1 h2 h3
  subst h1 h3
  refine ⟨A, c, by simp [Nat.min_eq_left hn], by simp; omega, fun i hs => ?_⟩
  have hs' : i < l.length := by simp at hs; omega
  obtain ⟨b, o, hA, hB, hg, h1⟩ := hi i hs'
  exact ⟨b, o, hA, hB, hg, fun j u hu => h1 j u (by simpa using hu)⟩
theorem TxOk.take {w : World} {A : Option Addr} {c m : Nat} {ts : List TxV} (h : TxOk w (.slice A m c) ts) (n : Nat) (hn : n ≤ ts.length) : TxOk w (.slice A n c) (ts.take n) :=
  ⟨⟨h.rd.row.take n hn, fun x hx => h.rd.parts x (List.mem_of_mem_take hx)⟩, fun x hx => h.fit x (List.mem_of_mem_take hx), fun x hx => h.read x (List.mem_of_mem_take hx)⟩

/-! ### pure -/
theorem jnext_low {m : Mk} (h : m.Ok) {v : Int} {ts : List Txn} (he : jerr m v ts = 0) (hv : v < 9223372036854775808) : (jnext m v ts).Ok ∧ (jnext m v ts).most ≤ v ∧ (jnext m v ts).floor = m.floor := by
  have := jerr_ok he
  unfold jnext
  rw [if_pos he]
  exact Mk.Ok.judgeM ts h (by omega) hv
theorem jerr_one {m : Mk} {v : Int} {t : Txn} (h1 : m.floor < v) (h2 : m.most < v) (hs : soundT t) : jerr m v [t] = 0 := by
  unfold jerr
  rw [if_neg (by omega), if_neg]
  rintro (h | ⟨u, hu, hn⟩)
  · simp at h
  · rw [List.mem_singleton] at hu; subst hu; exact hn hs
theorem jone {m : Mk} {v : Int} {t : Txn} (he : jerr m v [t] = 0) : jout m v [t] = [verd m t] ∧ jnext m v [t] = judge1 m v t := by
  unfold jout jnext
  rw [if_pos he, if_pos he]
  exact ⟨rfl, rfl⟩
theorem verd_fine {m : Mk} {t : Txn} (h1 : t.reads = [] ∨ m.floor ≤ t.read) (h2 : ∀ k, m.f k ≤ m.floor ∨ m.f k ≤ t.read) : verd m t = 1 := by
  unfold verd
  rw [if_neg (by rintro ⟨h3, h4⟩; rcases h1 with h1 | h1; exact h3 h1; omega), if_neg]
  rintro ⟨s, _, k, _, h3, h4⟩
  rcases h2 k with h5 | h5 <;> omega
theorem verd_blind {m : Mk} {t : Txn} (h : t.reads = []) : verd m t = 1 := by
  unfold verd
  rw [if_neg (fun h3 => h3.1 h), if_neg]
  rintro ⟨s, hs, _⟩
  rw [h] at hs
  simp at hs
end Go.Proofs.YtgppgecglkellaaGreat

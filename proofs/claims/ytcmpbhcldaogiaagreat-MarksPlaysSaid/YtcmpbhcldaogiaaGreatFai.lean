/- The reference's Marks: Judge. How the reference's Size gathers pieces, and counts them: pure. The reference's Marks: Size. Acts of marks as they come in; the program's marks beside the reference's. Transactions as arguments: one that came in, some of a list; pure facts for the small laws. Arguments of the marks laws as data: changes, spans, transactions, lists of them, acts. -/
import Derived.Test.YtcmpbhcldaogiaaGreatFah
import Derived.Test.YtcmpbhcldaogiaaGreatFac
import Derived.Test.YtcmpbhcldaogiaaGreatFaa
namespace Go.Proofs.YtcmpbhcldaogiaaGreat
open Go.RowKit

theorem take_map {α β : Type} (f : α → β) (l : List α) (i : Nat) (h : i < l.length) : (l.map f).take (i + 1) = (l.map f).take i ++ [f l[i]] := by
  rw [List.take_add_one, List.getElem?_map, List.getElem?_eq_getElem h]
  rfl
theorem chgs_small {t : Txn} (h : fitT t) : ∀ c ∈ t.chgs, smallC c := h.2.2.2

set_option maxHeartbeats 16000000 in
set_option maxRecDepth 100000 in
theorem rmjudge_any (base r : Nat) (ov : Option Nat) (n : Nat) (m : Mk) (version : Int) (ts : List TxV) (v : Value) (w : World) (h : RmAt w base r ov n m) (hr : RdTx w base (fun _ => False) v ts) (hfit : ∀ x ∈ ts, fitT x.t) (hv : version < 9223372036854775808) (hn : n + 96 ≤ 90000) :
    Calls Tryz.prog 8 #[.pointer (some ⟨r, 0, none⟩), .int .i64 version, v] w fun e w' => ∃ A cap, e = .returned (.tuple #[.slice A (jout m version (ts.map (·.t))).length cap, .int .i64 (jerr m version (ts.map (·.t)))]) ∧ OwnI w' w.heap.size (.slice A (jout m version (ts.map (·.t))).length cap) (jout m version (ts.map (·.t))) ∧
      ∃ ov', RmWent w w' base r ov (n + 96) (jnext m version (ts.map (·.t))) ov' := by
  obtain ⟨E, hE⟩ : ∃ E, E = jerr m version (ts.map (·.t)) := ⟨_, rfl⟩
  obtain ⟨O, hO⟩ : ∃ O, O = jout m version (ts.map (·.t)) := ⟨_, rfl⟩
  obtain ⟨N, hN⟩ : ∃ N, N = jnext m version (ts.map (·.t)) := ⟨_, rfl⟩
  rw [← hE, ← hO, ← hN]
  unfold jout at hO
  unfold jnext at hN
  rw [← hE] at hO hN
  have hbad : ∀ c : Int, c ≠ 0 → E = c → O = [] ∧ N = m := fun c hc he => by
    rw [if_neg (by omega)] at hO hN
    exact ⟨hO, hN⟩
  have H := Lib.hid h
  have HBAD := Lib.hid hbad
  have hbz := h.low.2
  have hrz := h.size
  have hstay : ∀ w', Below w.heap.size w w' → RmWent w w' base r ov (n + 96) m ov := fun w' hb => .of (h.wide (by omega)) hb
  have HSTAY := Lib.hid hstay
  obtain ⟨Am, cm, Lm, hw, _⟩ := h.blk
  have c1 := hw.cell 1 _ rfl
  have c2 := hw.cell 2 _ rfl
  obtain ⟨At, ct, rfl, hct, hi⟩ := hr.at
  have HI := Lib.hid hi
  have HPARTS := Lib.hid hr.parts
  have HFIT := Lib.hid hfit
  clear hbad hstay hw hi hr hfit
  unfold jerr at hE
  rw [List.length_map] at hE
  by_cases hfl : version ≤ m.floor
  · rw [if_pos (.inl hfl)] at hE
    obtain ⟨h1, h2⟩ := HBAD.out 9 (by omega) hE
    clear hO hN
    subst hE h1 h2
    have hb := decide_eq_true hfl
    go_enter Tryz.func8, Tryz.ntmps8
    go_wp2_with fail
    exact bodyPost_ret (v := .tuple #[.slice none 0 0, .int .i64 9]) (by simp [results, Tryz.results8, go_sem]) rfl ⟨none, 0, rfl, Own.nil _ _, ov, HSTAY.out _ (Below.refl _ _)⟩
  have hb1 := decide_eq_false hfl
  by_cases hmo : version ≤ m.most
  · rw [if_pos (.inr hmo)] at hE
    obtain ⟨h1, h2⟩ := HBAD.out 9 (by omega) hE
    clear hO hN
    subst hE h1 h2
    have hb := decide_eq_true hmo
    go_enter Tryz.func8, Tryz.ntmps8
    go_wp2_with fail
    exact bodyPost_ret (v := .tuple #[.slice none 0 0, .int .i64 9]) (by simp [results, Tryz.results8, go_sem]) rfl ⟨none, 0, rfl, Own.nil _ _, ov, HSTAY.out _ (Below.refl _ _)⟩
  have hb2 := decide_eq_false hmo
  rw [if_neg (by rintro (h1 | h1); exact hfl h1; exact hmo h1)] at hE
  by_cases hlen4 : 4 < ts.length
  · rw [if_pos (.inl hlen4)] at hE
    obtain ⟨h1, h2⟩ := HBAD.out 2 (by omega) hE
    clear hO hN
    subst hE h1 h2
    have hb3 : (4 : Int) < (ts.length : Int) := by omega
    go_enter Tryz.func8, Tryz.ntmps8
    go_wp2_with fail
    exact bodyPost_ret (v := .tuple #[.slice none 0 0, .int .i64 2]) (by simp [results, Tryz.results8, go_sem]) rfl ⟨none, 0, rfl, Own.nil _ _, ov, HSTAY.out _ (Below.refl _ _)⟩
  have hb3 : ¬ (4 : Int) < (ts.length : Int) := by omega
  have HE := Lib.hid hE
  have HOO := Lib.hid hO
  have HN := Lib.hid hN
  clear hE hO hN
  go_enter Tryz.func8, Tryz.ntmps8
  go_wp2_with fail
  go_loopw [8] (fun iv wr => ∃ i : Nat, i ≤ ts.length ∧ iv = .int .i64 (i : Int) ∧ (∀ x ∈ ts.take i, soundT x.t) ∧ Below w.heap.size w wr) (fun iv _ => ts.length - (intOf iv).toNat)
  case atStart => exact ⟨0, Nat.zero_le _, rfl, by simp, Below.refl _ _⟩
  case round =>
    obtain ⟨i, hil, rfl, hall, hbw⟩ := hrel
    have HALL := Lib.hid hall
    have HBW := Lib.hid hbw
    have hwz := hbw.size
    by_cases hlt : i < ts.length
    · obtain ⟨b, o, rfl, hbB, _, k0, k1, k2⟩ := HI.out i hlt
      have hbw' : b < w.heap.size := by omega
      rw [← hbw.cell (p := ⟨b, o + i * 3, none⟩) hbw'] at k0
      rw [← hbw.cell (p := ⟨b, o + i * 3 + 1, none⟩) hbw'] at k1
      rw [← hbw.cell (p := ⟨b, o + i * 3 + 2, none⟩) hbw'] at k2
      have hmem := List.getElem_mem hlt
      have hp := HPARTS.out _ hmem
      have hcon := rsoundT_any ts[i].t (HFIT.out _ hmem) ts[i].v1 ts[i].v2 wr ((hp.1.rd.below hbw hbz).mono (by omega)) ((hp.2.rd.below hbw hbz).mono (by omega))
      have hyes : soundT ts[i].t → ∀ x ∈ ts.take (i + 1), soundT x.t := fun h x hx => by
        rw [List.take_add_one, List.getElem?_eq_getElem hlt, List.mem_append] at hx
        rcases hx with hx | hx
        · exact HALL.out x hx
        · simp only [Option.toList_some, List.mem_singleton] at hx; rw [hx]; exact h
      have hno : ¬ soundT ts[i].t → E = 2 := fun h => by rw [HE.out, if_pos (.inr ⟨_, List.mem_map.2 ⟨_, hmem, rfl⟩, h⟩)]
      generalize ts[i] = x at k0 k1 k2 hcon hyes hno
      obtain ⟨t, v1, v2⟩ := x
      unfold tval at hcon
      simp only at k0 k1 k2 hcon hyes hno
      have HCON := Lib.hid hcon
      have HYES := Lib.hid hyes
      have HNO := Lib.hid hno
      have h0 : (0 : Int) ≤ (i : Int) := by omega
      have h1 : (i : Int) < (ts.length : Int) := by omega
      have h2 : IntKind.i64.wrap ((i : Int) + 1) = ((i + 1 : Nat) : Int) := by rw [IntKind.wrap_i64]; omega
      clear hcon hyes hno hp hmem hall
      by_cases hs : soundT t
      · have hsb := decide_eq_true hs
        go_wp2_with (go_at_call 20; refine HCON.out.mono ?_; rw [hsb]; rintro e w2 ⟨rfl, hb2'⟩)
        go_roundw
        case rel => exact ⟨i + 1, by omega, rfl, HYES.out hs, HBW.out.trans (hb2'.mono HBW.out.size)⟩
        case measure => simp [intOf]; omega
      · have hsb := decide_eq_false hs
        have he := HNO.out hs
        obtain ⟨hq1, hq2⟩ := HBAD.out 2 (by omega) he
        have HQ := Lib.hid (And.intro he (And.intro hq1 hq2))
        clear he hq1 hq2
        go_wp2_with (go_at_call 20; refine HCON.out.mono ?_; rw [hsb]; rintro e w2 ⟨rfl, hb2'⟩)
        have hfin := HSTAY.out _ (HBW.out.trans (hb2'.mono HBW.out.size))
        refine bodyPost_ret (v := .tuple #[.slice none 0 0, .int .i64 2]) (by simp [results, Tryz.results8, go_sem]) rfl ⟨none, 0, by rw [HQ.out.1, HQ.out.2.1]; rfl, by rw [HQ.out.2.1]; exact Own.nil _ _, ov, by rw [HQ.out.2.2]; exact hfin⟩
    · obtain rfl : i = ts.length := by omega
      rw [List.take_length] at hall
      have he : E = 0 := by
        rw [HE.out, if_neg]
        rintro (h1 | ⟨t, ht, hns⟩)
        · exact hlen4 h1
        · obtain ⟨x, hx, rfl⟩ := List.mem_map.1 ht
          exact hns (hall x hx)
      have ho := HOO.out
      have hnn := HN.out
      rw [if_pos he] at ho hnn
      have HSND := Lib.hid hall
      have HEE := Lib.hid he
      have HOE := Lib.hid ho
      have HNE := Lib.hid hnn
      have hrm : RmAt wr base r ov n m := H.out.new hbw
      have HRM := Lib.hid hrm
      clear hall he ho hnn HALL HE HOO HN HBAD HSTAY c1 c2 hb1 hb2 hrm
      go_wp2_with fail
      have HOST := Lib.hid (show OwnI (wr.alloc (.cells #[] 3)) w.heap.size (.slice (some ⟨wr.heap.size, 0, none⟩) 0 0) [] from Own.empty wr _ hwz)
      have HRS := Lib.hid (show RmWent w (wr.alloc (.cells #[] 3)) base r ov n m ov from ⟨HRM.out.new ((Below.refl _ wr).alloc (Nat.le_refl _) _), Mv.of_new (hbw.alloc hwz _) _, fun _ h => .inl h⟩)
      clear hbw HBW HRM
      go_loopw [9, 10] (fun ov_ iv wr => ∃ (i : Nat) (A' : Option Addr) (c' : Nat) (ovi : Option Nat), i ≤ ts.length ∧ iv = .int .i64 (i : Int) ∧ ov_ = .slice A' i c' ∧ OwnI wr w.heap.size (.slice A' i c') (judgeL m version ((ts.map (·.t)).take i)) ∧ RmWent w wr base r ov (n + 24 * i) (judgeM m version ((ts.map (·.t)).take i)) ovi) (fun _ iv _ => ts.length - (intOf iv).toNat)
      case atStart => exact ⟨0, _, _, ov, Nat.zero_le _, rfl, rfl, HOST.out, HRS.out⟩
      case round =>
        obtain ⟨i, A', c', ovi, hil, rfl, rfl, ho, hrm⟩ := hrel
        have HO := Lib.hid ho
        have HRM := Lib.hid hrm
        have hwz2 := hrm.moved.size
        have hbb : Below base w wr := hrm.below H.out
        have HBB := Lib.hid hbb
        clear HOST HRS ho
        by_cases hlt : i < ts.length
        · obtain ⟨b, o, rfl, hbB, _, k0, k1, k2⟩ := HI.out i hlt
          rw [← hbb.cell (p := ⟨b, o + i * 3, none⟩) hbB] at k0
          rw [← hbb.cell (p := ⟨b, o + i * 3 + 1, none⟩) hbB] at k1
          rw [← hbb.cell (p := ⟨b, o + i * 3 + 2, none⟩) hbB] at k2
          have hmem := List.getElem_mem hlt
          have hp := HPARTS.out _ hmem
          have hft := HFIT.out _ hmem
          have hst := HSND.out _ hmem
          have htk := take_map (fun x : TxV => x.t) ts i hlt
          have hsn := judge_snoc ((ts.map (·.t)).take i) m version ts[i].t
          rw [← htk] at hsn
          obtain ⟨hok', hmost', hfloor'⟩ := Mk.Ok.judgeM ((ts.map (·.t)).take i) H.out.ok (v := version) (by omega) hv
          obtain ⟨M', hM'⟩ : ∃ M', judgeM m version ((ts.map (·.t)).take i) = M' := ⟨_, rfl⟩
          obtain ⟨J', hJ'⟩ : ∃ J', judgeL m version ((ts.map (·.t)).take i) = J' := ⟨_, rfl⟩
          have hJl : J'.length = i := by rw [← hJ', judgeL_len, List.length_take, List.length_map]; omega
          rw [hM', hJ'] at hsn
          rw [hM'] at hok' hmost' hfloor' hrm HRM
          rw [hJ'] at HO
          obtain ⟨L, hL, hLf, hLn, hLp⟩ := hrm.now.open
          have hcv := rmverdict_any r L M' hLf hok' (by omega) ts[i].t hst ts[i].v1 ts[i].v2 wr hL.rd ((hp.1.rd.below hbb (Nat.le_refl _)).mono (by have := hrm.now.low.2; omega))
          have hcs := fun W (hW : Below base w W) (hz : base ≤ W.heap.size) => rspans_any ts[i].t.chgs (chgs_small hft) ts[i].v2 W ((hp.2.rd.below hW (Nat.le_refl _)).mono hz) (by have := hst.2.2.2.1; omega)
          have hcl : ts[i].t.chgs.length ≤ 24 := hst.2.2.2.1
          generalize ts[i] = x at k0 k1 k2 hcv hcs hsn hcl
          obtain ⟨t, v1, v2⟩ := x
          unfold tval at hcv
          simp only at k0 k1 k2 hcv hcs hsn hcl
          obtain ⟨vd, hvd⟩ : ∃ vd, verd M' t = vd := ⟨_, rfl⟩
          rw [hvd] at hcv hsn
          have HVD := Lib.hid hvd
          have HCV := Lib.hid hcv
          have HCS := Lib.hid hcs
          have HSN := Lib.hid hsn
          have HL := Lib.hid hL
          have HLF := Lib.hid hLf
          have HLN := Lib.hid hLn
          have HLP := Lib.hid hLp
          have HOK' := Lib.hid hok'
          have HJL := Lib.hid hJl
          have HMO := Lib.hid hmost'
          have HFL := Lib.hid hfloor'
          have hbw0 : b < wr.heap.size := by have := hrm.now.low.2; omega
          have HK2 := Lib.hid (fun W (hW : Below base w W) => (hW.cell (p := ⟨b, o + i * 3 + 2, none⟩) hbB).trans ((hbb.cell (p := ⟨b, o + i * 3 + 2, none⟩) hbB).symm.trans k2))
          have h0 : (0 : Int) ≤ (i : Int) := by omega
          have h1 : (i : Int) < (ts.length : Int) := by omega
          have h2 : IntKind.i64.wrap ((i : Int) + 1) = ((i + 1 : Nat) : Int) := by rw [IntKind.wrap_i64]; omega
          clear hcv hcs hsn hL hLf hLn hLp hok' hvd hp hft hst htk hM' hJ' hmem hJl hmost' hfloor' hrm hbb
          go_wp2_with fail
          refine HCV.out.mono ?_
          rintro e w2 ⟨rfl, hb2'⟩
          have HL2 := Lib.hid (HL.out.new (hb2'.alloc hb2'.size (.cells #[.int .i64 vd] 3)))
          have HO2 := Lib.hid ((HO.out.below hb2' (Nat.le_refl _)).alloc (.cells #[.int .i64 vd] 3))
          have HRD := Lib.hid (RdI.one w2 vd)
          have HZ2 := Lib.hid (show w.heap.size ≤ (w2.alloc (.cells #[.int .i64 vd] 3)).heap.size by have := hb2'.size; simp; omega)
          have HM2 := Lib.hid (hb2'.alloc hb2'.size (.cells #[.int .i64 vd] 3))
          clear hb2' k0 k1 k2
          have hJi := HJL.out
          go_wp2_with (at_builtin; refine wpList_addIm rfl _ _ rfl w.heap.size (.slice A' i c') J' rfl HO2.out (w2.heap.size + 1) (.slice (some ⟨w2.heap.size, 0, none⟩) 1 1) [vd] rfl HRD.out (by rw [HJL.out]; simp only [List.length_cons, List.length_nil]; omega) HZ2.out ?_)
          intro A3 c3 w3 ho3 hg3
          have hL3 := HL2.out.grown HO2.out (by decide) (by decide) hg3.out
          have hbl3 : Below base wr w3 := (HM2.out.mono (by have := HRM.out.now.low.2; omega)).grown hg3.out (by have := HRM.out.now.low.2; have := HM2.out.size; omega) (fun j hj => Nat.le_trans hbz (Own.low HO2.out hj).1)
          have hb3' : Below base w w3 := HBB.out.trans hbl3
          have hm3 : Mv (fun i => w.heap.size ≤ i) wr w3 := (Mv.of_new HM2.out (fun i => w.heap.size ≤ i)).trans (Mv.of_grown hg3.out) (fun i _ e => (Own.low HO2.out e.symm).1)
          have kk2 := HK2.out w3 hb3'
          have HCS3 := Lib.hid (HCS.out w3 hb3' hL3.low.2)
          have HL3 := Lib.hid hL3
          have HO3 := Lib.hid ho3.out
          have HM3 := Lib.hid hm3
          have hz3 := hm3.size
          clear hL3 hbl3 hb3' hm3 hg3 ho3 HL2 HO2 HRD HZ2 HM2 HCS HK2
          go_wp2_with fail
          refine HCS3.out.mono ?_
          rintro e w5 ⟨v5, R, rfl, ho5, hb5, hf5, hl5⟩
          have hRl := fits_len hf5
          rw [List.length_map] at hRl
          have hf5' : Fits R (keysOf t) := hf5
          obtain ⟨hwf, hwm⟩ := wrote_f (v := version) HLF.out hf5'
          have HL5 := Lib.hid (HL3.out.new hb5)
          have HO5 := Lib.hid (HO3.out.below hb5 (Nat.le_refl _))
          have HM5 := Lib.hid (HM3.out.trans (Mv.of_new hb5 (fun i => w.heap.size ≤ i)) (fun _ _ h => h))
          have HS5 := Lib.hid (show Own cellsS 2 29 w5 w3.heap.size v5 R from ho5)
          have HWF5 := Lib.hid hwf
          have HWM5 := Lib.hid hwm
          have hz5 := hb5.size
          clear hf5 hf5' hl5 ho5 hb5 hwf hwm kk2 HCS3 HL3 HO3 HM3
          -- what stands behind this round
          have hnext : ∀ (w9 : World) (M2 : Mk) (X : List Wr) (ov9 : Option Nat), judgeM m version ((ts.map (·.t)).take (i + 1)) = M2 → ver X = M2.f → X.length ≤ n + 24 * (i + 1) → (∀ x ∈ X, 1 ≤ x.v) → M2.Ok → RmLW w5 w9 base r ovi M2.floor M2.most X ov9 → RmWent w w9 base r ov (n + 24 * (i + 1)) (judgeM m version ((ts.map (·.t)).take (i + 1))) ov9 := by
            intro w9 M2 X ov9 e1 e2 e3 e4 e5 e6
            rw [e1]
            have hr0 : RmLW w wr base r ov M'.floor M'.most L ovi := ⟨HL.out, HRM.out.moved, HRM.out.new⟩
            have hr1 := hr0.after HM5.out HL5.out (fun i hi e => by omega)
            have hr2 := hr1.trans e6 hrz
            exact ⟨hr2.now.close e2 e3 e4 e5, hr2.moved, hr2.new⟩
          have HNX := Lib.hid hnext
          clear hnext
          rcases Own.form HS5.out with ⟨rfl, hR0⟩ | ⟨g5, c5, rfl, hg5, hgs5, hc5⟩
          · subst hR0
            have hsame : judgeM m version ((ts.map (·.t)).take (i + 1)) = judge1 M' version t := HSN.out.2
            have hfin : RmWent w w5 base r ov (n + 24 * (i + 1)) (judgeM m version ((ts.map (·.t)).take (i + 1))) ovi := by
              by_cases hv1 : vd = 1
              · have hj : judge1 M' version t = wrote M' version t := by unfold judge1; rw [if_pos (HVD.out.trans hv1)]
                refine HNX.out w5 (wrote M' version t) L ovi (by rw [hsame, hj]) ?_ (by have := HLN.out; omega) HLP.out (HOK'.out.wrote t HMO.out hv) ?_
                · rw [HWF5.out]; simp
                · have hm0 : (wrote M' version t).most = M'.most := by rw [HWM5.out, if_pos rfl]
                  rw [hm0]
                  exact RmLW.refl HL5.out
              · have hj : judge1 M' version t = M' := by unfold judge1; rw [if_neg (fun e => hv1 (HVD.out.symm.trans e))]
                exact HNX.out w5 M' L ovi (by rw [hsame, hj]) HLF.out (by have := HLN.out; omega) HLP.out HOK'.out (RmLW.refl HL5.out)
            have HFIN := Lib.hid hfin
            clear hfin hsame
            go_wp2_with fail
            refine wp_loop_rounds 1 ?_
            rw [rounds_succ]
            go_wp2_with fail
            go_roundw
            case rel => exact ⟨i + 1, A3, c3, ovi, by omega, rfl, rfl, by rw [HSN.out.1]; exact HO5.out, HFIN.out⟩
            case measure => simp [intOf]; omega
          · have hsame : judgeM m version ((ts.map (·.t)).take (i + 1)) = judge1 M' version t := HSN.out.2
            by_cases hv1 : vd = 1
            · have hj : judge1 M' version t = wrote M' version t := by unfold judge1; rw [if_pos (HVD.out.trans hv1)]
              have hend : ∀ w9 ov9, RmLW w5 w9 base r ovi M'.floor (if R.length = 0 then M'.most else version) (L ++ R.map fun s => ⟨s, version⟩) ov9 → RmWent w w9 base r ov (n + 24 * (i + 1)) (judgeM m version ((ts.map (·.t)).take (i + 1))) ov9 := fun w9 ov9 e6 => by
                refine HNX.out w9 (wrote M' version t) _ ov9 (by rw [hsame, hj]) HWF5.out.symm (by have := HLN.out; rw [List.length_append, List.length_map]; omega) (fun x hx => ?_) (HOK'.out.wrote t HMO.out hv) ?_
                · rcases List.mem_append.1 hx with hx | hx
                  · exact HLP.out x hx
                  · obtain ⟨s, _, rfl⟩ := List.mem_map.1 hx
                    have := H.out.ok.low
                    simp only
                    omega
                · rw [HWM5.out]
                  by_cases hR0 : R = []
                  · rw [if_pos hR0]
                    rw [if_pos (by rw [hR0]; rfl)] at e6
                    exact e6
                  · rw [if_neg hR0]
                    rw [if_neg (fun e => hR0 (List.eq_nil_of_length_eq_zero e))] at e6
                    exact e6
              have HEND := Lib.hid hend
              clear hend hsame hj HNX
              have hvb : (vd == 1) = true := by rw [hv1]; rfl
              go_wp2_with fail
              go_loopw [13] (fun kv wr => ∃ (k : Nat) (ovk : Option Nat), k ≤ R.length ∧ kv = .int .i64 (k : Int) ∧ RmLW w5 wr base r ovi M'.floor (if k = 0 then M'.most else version) (L ++ (R.take k).map fun s => ⟨s, version⟩) ovk) (fun kv _ => R.length - (intOf kv).toNat)
              case atStart => exact ⟨0, ovi, Nat.zero_le _, rfl, by simpa using RmLW.refl HL5.out⟩
              case round =>
                obtain ⟨k, ovk, hkl, rfl, hrl⟩ := hrel
                have hO9 := HL5.out.keeps HO5.out (by decide) (by decide) hrl.moved
                have hS9 := HL5.out.keeps HS5.out (by decide) (by decide) hrl.moved
                have HRLW := Lib.hid hrl
                have HO9 := Lib.hid hO9
                have HS9 := Lib.hid hS9
                have hzr := hrl.now.low.2
                clear hrl hO9 hS9
                by_cases hkr : k < R.length
                · obtain ⟨_, _, e, _, hq⟩ := Own.rd cellsS_len HS9.out
                  injection e with e1 e2 e3
                  subst e1
                  obtain ⟨b9, o9, e9, _, hq2⟩ := hq k hkr
                  injection e9 with e9
                  injection e9 with e10 e11
                  subst e10 e11
                  have g0 := hq2 0 _ rfl
                  have g1 := hq2 1 _ rfl
                  clear hq hq2 e2 e3
                  have hnx : (R.take (k + 1)).map (fun s => (⟨s, version⟩ : Wr)) = (R.take k).map (fun s => ⟨s, version⟩) ++ [⟨R[k], version⟩] := by
                    rw [List.take_add_one, List.getElem?_eq_getElem hkr, Option.toList_some, List.map_append]
                    rfl
                  have hXl : (L ++ (R.take k).map fun s => (⟨s, version⟩ : Wr)).length ≤ 90000 := by rw [List.length_append, List.length_map, List.length_take]; have := HLN.out; omega
                  have hXn : L ++ (R.take (k + 1)).map (fun s => (⟨s, version⟩ : Wr)) = (L ++ (R.take k).map (fun s => ⟨s, version⟩)) ++ [⟨R[k], version⟩] := by rw [hnx, List.append_assoc]
                  obtain ⟨X, hX⟩ : ∃ X, L ++ (R.take k).map (fun s => (⟨s, version⟩ : Wr)) = X := ⟨_, rfl⟩
                  obtain ⟨mo, hmo⟩ : ∃ mo : Int, (if k = 0 then M'.most else version) = mo := ⟨_, rfl⟩
                  rw [hX] at hXl hXn HRLW
                  rw [hmo] at HRLW
                  generalize R[k] = z at g0 g1 hXn
                  obtain ⟨sf, st⟩ := z
                  simp only [Nat.add_zero, Nat.zero_add] at g0 g1
                  have hnext : ∀ (w9 : World) (ov9 : Option Nat), RmLW wr w9 base r ovk M'.floor version (X ++ [⟨(sf, st), version⟩]) ov9 → RmLW w5 w9 base r ovi M'.floor (if k + 1 = 0 then M'.most else version) (L ++ (R.take (k + 1)).map fun s => ⟨s, version⟩) ov9 := fun w9 ov9 h9 => by
                    rw [hXn, if_neg (by omega)]
                    exact HRLW.out.trans h9 (by have := HL5.out.size; omega)
                  have HNEXT := Lib.hid hnext
                  have HXL := Lib.hid hXl
                  obtain ⟨A8, c8, hw8, ho8, hv8⟩ := HRLW.out.now.blk
                  obtain ⟨wd, hwd⟩ : ∃ wd, wr.drew = wd := ⟨_, rfl⟩
                  have hzd : wd.heap.size = wr.heap.size := by rw [← hwd]; rfl
                  have hRd : RmL wd base r ovk M'.floor mo X := by rw [← hwd]; exact ⟨⟨A8, c8, hw8.drew, ho8.drew, hv8⟩, HRLW.out.now.low⟩
                  have hWd : Whole wd r 55 [.slice A8 X.length c8, .int .i64 M'.floor, .int .i64 mo] := by rw [← hwd]; exact hw8.drew
                  obtain ⟨wf, hwf⟩ : ∃ wf, wd.alloc (.cells #[.string sf, .string st, .int .i64 version] 62) = wf := ⟨_, rfl⟩
                  have hbf : Below wd.heap.size wd wf := by rw [← hwf]; exact (Below.refl _ wd).alloc (Nat.le_refl _) _
                  have hof : OwnW wf base (.slice A8 X.length c8) X := by rw [← hwf, ← hwd]; exact ho8.drew.alloc _
                  have hone : RdW wf (wd.heap.size + 1) (.slice (some ⟨wd.heap.size, 0, none⟩) 1 1) [⟨(sf, st), version⟩] := by rw [← hwf]; exact RdW.one wd ⟨(sf, st), version⟩
                  have hgl : g5 < wd.heap.size := by rw [hzd]; exact (Own.low HS9.out (by rfl)).2
                  have hgr : g5 ≠ r := fun e => Own.apart HS9.out hw8 (by decide) (by rw [← e]; rfl)
                  have hgo : ovk ≠ some g5 := fun e => Own.apart2 HS9.out ho8 (by decide) (g := g5) (by rfl) (hv8.trans e)
                  have hsd : wd.cell? ⟨g5, k * 2, none⟩ = some (.string sf) ∧ wd.cell? ⟨g5, k * 2 + 1, none⟩ = some (.string st) := by rw [← hwd]; exact ⟨g0, g1⟩
                  have hsf : wf.cell? ⟨g5, k * 2, none⟩ = some (.string sf) ∧ wf.cell? ⟨g5, k * 2 + 1, none⟩ = some (.string st) := ⟨(hbf.cell (p := ⟨g5, _, none⟩) hgl).trans hsd.1, (hbf.cell (p := ⟨g5, _, none⟩) hgl).trans hsd.2⟩
                  have hgf : g5 < wf.heap.size := Nat.lt_of_lt_of_le hgl hbf.size
                  have hsk : ∀ w4, Mv (fun i => some i = ovk) wf w4 → w4.cell? ⟨g5, k * 2, none⟩ = some (.string sf) ∧ w4.cell? ⟨g5, k * 2 + 1, none⟩ = some (.string st) := fun w4 hm => by
                    have hb4 := hm.block g5 hgf (fun e => hgo e.symm)
                    exact ⟨(World.cell?_of_block (w := wf) hb4).trans hsf.1, (World.cell?_of_block (w := wf) hb4).trans hsf.2⟩
                  have hsl : ∀ w4 (u : Value), Mv (fun i => some i = ovk) wf w4 → (w4.setCell ⟨r, 0, none⟩ u).cell? ⟨g5, k * 2, none⟩ = some (.string sf) ∧ (w4.setCell ⟨r, 0, none⟩ u).cell? ⟨g5, k * 2 + 1, none⟩ = some (.string st) := fun w4 u hm => by
                    have hb4 : (w4.setCell ⟨r, 0, none⟩ u).heap[g5]? = w4.heap[g5]? := Below.heap_setCell w4 ⟨r, 0, none⟩ u g5 hgr
                    exact ⟨(World.cell?_of_block (w := w4) hb4).trans (hsk w4 hm).1, (World.cell?_of_block (w := w4) hb4).trans (hsk w4 hm).2⟩
                  have HSD := Lib.hid hsd
                  have HSF := Lib.hid hsf
                  have HSK := Lib.hid hsk
                  have HSL := Lib.hid hsl
                  have HWD := Lib.hid hWd
                  have HWF := Lib.hid (show Whole wf r 55 [.slice A8 X.length c8, .int .i64 M'.floor, .int .i64 mo] from hWd.below hbf hWd.size)
                  have HOF := Lib.hid hof
                  have HONE := Lib.hid hone
                  have HBF := Lib.hid hbf
                  have HEF := Lib.hid hwf
                  have HOV := Lib.hid hv8
                  have HAP := Lib.hid (show ovk ≠ some r from fun e => Own.apart ho8 hw8 (by decide) (by rw [hv8, e]))
                  have HZF := Lib.hid (show base ≤ wf.heap.size from Nat.le_trans hRd.low.2 hbf.size)
                  have HRL := Lib.hid hRd
                  have HNXD := Lib.hid (show ∀ (w9 : World) (ov9 : Option Nat), RmLW wd w9 base r ovk M'.floor version (X ++ [⟨(sf, st), version⟩]) ov9 → RmLW wr w9 base r ovk M'.floor version (X ++ [⟨(sf, st), version⟩]) ov9 from fun w9 ov9 h9 => ⟨h9.now, (show Mv (RmD r ovk) wr wd by rw [← hwd]; exact (Mv.refl _ wr).drew).trans h9.moved (fun _ _ h => h), fun g hg => by have := h9.new g hg; rwa [hzd] at this⟩)
                  have HNEXT2 := Lib.hid (fun (w9 : World) (ov9 : Option Nat) (h9 : RmLW wd w9 base r ovk M'.floor version (X ++ [⟨(sf, st), version⟩]) ov9) => HNEXT.out w9 ov9 (HNXD.out w9 ov9 h9))
                  have HWW := Lib.hid hwd
                  clear hsd hsf hsk hsl hWd hof hone hbf hv8 hRd HNEXT HNXD hnext hnx hXl hXn hX hmo ho8 hw8 hgr hgo hgf hgl g0 g1 hzd
                  have HNEXT := HNEXT2
                  clear HNEXT2
                  have j0 : (0 : Int) ≤ (k : Int) := by omega
                  have j1 : (k : Int) < (R.length : Int) := by omega
                  have j2 : IntKind.i64.wrap ((k : Int) + 1) = ((k + 1 : Nat) : Int) := by rw [IntKind.wrap_i64]; omega
                  go_wp2_with fail
                  refine wp_region_planT (fun W => W.cell? ⟨g5, k * 2, none⟩ = some (.string sf) ∧ W.cell? ⟨g5, k * 2 + 1, none⟩ = some (.string st)) (.take 0 (.take 1 (.take 2 (.take 3 (.take 5 (.take 6 (.take 7 (.take 8 (.take 9 (.take 10 (.fork 4 (.step 11 (.step 12 (.take 13 (.take 14 (.step 15 .done))))) 11 (.step 4 (.step 12 (.take 13 (.take 14 (.step 15 .done)))))))))))))))) (by kernel_rfl) (by kernel_rfl) (fun _ _ d _ _ h => by cases d <;> exact h) (by rw [HWW.out]; exact HSD.out) ?_
                  rw [HWW.out]
                  clear hwd hwf
                  (refine PlanT.takeI (v := ?_) rfl rfl ?_ ?_; rotate_left; (focus (intro W hW; obtain ⟨hs0, hs1⟩ := hW; go_simp; (try with_reducible rfl); done)); (try simp only [Act.put, List.setIfInBounds_toArray, List.set_cons_zero, List.set_cons_succ]))
                  (refine PlanT.takeI (v := ?_) rfl rfl ?_ ?_; rotate_left; (focus (intro W hW; obtain ⟨hs0, hs1⟩ := hW; go_simp; (try with_reducible rfl); done)); (try simp only [Act.put, List.setIfInBounds_toArray, List.set_cons_zero, List.set_cons_succ]))
                  (refine PlanT.takeI (v := ?_) rfl rfl ?_ ?_; rotate_left; (focus (intro W hW; obtain ⟨hs0, hs1⟩ := hW; go_simp; (try with_reducible rfl); done)); (try simp only [Act.put, List.setIfInBounds_toArray, List.set_cons_zero, List.set_cons_succ]))
                  (refine PlanT.takeI (v := ?_) rfl rfl ?_ ?_; rotate_left; (focus (intro W hW; obtain ⟨hs0, hs1⟩ := hW; go_simp; (try with_reducible rfl); done)); (try simp only [Act.put, List.setIfInBounds_toArray, List.set_cons_zero, List.set_cons_succ]))
                  (refine PlanT.takeI (v := ?_) rfl rfl ?_ ?_; rotate_left; (focus (intro W hW; obtain ⟨hs0, hs1⟩ := hW; go_simp; (try with_reducible rfl); done)); (try simp only [Act.put, List.setIfInBounds_toArray, List.set_cons_zero, List.set_cons_succ]))
                  (refine PlanT.takeI (v := ?_) rfl rfl ?_ ?_; rotate_left; (focus (intro W hW; obtain ⟨hs0, hs1⟩ := hW; go_simp; (try with_reducible rfl); done)); (try simp only [Act.put, List.setIfInBounds_toArray, List.set_cons_zero, List.set_cons_succ]))
                  (refine PlanT.takeI (v := ?_) rfl rfl ?_ ?_; rotate_left; (focus (intro W hW; obtain ⟨hs0, hs1⟩ := hW; go_simp; (try with_reducible rfl); done)); (try simp only [Act.put, List.setIfInBounds_toArray, List.set_cons_zero, List.set_cons_succ]))
                  (refine PlanT.takeI (v := ?_) rfl rfl ?_ ?_; rotate_left; (focus (intro W hW; obtain ⟨hs0, hs1⟩ := hW; go_simp; (try with_reducible rfl); done)); (try simp only [Act.put, List.setIfInBounds_toArray, List.set_cons_zero, List.set_cons_succ]))
                  (refine PlanT.takeI (v := ?_) rfl rfl ?_ ?_; rotate_left; (focus (intro W hW; obtain ⟨hs0, hs1⟩ := hW; go_simp; (try with_reducible rfl); done)); (try simp only [Act.put, List.setIfInBounds_toArray, List.set_cons_zero, List.set_cons_succ]))
                  (refine PlanT.takeI (v := ?_) rfl rfl ?_ ?_; rotate_left; (focus (intro W hW; obtain ⟨hs0, hs1⟩ := hW; go_simp; (try with_reducible rfl); done)); (try simp only [Act.put, List.setIfInBounds_toArray, List.set_cons_zero, List.set_cons_succ]))
                  refine ⟨wpOp_stepT rfl rfl (fun Kk hKk => ?_), wpOp_stepT rfl rfl (fun Kk hKk => ?_)⟩
                  · have q0 := HWD.out.cell 0 _ rfl
                    go_simp
                    refine hKk.out _ _ HSD.out ?_
                    clear hKk Kk q0
                    (try simp only [Act.put, List.setIfInBounds_toArray, List.set_cons_zero, List.set_cons_succ])
                    refine wpOp_stepT rfl rfl (fun Kk hKk => ?_)
                    go_simp
                    rw [HEF.out]
                    refine hKk.out _ _ HSF.out ?_
                    clear hKk Kk
                    (try simp only [Act.put, List.setIfInBounds_toArray, List.set_cons_zero, List.set_cons_succ])
                    refine wpOp_stepT rfl rfl (fun Kk hKk => ?_)
                    refine wp_addWr _ _ rfl base (.slice A8 X.length c8) X rfl HOF.out (wd.heap.size + 1) (.slice (some ⟨wd.heap.size, 0, none⟩) 1 1) [⟨(sf, st), version⟩] rfl HONE.out (by have := HXL.out; simp only [List.length_cons, List.length_nil]; omega) HZF.out (fun A4 c4 w4 ho4 hg4 hn4 => ?_)
                    have hlen4 : X.length + 1 = (X ++ [(⟨(sf, st), version⟩ : Wr)]).length := by simp
                    rw [← hlen4] at ho4 hn4 ⊢
                    have HLEN4 := Lib.hid hlen4; clear hlen4
                    rw [HOV.out] at hg4 hn4
                    have hm4 := Mv.of_grown hg4
                    refine hKk.out _ _ (HSK.out w4 hm4) ?_
                    clear hKk Kk
                    (try simp only [Act.put, List.setIfInBounds_toArray, List.set_cons_zero, List.set_cons_succ])
                    (refine PlanT.takeI (v := ?_) rfl rfl ?_ ?_; rotate_left; (focus (intro W hW; go_simp; (try with_reducible rfl); done)); (try simp only [Act.put, List.setIfInBounds_toArray, List.set_cons_zero, List.set_cons_succ]))
                    (refine PlanT.takeI (v := ?_) rfl rfl ?_ ?_; rotate_left; (focus (intro W hW; go_simp; (try with_reducible rfl); done)); (try simp only [Act.put, List.setIfInBounds_toArray, List.set_cons_zero, List.set_cons_succ]))
                    have hr4 : Whole w4 r 55 [.slice A8 X.length c8, .int .i64 M'.floor, .int .i64 mo] := hm4.whole HWF.out (fun e => HAP.out e.symm)
                    refine wpOp_stepT rfl rfl (fun Kk hKk => ?_)
                    have q0 := hr4.cell 0 _ rfl
                    have q0f := hr4.frozen 0
                    go_simp
                    refine hKk.out _ _ (HSL.out w4 _ hm4) ?_
                    clear hKk Kk q0 q0f
                    (try simp only [Act.put, List.setIfInBounds_toArray, List.set_cons_zero, List.set_cons_succ])
                    simp only [PlanT]
                    have q2 := (hr4.put 0 (.slice A4 (X.length + 1) c4)).cell 2 _ rfl
                    have q2f := (hr4.put 0 (.slice A4 (X.length + 1) c4)).frozen 2
                    have hpush := RmL.push (most' := version) HRL.out HBF.out hg4 HLEN4.out ho4 hn4
                    have HPUSH := Lib.hid hpush
                    clear hpush hr4 ho4 hn4 hm4 hg4
                    go_wp2_with fail
                    go_roundw
                    case rel => exact ⟨k + 1, _, by omega, rfl, HNEXT.out _ _ HPUSH.out⟩
                    case measure => simp [intOf]; omega
                  · go_simp
                    rw [HEF.out]
                    refine hKk.out _ _ HSF.out ?_
                    clear hKk Kk
                    (try simp only [Act.put, List.setIfInBounds_toArray, List.set_cons_zero, List.set_cons_succ])
                    refine wpOp_stepT rfl rfl (fun Kk hKk => ?_)
                    have q0 := HWF.out.cell 0 _ rfl
                    go_simp
                    refine hKk.out _ _ HSF.out ?_
                    clear hKk Kk q0
                    (try simp only [Act.put, List.setIfInBounds_toArray, List.set_cons_zero, List.set_cons_succ])
                    refine wpOp_stepT rfl rfl (fun Kk hKk => ?_)
                    refine wp_addWr _ _ rfl base (.slice A8 X.length c8) X rfl HOF.out (wd.heap.size + 1) (.slice (some ⟨wd.heap.size, 0, none⟩) 1 1) [⟨(sf, st), version⟩] rfl HONE.out (by have := HXL.out; simp only [List.length_cons, List.length_nil]; omega) HZF.out (fun A4 c4 w4 ho4 hg4 hn4 => ?_)
                    have hlen4 : X.length + 1 = (X ++ [(⟨(sf, st), version⟩ : Wr)]).length := by simp
                    rw [← hlen4] at ho4 hn4 ⊢
                    have HLEN4 := Lib.hid hlen4; clear hlen4
                    rw [HOV.out] at hg4 hn4
                    have hm4 := Mv.of_grown hg4
                    refine hKk.out _ _ (HSK.out w4 hm4) ?_
                    clear hKk Kk
                    (try simp only [Act.put, List.setIfInBounds_toArray, List.set_cons_zero, List.set_cons_succ])
                    (refine PlanT.takeI (v := ?_) rfl rfl ?_ ?_; rotate_left; (focus (intro W hW; go_simp; (try with_reducible rfl); done)); (try simp only [Act.put, List.setIfInBounds_toArray, List.set_cons_zero, List.set_cons_succ]))
                    (refine PlanT.takeI (v := ?_) rfl rfl ?_ ?_; rotate_left; (focus (intro W hW; go_simp; (try with_reducible rfl); done)); (try simp only [Act.put, List.setIfInBounds_toArray, List.set_cons_zero, List.set_cons_succ]))
                    have hr4 : Whole w4 r 55 [.slice A8 X.length c8, .int .i64 M'.floor, .int .i64 mo] := hm4.whole HWF.out (fun e => HAP.out e.symm)
                    refine wpOp_stepT rfl rfl (fun Kk hKk => ?_)
                    have q0 := hr4.cell 0 _ rfl
                    have q0f := hr4.frozen 0
                    go_simp
                    refine hKk.out _ _ (HSL.out w4 _ hm4) ?_
                    clear hKk Kk q0 q0f
                    (try simp only [Act.put, List.setIfInBounds_toArray, List.set_cons_zero, List.set_cons_succ])
                    simp only [PlanT]
                    have q2 := (hr4.put 0 (.slice A4 (X.length + 1) c4)).cell 2 _ rfl
                    have q2f := (hr4.put 0 (.slice A4 (X.length + 1) c4)).frozen 2
                    have hpush := RmL.push (most' := version) HRL.out HBF.out hg4 HLEN4.out ho4 hn4
                    have HPUSH := Lib.hid hpush
                    clear hpush hr4 ho4 hn4 hm4 hg4
                    go_wp2_with fail
                    go_roundw
                    case rel => exact ⟨k + 1, _, by omega, rfl, HNEXT.out _ _ HPUSH.out⟩
                    case measure => simp [intOf]; omega
                · obtain rfl : k = R.length := by omega
                  have hfin := HRLW.out
                  rw [List.take_length] at hfin
                  have HFIN := Lib.hid (HEND.out _ ovk hfin)
                  clear hfin
                  go_wp2_with fail
                  go_roundw
                  case rel => exact ⟨i + 1, A3, c3, ovk, by omega, rfl, rfl, by rw [HSN.out.1]; exact HO9.out, HFIN.out⟩
                  case measure => simp [intOf]; omega
            · have hj : judge1 M' version t = M' := by unfold judge1; rw [if_neg (fun e => hv1 (HVD.out.symm.trans e))]
              have hfin := HNX.out w5 M' L ovi (by rw [hsame, hj]) HLF.out (by have := HLN.out; omega) HLP.out HOK'.out (RmLW.refl HL5.out)
              have HFIN := Lib.hid hfin
              have hvb : (vd == 1) = false := by simpa using hv1
              clear hfin hsame hj HNX
              by_cases hR0 : 0 < R.length
              · have hRb : (0 : Int) < (R.length : Int) := by omega
                go_wp2_with fail
                refine wp_loop_rounds 1 ?_
                rw [rounds_succ]
                go_wp2_with fail
                go_roundw
                case rel => exact ⟨i + 1, A3, c3, ovi, by omega, rfl, rfl, by rw [HSN.out.1]; exact HO5.out, HFIN.out⟩
                case measure => simp [intOf]; omega
              · have hRb : ¬ (0 : Int) < (R.length : Int) := by omega
                go_wp2_with fail
                refine wp_loop_rounds 1 ?_
                rw [rounds_succ]
                go_wp2_with fail
                go_roundw
                case rel => exact ⟨i + 1, A3, c3, ovi, by omega, rfl, rfl, by rw [HSN.out.1]; exact HO5.out, HFIN.out⟩
                case measure => simp [intOf]; omega
        · obtain rfl : i = ts.length := by omega
          have hall : (ts.map (·.t)).take ts.length = ts.map (·.t) := by rw [← List.length_map (f := fun x : TxV => x.t)]; exact List.take_length
          rw [hall, ← HOE.out] at HO
          rw [hall, ← HNE.out] at HRM
          have hOl : O.length = ts.length := by rw [HOE.out, judgeL_len, List.length_map]
          have HOL := Lib.hid hOl
          have hfin : RmWent w wr base r ov (n + 96) N ovi := ⟨HRM.out.now.wide (by omega), HRM.out.moved, HRM.out.new⟩
          have HFIN := Lib.hid hfin
          clear hall hOl hfin hbb hrm
          go_wp2_with fail
          exact bodyPost_ret (v := .tuple #[.slice A' ts.length c', .int .i64 0]) (by simp [results, Tryz.results8, go_sem]) rfl ⟨A', c', by rw [HOL.out, HEE.out], by rw [HOL.out]; exact HO.out, ovi, HFIN.out⟩
end Go.Proofs.YtcmpbhcldaogiaaGreat
namespace Go.Proofs.YtcmpbhcldaogiaaGreat

/-- the pieces of the first i that were written -/
structure PiecesTo (L : List Wr) (floor : Int) (i : Nat) (X : List Wr) : Prop where
  ne : ∀ x ∈ X, x.s.1 < x.s.2 ∧ floor < x.v
  of : ∀ x ∈ X, ∃ j y, j < i ∧ L[j]? = some y ∧ y.v = x.v ∧ ∀ k, has x.s k → Left L j k
  all : ∀ j k y, j < i → L[j]? = some y → Left L j k → floor < y.v → ∃ x ∈ X, has x.s k
  apart : X.Pairwise fun x y => ∀ k, has x.s k → ¬ has y.s k
theorem PiecesTo.start (L : List Wr) (floor : Int) : PiecesTo L floor 0 [] := ⟨by simp, by simp, fun j _ _ h => by omega, .nil⟩
theorem left_one {L : List Wr} {j j' : Nat} {k : K} (h : Left L j k) (h' : Left L j' k) : j = j' := by
  obtain ⟨x, hx, hk, hn⟩ := h
  obtain ⟨x', hx', hk', hn'⟩ := h'
  have key : ∀ (a b : Nat) (y : Wr), a < b → L[b]? = some y → has y.s k → (∀ z ∈ L.drop (a + 1), ¬ has z.s k) → False := fun a b y hab hb hy hz => by
    refine hz y (List.mem_of_getElem? (i := b - (a + 1)) ?_) hy
    rw [List.getElem?_drop, show a + 1 + (b - (a + 1)) = b by omega]
    exact hb
  rcases Nat.lt_trichotomy j j' with hlt | hlt | hlt
  · exact (key j j' x' hlt hx' hk' hn).elim
  · exact hlt
  · exact (key j' j x hlt hx hk hn').elim
theorem PiecesTo.skip {L : List Wr} {floor : Int} {i : Nat} {X : List Wr} (h : PiecesTo L floor i X) (hi : i < L.length) (hv : L[i].v ≤ floor) : PiecesTo L floor (i + 1) X := by
  refine ⟨h.ne, fun x hx => ?_, fun j k y hj hy hl hf => ?_, h.apart⟩
  · obtain ⟨j, y, hj, r⟩ := h.of x hx
    exact ⟨j, y, by omega, r⟩
  · by_cases e : j = i
    · subst e
      rw [List.getElem?_eq_getElem hi] at hy
      injection hy with hy
      subst hy
      omega
    · exact h.all j k y (by omega) hy hl hf
theorem PiecesTo.add {L : List Wr} {floor : Int} {i : Nat} {X : List Wr} {R : List (K × K)} (h : PiecesTo L floor i X) (hi : i < L.length) (hv : floor < L[i].v) (hR : Fits R (fun k => Left L i k)) : PiecesTo L floor (i + 1) (X ++ R.map fun s => ⟨s, L[i].v⟩) := by
  refine ⟨fun x hx => ?_, fun x hx => ?_, fun j k y hj hy hl hf => ?_, ?_⟩
  · rcases List.mem_append.1 hx with hx | hx
    · exact h.ne x hx
    · obtain ⟨s, hs, rfl⟩ := List.mem_map.1 hx
      exact ⟨hR.1.ne s hs, hv⟩
  · rcases List.mem_append.1 hx with hx | hx
    · obtain ⟨j, y, hj, r⟩ := h.of x hx
      exact ⟨j, y, by omega, r⟩
    · obtain ⟨s, hs, rfl⟩ := List.mem_map.1 hx
      exact ⟨i, L[i], by omega, List.getElem?_eq_getElem hi, rfl, fun k hk => (hR.2 k).1 ⟨s, hs, hk⟩⟩
  · by_cases e : j = i
    · subst e
      obtain ⟨s, hs, hk⟩ := (hR.2 k).2 hl
      exact ⟨_, List.mem_append_right _ (List.mem_map.2 ⟨s, hs, rfl⟩), hk⟩
    · obtain ⟨x, hx, hk⟩ := h.all j k y (by omega) hy hl hf
      exact ⟨x, List.mem_append_left _ hx, hk⟩
  · refine List.pairwise_append.2 ⟨h.apart, ?_, fun x hx y hy k h1 h2 => ?_⟩
    · rw [List.pairwise_map]
      refine (normal_pair hR.1).imp ?_
      intro s t hst k h1 h2
      unfold has at h1 h2
      grind
    · obtain ⟨s, hs, rfl⟩ := List.mem_map.1 hy
      obtain ⟨j, z, hj, _, _, hl⟩ := h.of x hx
      have := left_one (hl k h1) ((hR.2 k).1 ⟨s, hs, h2⟩)
      omega
theorem PiecesTo.whole {L : List Wr} {floor : Int} {X : List Wr} (h : PiecesTo L floor L.length X) (h0 : 0 ≤ floor) : Pieces (ver L) floor X := by
  refine ⟨h.ne, fun k hk => ?_, fun x hx k hk => ?_, h.apart⟩
  · rcases ver_cases L k with ⟨e, _⟩ | ⟨j, y, hy, hl, e⟩
    · omega
    · exact h.all j k y (List.getElem?_eq_some_iff.1 hy).1 hy hl (by omega)
  · obtain ⟨j, y, hj, hy, hv, hl⟩ := h.of x hx
    rw [ver_left (hl k hk) hy, hv]

/-- how many are counted off when i of the outer loop are done, and k of the inner one -/
def gone (X : List Wr) (i k : Nat) : Nat := pairsOf (X.take i) X + (match X[i]? with | none => 0 | some x => ((X.take k).filter (touch x)).length)
theorem gone_zero (X : List Wr) : gone X 0 0 = 0 := by
  unfold gone pairsOf
  cases X[0]? <;> simp
theorem gone_step {X : List Wr} {i k : Nat} (hi : i < X.length) (hk : k < X.length) : gone X i (k + 1) = gone X i k + if touch X[i] X[k] then 1 else 0 := by
  unfold gone
  rw [List.getElem?_eq_getElem hi]
  simp only
  rw [List.take_add_one, List.getElem?_eq_getElem hk, Option.toList_some, List.filter_append, List.length_append]
  by_cases h : touch X[i] X[k] = true
  · rw [if_pos h, List.filter_cons_of_pos h]; simp; omega
  · rw [if_neg h, List.filter_cons_of_neg h]; simp
theorem gone_row {X : List Wr} {i : Nat} (hi : i < X.length) : gone X i X.length = gone X (i + 1) 0 := by
  unfold gone pairsOf
  rw [List.getElem?_eq_getElem hi]
  simp only [List.take_length, List.take_zero, List.filter_nil, List.length_nil]
  rw [List.take_add_one, List.getElem?_eq_getElem hi, Option.toList_some, List.map_append, List.sum_append]
  cases X[i + 1]? <;> simp
theorem gone_end (X : List Wr) : gone X X.length 0 = pairsOf X X := by
  unfold gone
  rw [List.take_length, List.getElem?_eq_none (Nat.le_refl _)]
  rfl
theorem gone_mono {X : List Wr} {i : Nat} (hi : i < X.length) : ∀ (k : Nat), k ≤ X.length → gone X i k ≤ gone X i X.length := by
  intro k hk
  obtain ⟨d, hd⟩ : ∃ d, X.length = k + d := ⟨X.length - k, by omega⟩
  induction d generalizing k with
  | zero => rw [hd]; exact Nat.le_refl _
  | succ d ih =>
    refine Nat.le_trans ?_ (ih (k + 1) (by omega) (by omega))
    rw [gone_step hi (by omega)]
    omega
theorem gone_le {X : List Wr} : ∀ (d i k : Nat), X.length = i + d → k ≤ X.length → gone X i k ≤ pairsOf X X
  | 0, i, k, hd, hk => by
    have : gone X i k = gone X X.length 0 := by
      have e : i = X.length := by omega
      subst e
      unfold gone
      rw [List.getElem?_eq_none (Nat.le_refl _)]
    rw [this, gone_end]
    exact Nat.le_refl _
  | d + 1, i, k, hd, hk => by
    refine Nat.le_trans (gone_mono (by omega) k hk) ?_
    rw [gone_row (by omega)]
    exact gone_le d (i + 1) 0 (by omega) (Nat.zero_le _)
end Go.Proofs.YtcmpbhcldaogiaaGreat
namespace Go.Proofs.YtcmpbhcldaogiaaGreat
open Go.RowKit
attribute [local go_sem] less_eq same_eq le_eq ge_eq gt_eq

set_option maxHeartbeats 16000000 in
set_option maxRecDepth 100000 in
theorem rmsize_any (r : Nat) (floor most : Int) (L : List Wr) (hl : L.length ≤ 90000) (h0f : 0 ≤ floor) (w : World) (h : RmRd w r floor most L) :
    Calls Tryz.prog 15 #[.pointer (some ⟨r, 0, none⟩)] w fun e w' => ∃ n : Nat, e = .returned (.int .i64 (n : Int)) ∧ SizeIs (ver L) floor n ∧ Below w.heap.size w w' := by
  have HR0 := Lib.hid h
  obtain ⟨A, cap, hw, hrd⟩ := h
  have hrs := hw.size
  obtain ⟨_, _, e, hcc, hi⟩ := hrd.at
  injection e with e1 e2 e3
  subst e1 e3
  have HW := Lib.hid hw
  have HI := Lib.hid hi
  clear hw hrd hi hcc e2
  go_enter Tryz.func15, Tryz.ntmps15
  go_wp2_with fail
  go_loopw [3, 4] (fun ov iv wr => ∃ (i : Nat) (A' : Option Addr) (c' : Nat) (X : List Wr), i ≤ L.length ∧ iv = .int .i64 (i : Int) ∧ ov = .slice A' X.length c' ∧ OwnW wr w.heap.size (.slice A' X.length c') X ∧ PiecesTo L floor i X ∧ X.length ≤ i * 200000 ∧ Below w.heap.size w wr) (fun _ iv _ => L.length - (intOf iv).toNat)
  case atStart => exact ⟨0, _, _, [], Nat.zero_le _, rfl, rfl, Own.empty w _ (Nat.le_refl _), PiecesTo.start _ _, by simp, (Below.refl _ w).alloc (Nat.le_refl _) _⟩
  case round =>
    obtain ⟨i, A', c', X, hil, rfl, rfl, ho, hpt, hxl, hbw⟩ := hrel
    have HO := Lib.hid ho
    have HPT := Lib.hid hpt
    have HBW := Lib.hid hbw
    have hz := hbw.size
    have hxl2 : X.length ≤ (i + 1) * 200000 := Nat.le_trans hxl (Nat.mul_le_mul_right _ (Nat.le_succ i))
    have HXL2 := Lib.hid hxl2
    clear hxl2
    have c0 := (HW.out.below hbw hrs).cell 0 _ rfl
    clear ho hpt
    by_cases hlt : i < L.length
    · obtain ⟨b, o, rfl, hbB, _, _, k2⟩ := HI.out i hlt
      have hleft := rmleft_any r floor most L i hlt hl wr (HR0.out.below hbw (Nat.le_refl _))
      obtain ⟨v, hv⟩ : ∃ v, L[i].v = v := ⟨_, rfl⟩
      rw [hv] at k2
      have hskip : v ≤ floor → PiecesTo L floor (i + 1) X := fun h => HPT.out.skip hlt (by rw [hv]; exact h)
      have hadd : ∀ R, floor < v → Fits R (fun k => Left L i k) → PiecesTo L floor (i + 1) (X ++ R.map fun s => ⟨s, v⟩) := fun R h1 h2 => by rw [← hv] at h1 ⊢; exact HPT.out.add hlt h1 h2
      have q0 : ∀ W, Below w.heap.size w W → W.cell? ⟨r, 0, none⟩ = some (.slice (some ⟨b, o, none⟩) L.length cap) := fun W hW => (HW.out.below hW hrs).cell 0 _ rfl
      have q1 : ∀ W, Below w.heap.size w W → W.cell? ⟨r, 1, none⟩ = some (.int .i64 floor) := fun W hW => (HW.out.below hW hrs).cell 1 _ rfl
      have q2 : ∀ W, Below w.heap.size w W → W.cell? ⟨b, o + i * 3 + 2, none⟩ = some (.int .i64 v) := fun W hW => (hW.cell (p := ⟨b, o + i * 3 + 2, none⟩) hbB).trans k2
      have Q0 := Lib.hid q0
      have Q1 := Lib.hid q1
      have Q2 := Lib.hid q2
      have HLEFT := Lib.hid hleft
      have HSKIP := Lib.hid hskip
      have HADD := Lib.hid hadd
      have h0 : (0 : Int) ≤ (i : Int) := by omega
      have h1 : (i : Int) < (L.length : Int) := by omega
      have h2 : IntKind.i64.wrap ((i : Int) + 1) = ((i + 1 : Nat) : Int) := by rw [IntKind.wrap_i64]; omega
      clear q0 q1 q2 hleft hskip hadd k2 hv
      go_wp2_with fail
      refine HLEFT.out.mono ?_
      rintro e w2 ⟨v2, R, rfl, ho2, hb2, hf2, hl2⟩
      have HS2 := Lib.hid (show Own cellsS 2 29 w2 wr.heap.size v2 R from ho2)
      have HF2 := Lib.hid hf2
      have HO2 := Lib.hid (HO.out.below hb2 (Nat.le_refl _))
      have hbw2 := hbw.trans (hb2.mono hz)
      have HBW2 := Lib.hid hbw2
      have hz2 := hb2.size
      clear ho2 hb2 hf2 hbw c0 HLEFT HO
      by_cases hfl : floor < v
      · have hflb := decide_eq_true hfl
        have hadd := HADD.out R hfl HF2.out
        have HADDR := Lib.hid hadd
        clear hadd HADD HSKIP
        rcases Own.form HS2.out with ⟨rfl, rfl⟩ | ⟨g5, c5, rfl, hg5, hgs5, hc5⟩
        · have hzz : decide ((0 : Int) < (((([] : List (K × K)).length : Nat)) : Int)) = false := by simp
          have hd0 : Below w.heap.size w w2.drew := hbw2.drew
          go_wp2_with fail
          refine wp_loop_rounds 1 ?_
          rw [rounds_succ]
          go_wp2_with fail
          refine wp_region_planB [(true, 0), (true, 1), (true, 2), (true, 3), (true, 4), (true, 5), (true, 6), (true, 7), (true, 8), (true, 9), (true, 10), (true, 11), (true, 12), (true, 13), (true, 14), (true, 15), (true, 16), (true, 17), (true, 18)] (by kernel_rfl) (by kernel_rfl) (fun _ _ d _ _ h => by cases d <;> exact h) ?_
          repeat (first | (refine PlanB.take (v := ?_) rfl rfl ?_ ?_; rotate_left; (focus (intro W hW; have k0 := Q0.out W (HBW2.out.trans (((Below.refl _ w2).drew.trans hW).mono HBW2.out.size)); have k1 := Q1.out W (HBW2.out.trans (((Below.refl _ w2).drew.trans hW).mono HBW2.out.size)); have k2 := Q2.out W (HBW2.out.trans (((Below.refl _ w2).drew.trans hW).mono HBW2.out.size)); go_simp; (try with_reducible rfl); done)); (try simp only [Act.put, List.setIfInBounds_toArray, List.set_cons_zero, List.set_cons_succ])) | (refine PlanB.skip rfl rfl ?_; (try simp only [Act.put, List.setIfInBounds_toArray, List.set_cons_zero, List.set_cons_succ])))
          simp only [PlanB]
          go_wp2_with fail
          go_roundw
          case rel => exact ⟨i + 1, A', c', X, by omega, rfl, rfl, HO2.out.drew, by have h9 := HADDR.out; rw [List.map_nil, List.append_nil] at h9; exact h9, HXL2.out, HBW2.out.drew⟩
          case measure => simp [intOf]; omega
        · go_wp2_with fail
          go_loopw [3, 6] (fun ov kv wr => ∃ (k : Nat) (A3 : Option Addr) (c3 : Nat), k ≤ R.length ∧ kv = .int .i64 (k : Int) ∧ ov = .slice A3 (X ++ (R.take k).map fun s => (⟨s, v⟩ : Wr)).length c3 ∧ OwnW wr w.heap.size (.slice A3 (X ++ (R.take k).map fun s => (⟨s, v⟩ : Wr)).length c3) (X ++ (R.take k).map fun s => (⟨s, v⟩ : Wr)) ∧ Below w.heap.size w wr ∧ w2.heap.size ≤ wr.heap.size ∧ Own cellsS 2 29 wr w.heap.size (.slice (some ⟨g5, 0, none⟩) R.length c5) R) (fun _ kv _ => R.length - (intOf kv).toNat)
          case atStart => exact ⟨0, A', c', Nat.zero_le _, rfl, by simp, by simpa using HO2.out, HBW2.out, Nat.le_refl _, HS2.out.lower hz⟩
          case round =>
            obtain ⟨k, A3, c3, hkl, rfl, rfl, ho3, hb3, hz3, hs3⟩ := hrel
            have HO3 := Lib.hid ho3
            have HB3 := Lib.hid hb3
            have HS3 := Lib.hid hs3
            have hzr := hb3.size
            clear ho3 hs3
            by_cases hkr : k < R.length
            · obtain ⟨_, _, e, _, hq⟩ := Own.rd cellsS_len HS3.out
              injection e with e1 e2 e3
              subst e1
              obtain ⟨b9, o9, e9, _, hq2⟩ := hq k hkr
              injection e9 with e9
              injection e9 with e10 e11
              subst e10 e11
              have g0 := hq2 0 _ rfl
              have g1 := hq2 1 _ rfl
              clear hq hq2 e2 e3
              have hnx : X ++ (R.take (k + 1)).map (fun s => (⟨s, v⟩ : Wr)) = (X ++ (R.take k).map (fun s => ⟨s, v⟩)) ++ [⟨R[k], v⟩] := by
                rw [List.take_add_one, List.getElem?_eq_getElem hkr, Option.toList_some, List.map_append, ← List.append_assoc]
                rfl
              have hyl : (X ++ (R.take k).map fun s => (⟨s, v⟩ : Wr)).length ≤ 40000000000 := by rw [List.length_append, List.length_map, List.length_take]; omega
              generalize X ++ (R.take k).map (fun s => (⟨s, v⟩ : Wr)) = Y at HO3 hnx hyl ⊢
              generalize R[k] = z at g0 g1 hnx
              obtain ⟨sf, st⟩ := z
              simp only [Nat.add_zero, Nat.zero_add] at g0 g1
              obtain ⟨wd, hwd⟩ : ∃ wd, wr.drew = wd := ⟨_, rfl⟩
              obtain ⟨we, hwe⟩ : ∃ we, wd.drew = we := ⟨_, rfl⟩
              obtain ⟨wf, hwf⟩ : ∃ wf, we.alloc (.cells #[.string sf, .string st, .int .i64 v] 62) = wf := ⟨_, rfl⟩
              have hzd : we.heap.size = wr.heap.size := by rw [← hwe, ← hwd]; rfl
              have hbf : Below we.heap.size we wf := by rw [← hwf]; exact (Below.refl _ we).alloc (Nat.le_refl _) _
              have hbe : Below wr.heap.size wr we := by rw [← hwe, ← hwd]; exact ((Below.refl _ wr).drew).drew
              have hbrf : Below wr.heap.size wr wf := hbe.trans (hbf.mono (by omega))
              have hof : OwnW wf w.heap.size (.slice A3 Y.length c3) Y := (HO3.out.below hbe (Nat.le_refl _)).below hbf (Nat.le_refl _)
              have hsf : Own cellsS 2 29 wf w.heap.size (.slice (some ⟨g5, 0, none⟩) R.length c5) R := (HS3.out.below hbe (Nat.le_refl _)).below hbf (Nat.le_refl _)
              have hone : RdW wf (we.heap.size + 1) (.slice (some ⟨we.heap.size, 0, none⟩) 1 1) [⟨(sf, st), v⟩] := by rw [← hwf]; exact RdW.one we ⟨(sf, st), v⟩
              have hglt : g5 < wr.heap.size := (Own.low HS3.out (by rfl)).2
              have hgo : ∀ g, (Value.slice A3 Y.length c3).ownBlock = some g → g ≠ g5 := fun g hg e => Own.apart2 HO3.out HS3.out (by decide) hg (by rw [e]; rfl)
              have hSf : ∀ W, Below w.heap.size w W → W.heap[g5]? = wr.heap[g5]? → W.cell? ⟨r, 0, none⟩ = some (.slice (some ⟨b, o, none⟩) L.length cap) ∧ W.cell? ⟨b, o + i * 3 + 2, none⟩ = some (.int .i64 v) ∧ W.cell? ⟨g5, k * 2, none⟩ = some (.string sf) ∧ W.cell? ⟨g5, k * 2 + 1, none⟩ = some (.string st) := fun W h1 h2 =>
                ⟨Q0.out W h1, Q2.out W h1, (World.cell?_of_block (w := wr) h2).trans g0, (World.cell?_of_block (w := wr) h2).trans g1⟩
              have hSe := hSf we (hb3.trans (hbe.mono hzr)) (hbe.block g5 hglt)
              have hSF := hSf wf (hb3.trans (hbrf.mono hzr)) (hbrf.block g5 hglt)
              have hSK : ∀ w4, wf.grownBy w4 (Value.slice A3 Y.length c3).ownBlock → (w4.cell? ⟨r, 0, none⟩ = some (.slice (some ⟨b, o, none⟩) L.length cap) ∧ w4.cell? ⟨b, o + i * 3 + 2, none⟩ = some (.int .i64 v) ∧ w4.cell? ⟨g5, k * 2, none⟩ = some (.string sf) ∧ w4.cell? ⟨g5, k * 2 + 1, none⟩ = some (.string st)) ∧ Below w.heap.size w w4 ∧ w2.heap.size ≤ w4.heap.size ∧ Own cellsS 2 29 w4 w.heap.size (.slice (some ⟨g5, 0, none⟩) R.length c5) R := fun w4 hg => by
                have hm4 := Mv.of_grown hg
                have hb4 : Below w.heap.size w w4 := (hb3.trans (hbrf.mono hzr)).trans (hm4.below (by have := hbrf.size; omega) (fun j hj => (Own.low hof hj.symm).1))
                refine ⟨hSf w4 hb4 ((hm4.block g5 (Nat.lt_of_lt_of_le hglt hbrf.size) (fun e => hgo g5 e.symm rfl)).trans (hbrf.block g5 hglt)), hb4, by have := hbrf.size; have := hm4.size; omega, hsf.mvG hm4 (fun g hg' e => Own.apart2 hof hsf (by decide) e.symm hg')⟩
              have HSE := Lib.hid hSe
              have HSF := Lib.hid hSF
              have HSK := Lib.hid hSK
              have HOF := Lib.hid hof
              have HONE := Lib.hid hone
              have HNX := Lib.hid hnx
              have HYL := Lib.hid hyl
              have HZF := Lib.hid (show w.heap.size ≤ wf.heap.size by have := hbrf.size; omega)
              have HD := Lib.hid hwd
              have HE := Lib.hid hwe
              have HFF := Lib.hid hwf
              have hd0 : Below w.heap.size w wr.drew := hb3.drew
              have j0 : (0 : Int) ≤ (k : Int) := by omega
              have j1 : (k : Int) < (R.length : Int) := by omega
              have j1b := decide_eq_true j1
              have j1n := decide_eq_true hkr
              have j2 : IntKind.i64.wrap ((k : Int) + 1) = ((k + 1 : Nat) : Int) := by rw [IntKind.wrap_i64]; omega
              clear hSe hSF hSK hof hone hnx hyl hbf hbe hbrf hsf hgo hSf g0 g1 hwd hwe hwf hzd hglt
              go_wp2_with fail
              refine wp_region_planB [(true, 0), (true, 1), (true, 2), (true, 3), (true, 4), (true, 5), (true, 6), (true, 7), (true, 8), (true, 9), (true, 10), (true, 11), (true, 12), (true, 13), (true, 14), (true, 15), (true, 16), (true, 17), (true, 18)] (by kernel_rfl) (by kernel_rfl) (fun _ _ d _ _ h => by cases d <;> exact h) ?_
              repeat (first | (refine PlanB.take (v := ?_) rfl rfl ?_ ?_; rotate_left; (focus (intro W hW; have k0 := Q0.out W (hd0.trans (hW.mono hd0.size)); have k1 := Q1.out W (hd0.trans (hW.mono hd0.size)); have k2 := Q2.out W (hd0.trans (hW.mono hd0.size)); go_simp; (try with_reducible rfl); done)); (try simp only [Act.put, List.setIfInBounds_toArray, List.set_cons_zero, List.set_cons_succ])) | (refine PlanB.skip rfl rfl ?_; (try simp only [Act.put, List.setIfInBounds_toArray, List.set_cons_zero, List.set_cons_succ])))
              simp only [PlanB]
              go_wp2_with fail
              rw [HD.out]
              refine wp_region_planT (fun W => W.cell? ⟨r, 0, none⟩ = some (.slice (some ⟨b, o, none⟩) L.length cap) ∧ W.cell? ⟨b, o + i * 3 + 2, none⟩ = some (.int .i64 v) ∧ W.cell? ⟨g5, k * 2, none⟩ = some (.string sf) ∧ W.cell? ⟨g5, k * 2 + 1, none⟩ = some (.string st)) (.take 0 (.take 1 (.take 2 (.take 3 (.take 4 (.take 5 (.take 6 (.take 7 (.take 8 (.take 9 (.take 10 (.take 11 (.take 12 (.take 13 (.step 14 (.step 15 (.take 16 .done))))))))))))))))) (by kernel_rfl) (by kernel_rfl) (fun _ _ d _ _ h => by cases d <;> exact h) (by rw [HE.out]; exact HSE.out) ?_
              rw [HE.out]
              (refine PlanT.takeI (v := ?_) rfl rfl ?_ ?_; rotate_left; (focus (intro W hW; obtain ⟨k0, k1, k2, k3⟩ := hW; go_simp; (try with_reducible rfl); done)); (try simp only [Act.put, List.setIfInBounds_toArray, List.set_cons_zero, List.set_cons_succ]))
              (refine PlanT.takeI (v := ?_) rfl rfl ?_ ?_; rotate_left; (focus (intro W hW; obtain ⟨k0, k1, k2, k3⟩ := hW; go_simp; (try with_reducible rfl); done)); (try simp only [Act.put, List.setIfInBounds_toArray, List.set_cons_zero, List.set_cons_succ]))
              (refine PlanT.takeI (v := ?_) rfl rfl ?_ ?_; rotate_left; (focus (intro W hW; obtain ⟨k0, k1, k2, k3⟩ := hW; go_simp; (try with_reducible rfl); done)); (try simp only [Act.put, List.setIfInBounds_toArray, List.set_cons_zero, List.set_cons_succ]))
              (refine PlanT.takeI (v := ?_) rfl rfl ?_ ?_; rotate_left; (focus (intro W hW; obtain ⟨k0, k1, k2, k3⟩ := hW; go_simp; (try with_reducible rfl); done)); (try simp only [Act.put, List.setIfInBounds_toArray, List.set_cons_zero, List.set_cons_succ]))
              (refine PlanT.takeI (v := ?_) rfl rfl ?_ ?_; rotate_left; (focus (intro W hW; obtain ⟨k0, k1, k2, k3⟩ := hW; go_simp; (try with_reducible rfl); done)); (try simp only [Act.put, List.setIfInBounds_toArray, List.set_cons_zero, List.set_cons_succ]))
              (refine PlanT.takeI (v := ?_) rfl rfl ?_ ?_; rotate_left; (focus (intro W hW; obtain ⟨k0, k1, k2, k3⟩ := hW; go_simp; (try with_reducible rfl); done)); (try simp only [Act.put, List.setIfInBounds_toArray, List.set_cons_zero, List.set_cons_succ]))
              (refine PlanT.takeI (v := ?_) rfl rfl ?_ ?_; rotate_left; (focus (intro W hW; obtain ⟨k0, k1, k2, k3⟩ := hW; go_simp; (try with_reducible rfl); done)); (try simp only [Act.put, List.setIfInBounds_toArray, List.set_cons_zero, List.set_cons_succ]))
              (refine PlanT.takeI (v := ?_) rfl rfl ?_ ?_; rotate_left; (focus (intro W hW; obtain ⟨k0, k1, k2, k3⟩ := hW; go_simp; (try with_reducible rfl); done)); (try simp only [Act.put, List.setIfInBounds_toArray, List.set_cons_zero, List.set_cons_succ]))
              (refine PlanT.takeI (v := ?_) rfl rfl ?_ ?_; rotate_left; (focus (intro W hW; obtain ⟨k0, k1, k2, k3⟩ := hW; go_simp; (try with_reducible rfl); done)); (try simp only [Act.put, List.setIfInBounds_toArray, List.set_cons_zero, List.set_cons_succ]))
              (refine PlanT.takeI (v := ?_) rfl rfl ?_ ?_; rotate_left; (focus (intro W hW; obtain ⟨k0, k1, k2, k3⟩ := hW; go_simp; (try with_reducible rfl); done)); (try simp only [Act.put, List.setIfInBounds_toArray, List.set_cons_zero, List.set_cons_succ]))
              (refine PlanT.takeI (v := ?_) rfl rfl ?_ ?_; rotate_left; (focus (intro W hW; obtain ⟨k0, k1, k2, k3⟩ := hW; go_simp; (try with_reducible rfl); done)); (try simp only [Act.put, List.setIfInBounds_toArray, List.set_cons_zero, List.set_cons_succ]))
              (refine PlanT.takeI (v := ?_) rfl rfl ?_ ?_; rotate_left; (focus (intro W hW; obtain ⟨k0, k1, k2, k3⟩ := hW; go_simp; (try with_reducible rfl); done)); (try simp only [Act.put, List.setIfInBounds_toArray, List.set_cons_zero, List.set_cons_succ]))
              (refine PlanT.takeI (v := ?_) rfl rfl ?_ ?_; rotate_left; (focus (intro W hW; obtain ⟨k0, k1, k2, k3⟩ := hW; go_simp; (try with_reducible rfl); done)); (try simp only [Act.put, List.setIfInBounds_toArray, List.set_cons_zero, List.set_cons_succ]))
              (refine PlanT.takeI (v := ?_) rfl rfl ?_ ?_; rotate_left; (focus (intro W hW; obtain ⟨k0, k1, k2, k3⟩ := hW; go_simp; (try with_reducible rfl); done)); (try simp only [Act.put, List.setIfInBounds_toArray, List.set_cons_zero, List.set_cons_succ]))
              refine wpOp_stepT rfl rfl (fun Kk hKk => ?_)
              go_simp
              rw [HFF.out]
              refine hKk.out _ _ HSF.out ?_
              clear hKk Kk
              (try simp only [Act.put, List.setIfInBounds_toArray, List.set_cons_zero, List.set_cons_succ])
              refine wpOp_stepT rfl rfl (fun Kk hKk => ?_)
              refine wp_addWr _ _ rfl w.heap.size (.slice A3 Y.length c3) Y rfl HOF.out (we.heap.size + 1) (.slice (some ⟨we.heap.size, 0, none⟩) 1 1) [⟨(sf, st), v⟩] rfl HONE.out (by have := HYL.out; simp only [List.length_cons, List.length_nil]; omega) HZF.out (fun A4 c4 w4 ho4 hg4 hn4 => ?_)
              obtain ⟨hk1, hk2, hk3, hk4⟩ := HSK.out w4 hg4
              rw [← HNX.out] at ho4 ⊢
              refine hKk.out _ _ hk1 ?_
              clear hKk Kk hn4 hg4
              (try simp only [Act.put, List.setIfInBounds_toArray, List.set_cons_zero, List.set_cons_succ])
              have HO4 := Lib.hid ho4
              have HK2 := Lib.hid hk2
              have HK4 := Lib.hid hk4
              clear ho4 hk1 hk2 hk4
              (refine PlanT.takeI (v := ?_) rfl rfl ?_ ?_; rotate_left; (focus (intro W hW; go_simp; (try with_reducible rfl); done)); (try simp only [Act.put, List.setIfInBounds_toArray, List.set_cons_zero, List.set_cons_succ]))
              simp only [PlanT]
              go_wp2_with fail
              go_roundw
              case rel => exact ⟨k + 1, A4, c4, by omega, rfl, by simp, HO4.out, HK2.out, hk3, HK4.out⟩
              case measure => simp [intOf]; omega
            · obtain rfl : k = R.length := by omega
              rw [List.take_length] at HO3 ⊢
              have hlen : (X ++ R.map fun s => (⟨s, v⟩ : Wr)).length ≤ (i + 1) * 200000 := by rw [List.length_append, List.length_map]; omega
              have hd0 : Below w.heap.size w wr.drew := hb3.drew
              have j1b : decide ((R.length : Int) < (R.length : Int)) = false := by simp
              generalize X ++ R.map (fun s => (⟨s, v⟩ : Wr)) = Y at HO3 HADDR hlen ⊢
              go_wp2_with fail
              refine wp_region_planB [(true, 0), (true, 1), (true, 2), (true, 3), (true, 4), (true, 5), (true, 6), (true, 7), (true, 8), (true, 9), (true, 10), (true, 11), (true, 12), (true, 13), (true, 14), (true, 15), (true, 16), (true, 17), (true, 18)] (by kernel_rfl) (by kernel_rfl) (fun _ _ d _ _ h => by cases d <;> exact h) ?_
              repeat (first | (refine PlanB.take (v := ?_) rfl rfl ?_ ?_; rotate_left; (focus (intro W hW; have k0 := Q0.out W (hd0.trans (hW.mono hd0.size)); have k1 := Q1.out W (hd0.trans (hW.mono hd0.size)); have k2 := Q2.out W (hd0.trans (hW.mono hd0.size)); go_simp; (try with_reducible rfl); done)); (try simp only [Act.put, List.setIfInBounds_toArray, List.set_cons_zero, List.set_cons_succ])) | (refine PlanB.skip rfl rfl ?_; (try simp only [Act.put, List.setIfInBounds_toArray, List.set_cons_zero, List.set_cons_succ])))
              simp only [PlanB]
              go_wp2_with fail
              go_roundw
              case rel => exact ⟨i + 1, A3, c3, Y, by omega, rfl, rfl, HO3.out.drew, HADDR.out, hlen, HB3.out.drew⟩
              case measure => simp [intOf]; omega
      · have hflb := decide_eq_false hfl
        have HSK := Lib.hid (HSKIP.out (by omega))
        have hd0 : Below w.heap.size w w2.drew := hbw2.drew
        obtain ⟨Ar, cr, hv2, hcr, _⟩ := Own.rd cellsS_len HS2.out
        clear HSKIP HADD hfl
        subst hv2
        by_cases hR0 : 0 < R.length
        · have hRi : (0 : Int) < (R.length : Int) := by omega
          have hRb := decide_eq_true hRi
          have hRn := decide_eq_true hR0
          go_wp2_with fail
          refine wp_loop_rounds 1 ?_
          rw [rounds_succ]
          go_wp2_with fail
          refine wp_region_planB [(true, 0), (true, 1), (true, 2), (true, 3), (true, 4), (true, 5), (true, 6), (true, 7), (true, 8), (true, 9), (true, 10), (true, 11), (true, 12), (true, 13), (true, 14), (true, 15), (true, 16), (true, 17), (true, 18)] (by kernel_rfl) (by kernel_rfl) (fun _ _ d _ _ h => by cases d <;> exact h) ?_
          repeat (first | (refine PlanB.take (v := ?_) rfl rfl ?_ ?_; rotate_left; (focus (intro W hW; have k0 := Q0.out W (HBW2.out.trans (((Below.refl _ w2).drew.trans hW).mono HBW2.out.size)); have k1 := Q1.out W (HBW2.out.trans (((Below.refl _ w2).drew.trans hW).mono HBW2.out.size)); have k2 := Q2.out W (HBW2.out.trans (((Below.refl _ w2).drew.trans hW).mono HBW2.out.size)); go_simp; (try with_reducible rfl); done)); (try simp only [Act.put, List.setIfInBounds_toArray, List.set_cons_zero, List.set_cons_succ])) | (refine PlanB.skip rfl rfl ?_; (try simp only [Act.put, List.setIfInBounds_toArray, List.set_cons_zero, List.set_cons_succ])))
          simp only [PlanB]
          go_wp2_with fail
          go_roundw
          case rel => exact ⟨i + 1, A', c', X, by omega, rfl, rfl, HO2.out.drew, HSK.out, HXL2.out, HBW2.out.drew⟩
          case measure => simp [intOf]; omega
        · have hRi : ¬ (0 : Int) < (R.length : Int) := by omega
          have hRb := decide_eq_false hRi
          have hRn := decide_eq_false hR0
          go_wp2_with fail
          refine wp_loop_rounds 1 ?_
          rw [rounds_succ]
          go_wp2_with fail
          refine wp_region_planB [(true, 0), (true, 1), (true, 2), (true, 3), (true, 4), (true, 5), (true, 6), (true, 7), (true, 8), (true, 9), (true, 10), (true, 11), (true, 12), (true, 13), (true, 14), (true, 15), (true, 16), (true, 17), (true, 18)] (by kernel_rfl) (by kernel_rfl) (fun _ _ d _ _ h => by cases d <;> exact h) ?_
          repeat (first | (refine PlanB.take (v := ?_) rfl rfl ?_ ?_; rotate_left; (focus (intro W hW; have k0 := Q0.out W (HBW2.out.trans (((Below.refl _ w2).drew.trans hW).mono HBW2.out.size)); have k1 := Q1.out W (HBW2.out.trans (((Below.refl _ w2).drew.trans hW).mono HBW2.out.size)); have k2 := Q2.out W (HBW2.out.trans (((Below.refl _ w2).drew.trans hW).mono HBW2.out.size)); go_simp; (try with_reducible rfl); done)); (try simp only [Act.put, List.setIfInBounds_toArray, List.set_cons_zero, List.set_cons_succ])) | (refine PlanB.skip rfl rfl ?_; (try simp only [Act.put, List.setIfInBounds_toArray, List.set_cons_zero, List.set_cons_succ])))
          simp only [PlanB]
          go_wp2_with fail
          go_roundw
          case rel => exact ⟨i + 1, A', c', X, by omega, rfl, rfl, HO2.out.drew, HSK.out, HXL2.out, HBW2.out.drew⟩
          case measure => simp [intOf]; omega
    · obtain rfl : i = L.length := by omega
      have hpc := HPT.out.whole h0f
      obtain ⟨hple, hsize⟩ := hpc.size
      have hgl : ∀ i k, i < X.length → k ≤ X.length → gone X i k ≤ pairsOf X X := fun i k h1 h2 => gone_le (X.length - i) i k (by omega) h2
      have HG := Lib.hid hgl
      have HSZ := Lib.hid hsize
      have HX := Lib.hid (Own.rd encW_len HO.out)
      have hxb : X.length ≤ 18000000000 := by omega
      have hzX : X.length - gone X 0 0 = X.length := by rw [gone_zero]; rfl
      have HGZ := Lib.hid hzX
      clear hgl hsize hpc HPT HI HW HR0 hzX
      go_wp2_with fail
      obtain ⟨wA, rfl⟩ : ∃ wA, wA = wr := ⟨_, rfl⟩
      go_loopw [7, 8] (fun nv iv w3 => ∃ i : Nat, i ≤ X.length ∧ iv = .int .i64 (i : Int) ∧ nv = .int .i64 ((X.length : Int) - (gone X i 0 : Int)) ∧ Below wA.heap.size wA w3) (fun _ iv _ => X.length - (intOf iv).toNat)
      case atStart => exact ⟨0, Nat.zero_le _, rfl, by rw [gone_zero]; simp, Below.refl _ _⟩
      case round =>
        obtain ⟨i, hiX, rfl, rfl, hb3⟩ := hrel
        have HB3 := Lib.hid hb3
        by_cases hix : i < X.length
        · have h0 : (0 : Int) ≤ (i : Int) := by omega
          have h1 : (i : Int) < (X.length : Int) := by omega
          have h2 : IntKind.i64.wrap ((i : Int) + 1) = ((i + 1 : Nat) : Int) := by rw [IntKind.wrap_i64]; omega
          have HROW := Lib.hid (gone_row hix)
          have HBX := Lib.hid hb3
          have HGI := Lib.hid (fun k (hk : k ≤ X.length) => HG.out i k hix hk)
          clear hb3
          go_wp2_with fail
          go_loopw [7, 9] (fun nv kv w3 => ∃ k : Nat, k ≤ X.length ∧ kv = .int .i64 (k : Int) ∧ nv = .int .i64 ((X.length : Int) - (gone X i k : Int)) ∧ Below wA.heap.size wA w3) (fun _ kv _ => X.length - (intOf kv).toNat)
          case atStart => exact ⟨0, Nat.zero_le _, rfl, rfl, HBX.out⟩
          case round =>
            obtain ⟨k, hkX, rfl, rfl, hb4⟩ := hrel
            have HB4 := Lib.hid hb4
            by_cases hkx : k < X.length
            · have j0 : (0 : Int) ≤ (k : Int) := by omega
              have j1 : (k : Int) < (X.length : Int) := by omega
              have j2 : IntKind.i64.wrap ((k : Int) + 1) = ((k + 1 : Nat) : Int) := by rw [IntKind.wrap_i64]; omega
              obtain ⟨_, _, e, _, hq⟩ := HX.out
              injection e with e1 e2 e3
              subst e1
              obtain ⟨b1, o1, rfl, hb1, hq1⟩ := hq i hix
              obtain ⟨b2, o2, e9, _, hq2⟩ := hq k hkx
              injection e9 with e9
              injection e9 with e10 e11
              subst e10 e11
              have hgs := gone_step hix hkx
              have hgb := HGI.out (k + 1) hkx
              have y0 : ∀ W, Below wr.heap.size wr W → W.cell? ⟨b1, o1 + i * 3 + 1, none⟩ = some (.string X[i].s.2) := fun W hW => (hW.cell (p := ⟨b1, o1 + i * 3 + 1, none⟩) (Nat.lt_of_lt_of_le hb1 hb4.size)).trans ((hb4.cell (p := ⟨b1, o1 + i * 3 + 1, none⟩) hb1).trans (hq1 1 _ rfl))
              have y1 : ∀ W, Below wr.heap.size wr W → W.cell? ⟨b1, o1 + i * 3 + 2, none⟩ = some (.int .i64 X[i].v) := fun W hW => (hW.cell (p := ⟨b1, o1 + i * 3 + 2, none⟩) (Nat.lt_of_lt_of_le hb1 hb4.size)).trans ((hb4.cell (p := ⟨b1, o1 + i * 3 + 2, none⟩) hb1).trans (hq1 2 _ rfl))
              have y2 : ∀ W, Below wr.heap.size wr W → W.cell? ⟨b1, o1 + k * 3, none⟩ = some (.string X[k].s.1) := fun W hW => (hW.cell (p := ⟨b1, o1 + k * 3, none⟩) (Nat.lt_of_lt_of_le hb1 hb4.size)).trans ((hb4.cell (p := ⟨b1, o1 + k * 3, none⟩) hb1).trans (hq2 0 _ rfl))
              have y3 : ∀ W, Below wr.heap.size wr W → W.cell? ⟨b1, o1 + k * 3 + 2, none⟩ = some (.int .i64 X[k].v) := fun W hW => (hW.cell (p := ⟨b1, o1 + k * 3 + 2, none⟩) (Nat.lt_of_lt_of_le hb1 hb4.size)).trans ((hb4.cell (p := ⟨b1, o1 + k * 3 + 2, none⟩) hb1).trans (hq2 2 _ rfl))
              unfold touch at hgs
              generalize X[i].s.2 = xt at y0 hgs
              generalize X[i].v = xv at y1 hgs
              generalize X[k].s.1 = yf at y2 hgs
              generalize X[k].v = yv at y3 hgs
              have Y0 := Lib.hid y0
              have Y1 := Lib.hid y1
              have Y2 := Lib.hid y2
              have Y3 := Lib.hid y3
              have HGS := Lib.hid hgs
              have HGB := Lib.hid hgb
              have hd0 : Below wr.heap.size wr wr.drew := (Below.refl _ _).drew
              have HBD := Lib.hid (hb4.drew)
              clear y0 y1 y2 y3 hq hq1 hq2 e2 e3 hgs hgb hb4
              by_cases hxy : xt = yf
              · have hxb := decide_eq_true hxy
                by_cases hvv : xv = yv
                · have hvb := decide_eq_true hvv
                  have hvc : (xv == yv) = true := by simpa using hvv
                  have hg1 : gone X i (k + 1) = gone X i k + 1 := by rw [HGS.out, hxb, hvb]; rfl
                  have hwr : IntKind.i64.wrap ((X.length : Int) - (gone X i k : Int) - 1) = (X.length : Int) - (gone X i (k + 1) : Int) := by rw [IntKind.wrap_i64, hg1]; have := HGB.out; omega
                  have HWR := Lib.hid hwr
                  clear hg1
                  go_wp2_with fail
                  refine wp_region_planB [(true, 0), (true, 1), (true, 2), (true, 3), (true, 4), (true, 5), (true, 6), (true, 7), (true, 8), (true, 9), (true, 10), (true, 11), (true, 12), (true, 13), (true, 14), (true, 15), (true, 16), (true, 17), (true, 18), (true, 19), (true, 20), (true, 21), (true, 22), (true, 23), (true, 24), (true, 25)] (by kernel_rfl) (by kernel_rfl) (fun _ _ d _ _ h => by cases d <;> exact h) ?_
                  repeat (first | (refine PlanB.take (v := ?_) rfl rfl ?_ ?_; rotate_left; (focus (intro W hW; have k0 := Y0.out W (hd0.trans (hW.mono hd0.size)); have k1 := Y1.out W (hd0.trans (hW.mono hd0.size)); have k2 := Y2.out W (hd0.trans (hW.mono hd0.size)); have k3 := Y3.out W (hd0.trans (hW.mono hd0.size)); go_simp; (try with_reducible rfl); done)); (try simp only [Act.put, List.setIfInBounds_toArray, List.set_cons_zero, List.set_cons_succ])) | (refine PlanB.skip rfl rfl ?_; (try simp only [Act.put, List.setIfInBounds_toArray, List.set_cons_zero, List.set_cons_succ])))
                  simp only [PlanB]
                  go_wp2_with fail
                  go_roundw
                  case rel => exact ⟨k + 1, by omega, rfl, rfl, HBD.out⟩
                  case measure => simp [intOf]; omega
                · have hvb := decide_eq_false hvv
                  have hvc : (xv == yv) = false := by simpa using hvv
                  have hg1 : gone X i (k + 1) = gone X i k := by rw [HGS.out, hvb, Bool.and_false]; rfl
                  have HG1 := Lib.hid hg1
                  clear hg1
                  go_wp2_with fail
                  refine wp_region_planB [(true, 0), (true, 1), (true, 2), (true, 3), (true, 4), (true, 5), (true, 6), (true, 7), (true, 8), (true, 9), (true, 10), (true, 11), (true, 12), (true, 13), (true, 14), (true, 15), (true, 16), (true, 17), (true, 18), (true, 19), (true, 20), (true, 21), (true, 22), (true, 23), (true, 24), (true, 25)] (by kernel_rfl) (by kernel_rfl) (fun _ _ d _ _ h => by cases d <;> exact h) ?_
                  repeat (first | (refine PlanB.take (v := ?_) rfl rfl ?_ ?_; rotate_left; (focus (intro W hW; have k0 := Y0.out W (hd0.trans (hW.mono hd0.size)); have k1 := Y1.out W (hd0.trans (hW.mono hd0.size)); have k2 := Y2.out W (hd0.trans (hW.mono hd0.size)); have k3 := Y3.out W (hd0.trans (hW.mono hd0.size)); go_simp; (try with_reducible rfl); done)); (try simp only [Act.put, List.setIfInBounds_toArray, List.set_cons_zero, List.set_cons_succ])) | (refine PlanB.skip rfl rfl ?_; (try simp only [Act.put, List.setIfInBounds_toArray, List.set_cons_zero, List.set_cons_succ])))
                  simp only [PlanB]
                  go_wp2_with fail
                  go_roundw
                  case rel => exact ⟨k + 1, by omega, rfl, by rw [HG1.out], HBD.out⟩
                  case measure => simp [intOf]; omega
              · have hxb := decide_eq_false hxy
                have hg1 : gone X i (k + 1) = gone X i k := by rw [HGS.out, hxb, Bool.false_and]; rfl
                have HG1 := Lib.hid hg1
                clear hg1
                go_wp2_with fail
                refine wp_region_planB [(true, 0), (true, 1), (true, 2), (true, 3), (true, 4), (true, 5), (true, 6), (true, 7), (true, 8), (true, 9), (true, 10), (true, 11), (true, 12), (true, 13), (true, 14), (true, 15), (true, 16), (true, 17), (true, 18), (true, 19), (true, 20), (true, 21), (true, 22), (true, 23), (true, 24), (true, 25)] (by kernel_rfl) (by kernel_rfl) (fun _ _ d _ _ h => by cases d <;> exact h) ?_
                repeat (first | (refine PlanB.take (v := ?_) rfl rfl ?_ ?_; rotate_left; (focus (intro W hW; have k0 := Y0.out W (hd0.trans (hW.mono hd0.size)); have k1 := Y1.out W (hd0.trans (hW.mono hd0.size)); have k2 := Y2.out W (hd0.trans (hW.mono hd0.size)); have k3 := Y3.out W (hd0.trans (hW.mono hd0.size)); go_simp; (try with_reducible rfl); done)); (try simp only [Act.put, List.setIfInBounds_toArray, List.set_cons_zero, List.set_cons_succ])) | (refine PlanB.skip rfl rfl ?_; (try simp only [Act.put, List.setIfInBounds_toArray, List.set_cons_zero, List.set_cons_succ])))
                simp only [PlanB]
                go_wp2_with fail
                go_roundw
                case rel => exact ⟨k + 1, by omega, rfl, by rw [HG1.out], HBD.out⟩
                case measure => simp [intOf]; omega
            · obtain rfl : k = X.length := by omega
              have HBE := Lib.hid hb4
              clear hb4
              go_wp2_with fail
              go_roundw
              case rel => exact ⟨i + 1, by omega, rfl, by rw [HROW.out], HBE.out⟩
              case measure => simp [intOf]; omega
        · obtain rfl : i = X.length := by omega
          have hfin : ((X.length : Int) - (gone X X.length 0 : Int)) = ((X.length - pairsOf X X : Nat) : Int) := by rw [gone_end]; omega
          have HFIN := Lib.hid hfin
          have HBF := Lib.hid (HBW.out.trans (hb3.mono hz))
          clear hfin hb3
          go_wp2_with fail
          go_ret
          exact ⟨X.length - pairsOf X X, by rw [← HFIN.out]; rfl, HSZ.out, HBF.out⟩
end Go.Proofs.YtcmpbhcldaogiaaGreat
namespace Go.Proofs.YtcmpbhcldaogiaaGreat
open Go.RowKit

/-- one act, as it came in -/
structure MAct where
  what : Int
  ver : Int
  span : K × K
  v : Value
  ts : List TxV
def encMA (a : MAct) : List Value := [.int .i64 a.what, .int .i64 a.ver, .string a.span.1, .string a.span.2, a.v]
theorem encMA_len (a : MAct) : (encMA a).length = 5 := rfl
theorem RdMA.at {w : World} {B : Nat} {v : Value} {l : List MAct} (h : Rd encMA 5 w B v l) : ∃ A c, v = .slice A l.length c ∧ l.length ≤ c ∧ ∀ i (_ : i < l.length), ∃ b o, A = some ⟨b, o, none⟩ ∧ b < B ∧
    w.cell? ⟨b, o + i * 5, none⟩ = some (.int .i64 l[i].what) ∧ w.cell? ⟨b, o + i * 5 + 1, none⟩ = some (.int .i64 l[i].ver) ∧ w.cell? ⟨b, o + i * 5 + 2, none⟩ = some (.string l[i].span.1) ∧ w.cell? ⟨b, o + i * 5 + 3, none⟩ = some (.string l[i].span.2) ∧ w.cell? ⟨b, o + i * 5 + 4, none⟩ = some l[i].v := by
  obtain ⟨A, c, hv, hc, hi⟩ := h
  refine ⟨A, c, hv, hc, fun i hs => ?_⟩
  obtain ⟨b, o, hA, hB, h1⟩ := hi i hs
  exact ⟨b, o, hA, hB, h1 0 _ rfl, h1 1 _ rfl, h1 2 _ rfl, h1 3 _ rfl, h1 4 _ rfl⟩
/-- transactions that came in: none of them in a new block -/
structure TxOk (w : World) (v : Value) (ts : List TxV) : Prop where
  rd : RdTx w w.heap.size (fun _ => False) v ts
  fit : ∀ x ∈ ts, fitT x.t
  read : ∀ x ∈ ts, I64 x.t.read
theorem TxOk.next {w w' : World} {v : Value} {ts : List TxV} (h : TxOk w v ts) (hb : Below w.heap.size w w') : RdTx w' w.heap.size (fun _ => False) v ts :=
  h.rd.mv (Mv.of_below hb) (Nat.le_refl _) (fun b h1 h2 => by omega)
/-- and none of them in a block of marks that were made since -/
theorem TxOk.off {w w' : World} {v : Value} {ts : List TxV} {q n : Nat} {G : Nat → Prop} {m : Mk} (h : TxOk w v ts) (hb : Below w.heap.size w w') (hm : MkAt w' w.heap.size q G n m) : RdTx w' w'.heap.size G v ts :=
  (h.next hb).mono hb.size (fun b h1 h2 => by have := (hm.low.2 b h2).1; omega)

/-- the program's marks at their blocks G, the reference's: apart -/
structure Mid (w : World) (base q r : Nat) (G : Nat → Prop) (ov : Option Nat) (n n' : Nat) (m m0 : Mk) : Prop where
  pm : MkAt w base q G n m
  ref : RmAt w base r ov n' m0
  off : ¬ G r ∧ ∀ g, ov = some g → ¬ G g
section
variable {w w' : World} {base q r g n n' n1 : Nat} {G G' : Nat → Prop} {ov ov' : Option Nat} {m m0 m1 : Mk}
theorem Mid.rowlt (h : Mid w base q r G ov n n' m m0) {g : Nat} (hg : ov = some g) : g < w.heap.size := (h.ref.row hg).2
theorem Mid.prog (h : Mid w base q r G ov n n' m m0) (hb : MkAt w' base q G' n1 m1) (hn : ∀ i, G' i → G i ∨ w.heap.size ≤ i) (hm : Mv G w w') : Mid w' base q r G' ov n1 n' m1 m0 :=
  ⟨hb, h.ref.mv hm h.off.1 h.off.2, fun hg => by
    rcases hn r hg with k | k
    · exact h.off.1 k
    · have := h.ref.size; omega, fun g hg hG => by
    rcases hn g hG with k | k
    · exact h.off.2 g hg k
    · have := h.rowlt hg; omega⟩
theorem Mid.offD (h : Mid w base q r G ov n n' m m0) (i : Nat) (hi : G i) : ¬ RmD r ov i := by
  rintro (rfl | hd)
  · exact h.off.1 hi
  · exact h.off.2 i hd.symm hi
theorem Mid.went (h : Mid w base q r G ov n n' m m0) (hw : RmWent w w' base r ov n1 m1 ov') : Mid w' base q r G ov' n n1 m m1 :=
  ⟨h.pm.mv hw.moved h.offD, hw.now, h.off.1, fun g hg hG => by
    rcases hw.new g hg with k | k
    · exact h.off.2 g k hG
    · have := (h.pm.low.2 g hG).2; omega⟩
theorem Mid.same (h : Mid w base q r G ov n n' m m0) (hb : Below w.heap.size w w') : Mid w' base q r G ov n n' m m0 := ⟨h.pm.new hb, h.ref.new hb, h.off⟩
theorem Mid.below (h : Mid w base q r G ov n n' m m0) (hm : Mv G w w') : Below base w w' := mv_below h.pm hm
theorem Mid.belowr (h : Mid w base q r G ov n n' m m0) (hw : RmWent w w' base r ov n1 m1 ov') : Below base w w' := hw.below h.ref
theorem Mid.fresh (h : Mid w base q r G ov n n' m m0) (hg : w.heap.size ≤ g) : ¬ G g ∧ ¬ RmD r ov g :=
  ⟨fun hi => by have := (h.pm.low.2 g hi).2; omega, by
    rintro (rfl | hd)
    · have := h.ref.size; omega
    · have := h.rowlt hd.symm; omega⟩
/-- what the program answered lies in no block of the reference's -/
theorem Mid.away (h : Mid w base q r G ov n n' m m0) {i : Nat} (hi : RmD r ov i) : Else w G i := by
  rcases hi with rfl | hd
  · exact ⟨h.off.1, h.ref.size⟩
  · exact ⟨h.off.2 i hd.symm, h.rowlt hd.symm⟩
end
theorem jout_len (m : Mk) (v : Int) (ts : List Txn) : (jout m v ts).length ≤ 4 := by
  unfold jout
  split
  · rename_i h
    rw [judgeL_len]
    exact (jerr_ok h).2.2.1
  · simp
theorem jnext_ok {m : Mk} (h : m.Ok) (v : Int) (ts : List Txn) (hv : v < 9223372036854775808) : (jnext m v ts).Ok := h.jnext ts hv
end Go.Proofs.YtcmpbhcldaogiaaGreat
namespace Go.Proofs.YtcmpbhcldaogiaaGreat
open Go.RowKit

/-- a transaction that came in -/
structure TxIn (w : World) (t : Txn) (v1 v2 : Value) : Prop where
  reads : RdP w w.heap.size v1 t.reads
  chgs : RdC w w.heap.size v2 t.chgs
  fit : fitT t
  read : I64 t.read
theorem TxIn.again {w : World} {t : Txn} {v1 v2 : Value} (h : TxIn w t v1 v2) {r : Int} (hr : I64 r) : TxIn w { t with read := r } v1 v2 := ⟨h.reads, h.chgs, h.fit, hr⟩
theorem TxIn.slices {w : World} {t : Txn} {v1 v2 : Value} (h : TxIn w t v1 v2) : ∃ A1 c1 A2 c2, v1 = .slice A1 t.reads.length c1 ∧ v2 = .slice A2 t.chgs.length c2 := by
  obtain ⟨A1, c1, e1, _, _⟩ := h.reads.at
  obtain ⟨A2, c2, e2, _, _⟩ := h.chgs.at
  exact ⟨A1, c1, A2, c2, e1, e2⟩
/-- it is found sound or not -/
theorem TxIn.sound {w w' : World} {t : Txn} {v1 v2 : Value} (h : TxIn w t v1 v2) (hb : Below w.heap.size w w') : Calls Tryz.prog 20 #[tval t v1 v2] w' fun e w2 => e = .returned (.bool (decide (soundT t))) ∧ Below w'.heap.size w' w2 :=
  rsoundT_any t h.fit v1 v2 w' ((h.reads.below hb (Nat.le_refl _)).mono hb.size) ((h.chgs.below hb (Nat.le_refl _)).mono hb.size)
theorem TxIn.part {w w' : World} {t : Txn} {v1 v2 : Value} {G : Nat → Prop} (h : TxIn w t v1 v2) (hb : Below w.heap.size w w') (hG : ∀ i, G i → w.heap.size ≤ i) : RdG cellsS 2 w' w'.heap.size G v1 t.reads ∧ RdG encC 3 w' w'.heap.size G v2 t.chgs :=
  ⟨(RdG.of (h.reads.below hb (Nat.le_refl _)) (fun b h1 h2 => by have := hG b h2; omega)).mono hb.size (fun _ _ h => h), (RdG.of (h.chgs.below hb (Nat.le_refl _)) (fun b h1 h2 => by have := hG b h2; omega)).mono hb.size (fun _ _ h => h)⟩
/-- one transaction in a new block -/
theorem RdTx.one {w' : World} {g : Nat} {G : Nat → Prop} {x : TxV} (hW : Whole w' g 52 [.int .i64 x.t.read, x.v1, x.v2]) (hp : RdG cellsS 2 w' w'.heap.size G x.v1 x.t.reads ∧ RdG encC 3 w' w'.heap.size G x.v2 x.t.chgs) (hG : ¬ G g) : RdTx w' w'.heap.size G (.slice (some ⟨g, 0, none⟩) 1 1) [x] :=
  ⟨Whole.rdg encTx_len (l := [x]) hW (Nat.le_refl 1) hW.size hG, fun y hy => by rw [List.mem_singleton] at hy; subst hy; exact hp⟩
theorem RdTx.two {w' : World} {g : Nat} {G : Nat → Prop} {x y : TxV} (hW : Whole w' g 52 [.int .i64 x.t.read, x.v1, x.v2, .int .i64 y.t.read, y.v1, y.v2]) (hp : RdG cellsS 2 w' w'.heap.size G x.v1 x.t.reads ∧ RdG encC 3 w' w'.heap.size G x.v2 x.t.chgs) (hp2 : RdG cellsS 2 w' w'.heap.size G y.v1 y.t.reads ∧ RdG encC 3 w' w'.heap.size G y.v2 y.t.chgs) (hG : ¬ G g) : RdTx w' w'.heap.size G (.slice (some ⟨g, 0, none⟩) 2 2) [x, y] :=
  ⟨Whole.rdg encTx_len (l := [x, y]) hW (Nat.le_refl 2) hW.size hG, fun z hz => by
    simp only [List.mem_cons, List.not_mem_nil, or_false] at hz
    rcases hz with rfl | rfl
    · exact hp
    · exact hp2⟩
theorem RdG.take {α : Type} {enc : α → List Value} {k : Nat} {w : World} {B : Nat} {G : Nat → Prop} {A : Option Addr} {c m : Nat} {l : List α} (h : RdG enc k w B G (.slice A m c) l) (n : Nat) (hn : n ≤ l.length) : RdG enc k w B G (.slice A n c) (l.take n) := by
  obtain ⟨A', c', hv, hc, hi⟩ := h
  injection hv with h1 h2 h3
  subst h1 h3
  refine ⟨A, c, by simp [Nat.min_eq_left hn], by simp; omega, fun i hs => ?_⟩
  have hs' : i < l.length := by simp at hs; omega
  obtain ⟨b, o, hA, hB, hg, h1⟩ := hi i hs'
  exact ⟨b, o, hA, hB, hg, fun j u hu => h1 j u (by simpa using hu)⟩
theorem TxOk.take {w : World} {A : Option Addr} {c m : Nat} {ts : List TxV} (h : TxOk w (.slice A m c) ts) (n : Nat) (hn : n ≤ ts.length) : TxOk w (.slice A n c) (ts.take n) :=
  ⟨⟨h.rd.row.take n hn, fun x hx => h.rd.parts x (List.mem_of_mem_take hx)⟩, fun x hx => h.fit x (List.mem_of_mem_take hx), fun x hx => h.read x (List.mem_of_mem_take hx)⟩

/-! ### pure -/
theorem jnext_low {m : Mk} (h : m.Ok) {v : Int} {ts : List Txn} (he : jerr m v ts = 0) (hv : v < 9223372036854775808) : (jnext m v ts).Ok ∧ (jnext m v ts).most ≤ v ∧ (jnext m v ts).floor = m.floor := by
  have := jerr_ok he
  unfold jnext
  rw [if_pos he]
  exact Mk.Ok.judgeM ts h (by omega) hv
theorem jerr_one {m : Mk} {v : Int} {t : Txn} (h1 : m.floor < v) (h2 : m.most < v) (hs : soundT t) : jerr m v [t] = 0 := by
  unfold jerr
  rw [if_neg (by omega), if_neg]
  rintro (h | ⟨u, hu, hn⟩)
  · simp at h
  · rw [List.mem_singleton] at hu; subst hu; exact hn hs
theorem jone {m : Mk} {v : Int} {t : Txn} (he : jerr m v [t] = 0) : jout m v [t] = [verd m t] ∧ jnext m v [t] = judge1 m v t := by
  unfold jout jnext
  rw [if_pos he, if_pos he]
  exact ⟨rfl, rfl⟩
theorem verd_fine {m : Mk} {t : Txn} (h1 : t.reads = [] ∨ m.floor ≤ t.read) (h2 : ∀ k, m.f k ≤ m.floor ∨ m.f k ≤ t.read) : verd m t = 1 := by
  unfold verd
  rw [if_neg (by rintro ⟨h3, h4⟩; rcases h1 with h1 | h1; exact h3 h1; omega), if_neg]
  rintro ⟨s, _, k, _, h3, h4⟩
  rcases h2 k with h5 | h5 <;> omega
theorem verd_blind {m : Mk} {t : Txn} (h : t.reads = []) : verd m t = 1 := by
  unfold verd
  rw [if_neg (fun h3 => h3.1 h), if_neg]
  rintro ⟨s, hs, _⟩
  rw [h] at hs
  simp at hs
end Go.Proofs.YtcmpbhcldaogiaaGreat
namespace Go.Proofs.YtcmpbhcldaogiaaGreat
open Go.ChangeShapes Go.WideShapes Go.ChangeAt Go.RowKit Go.Joins Go.Deep

def PairD {H : Type} (s : K × K) (d : DataW H) : Prop := d = .agg [.lit (.string s.1.data.toList), .lit (.string s.2.data.toList)]
def ChgD {H : Type} (c : Chg) (d : DataW H) : Prop := ∃ y, d = .agg [y, .lit (.string c.key.data.toList), .lit (.string c.val.data.toList)]

section
variable {H : Type} {enc : TypeId × Value → H} {w : World} {base : Nat} {spare : Nat → Bool} {held : Bool}
set_option maxRecDepth 100000 in
theorem span_of_cells {fuel : Nat} {cs : List Value} {x : DataW H × List MemPlace} (h : DataW.trod enc Tryz.prog w base spare held fuel 29 cs = some x) : ∃ s : K × K, cs = cellsS s ∧ PairD s x.1 := by
  obtain ⟨y0, y1, n, hx, hlen, h0, h1⟩ := trod_struct2 Tryz.underlying29 h
  rw [show Tryz.prog.cellsOf 29 = 2 by kernel_rfl] at hlen
  match cs, hlen with
  | [u, v], _ =>
    have c9 : Tryz.prog.cellsOf 9 = 1 := by kernel_rfl
    simp [c9] at h0 h1
    obtain ⟨a, ea, xa, ha⟩ := DataW.trod_string Tryz.underlying9 h0
    obtain ⟨b, eb, xb, hb⟩ := DataW.trod_string Tryz.underlying9 h1
    simp at ea eb
    exact ⟨(a, b), by rw [ea, eb]; rfl, by rw [hx, xa, xb]; rfl⟩
set_option maxRecDepth 100000 in
theorem chg_of_cells {fuel : Nat} {cs : List Value} {x : DataW H × List MemPlace} (h : DataW.trod enc Tryz.prog w base spare held fuel 48 cs = some x) : ∃ s : Chg, cs = encC s ∧ ChgD s x.1 := by
  obtain ⟨y0, y1, y2, n, hx, hlen, h0, h1, h2⟩ := trod_struct3 Tryz.underlying48 h
  rw [show Tryz.prog.cellsOf 48 = 3 by kernel_rfl] at hlen
  match cs, hlen with
  | [u, v, t], _ =>
    have c9 : Tryz.prog.cellsOf 9 = 1 := by kernel_rfl
    have c3 : Tryz.prog.cellsOf 3 = 1 := by kernel_rfl
    simp [c9, c3] at h0 h1 h2
    obtain ⟨m, em, _, _⟩ := DataW.trod_int Tryz.underlying3 h0
    obtain ⟨a, ea, xa, ha⟩ := DataW.trod_string Tryz.underlying9 h1
    obtain ⟨b, eb, xb, hb⟩ := DataW.trod_string Tryz.underlying9 h2
    simp at em ea eb
    exact ⟨⟨m, a, b⟩, by rw [em, ea, eb]; rfl, y0.1, by rw [hx, xa, xb]⟩
end
set_option maxRecDepth 100000 in
theorem SizedL.lenC {H : Type} {d : DataW H} {l : List Chg} (hs : SizedL ChgD d l) (hw : ∀ n ∈ d.weights Tryz.prog 49, n ≤ reachBytes) : l.length < 4611686018427387904 ∧ ∀ c ∈ l, smallC c := by
  rcases hs with ⟨_, rfl⟩ | ⟨el, sp, rfl, he, hall⟩
  · simp
  · have h1 := slice_len Tryz.underlying49 hw
    rw [show Tryz.prog.bytesOf 48 = 40 by kernel_rfl] at h1
    refine ⟨by omega, fun s hs => ?_⟩
    obtain ⟨i, hi, rfl⟩ := List.getElem_of_mem hs
    obtain ⟨d', h2, y, rfl⟩ := hall i hi
    have hm : ∀ n, n ∈ (DataW.agg [y, .lit (.string l[i].key.data.toList), .lit (.string l[i].val.data.toList)]).weights Tryz.prog 48 → n ≤ reachBytes := fun n hn => hw n (weights_el Tryz.underlying49 h2 hn)
    have a := hm l[i].key.data.toList.length (by simp [DataW.weights, DataW.weightsEach, Tryz.underlying48])
    have b := hm l[i].val.data.toList.length (by simp [DataW.weights, DataW.weightsEach, Tryz.underlying48])
    rw [show reachBytes = 140737488351232 from rfl] at a b
    have e : ∀ k : K, k.data.toList.length = k.size := fun k => by simp
    rw [e] at a b
    exact ⟨by omega, by omega⟩
set_option maxRecDepth 100000 in
theorem SizedL.lenS {H : Type} {d : DataW H} {l : List (K × K)} (hs : SizedL PairD d l) (hw : ∀ n ∈ d.weights Tryz.prog 50, n ≤ reachBytes) : l.length < 4611686018427387904 ∧ ∀ s ∈ l, s.1.size < 4611686018427387904 ∧ s.2.size < 4611686018427387904 := by
  rcases hs with ⟨_, rfl⟩ | ⟨el, sp, rfl, he, hall⟩
  · simp
  · have h1 := slice_len Tryz.underlying50 hw
    rw [show Tryz.prog.bytesOf 29 = 32 by kernel_rfl] at h1
    refine ⟨by omega, fun s hs => ?_⟩
    obtain ⟨i, hi, rfl⟩ := List.getElem_of_mem hs
    obtain ⟨d', h2, h3⟩ := hall i hi
    unfold PairD at h3
    subst h3
    have hm : ∀ n, n ∈ (DataW.agg [.lit (.string l[i].1.data.toList), .lit (.string l[i].2.data.toList)]).weights Tryz.prog 29 → n ≤ reachBytes := fun n hn => hw n (weights_el Tryz.underlying50 h2 hn)
    have a := hm l[i].1.data.toList.length (by simp [DataW.weights, DataW.weightsEach, Tryz.underlying29])
    have b := hm l[i].2.data.toList.length (by simp [DataW.weights, DataW.weightsEach, Tryz.underlying29])
    rw [show reachBytes = 140737488351232 from rfl] at a b
    have e : ∀ k : K, k.data.toList.length = k.size := fun k => by simp
    rw [e] at a b
    exact ⟨by omega, by omega⟩
/-- what is known of a transaction's data -/
def TxD {H : Type} (W : World) (x : TxV) (d : DataW H) : Prop := RdP W W.heap.size x.v1 x.t.reads ∧ RdC W W.heap.size x.v2 x.t.chgs ∧ I64 x.t.read ∧ ∃ y0 y1 y2, d = .agg [y0, y1, y2] ∧ SizedL PairD y1 x.t.reads ∧ SizedL ChgD y2 x.t.chgs
section
variable {H : Type} {enc : TypeId × Value → H} {W : World}
set_option maxRecDepth 100000 in
theorem spans_of_slice {v : Value} {d : DataW H} {p : List MemPlace} (hv : ∃ a len cap, v = .slice a len cap) (h : DataW.Trod enc Tryz.prog W 0 (fun _ => true) true 50 v d p) : ∃ l, RdP W W.heap.size v l ∧ SizedL PairD d l :=
  haveI : Inhabited (K × K) := ⟨(⟨#[]⟩, ⟨#[]⟩)⟩
  open_rowsF (by decide) cellsS_len Tryz.underlying50 (by kernel_rfl) _ (fun _ _ _ h => span_of_cells h) hv h
set_option maxRecDepth 100000 in
theorem chgs_of_slice {v : Value} {d : DataW H} {p : List MemPlace} (hv : ∃ a len cap, v = .slice a len cap) (h : DataW.Trod enc Tryz.prog W 0 (fun _ => true) true 49 v d p) : ∃ l, RdC W W.heap.size v l ∧ SizedL ChgD d l :=
  haveI : Inhabited Chg := ⟨⟨0, ⟨#[]⟩, ⟨#[]⟩⟩⟩
  open_rowsF (by decide) encC_len Tryz.underlying49 (by kernel_rfl) _ (fun _ _ _ h => chg_of_cells h) hv h
set_option maxRecDepth 100000 in
theorem tx_of_cells {fuel : Nat} {cs : List Value} {x : DataW H × List MemPlace} (h : DataW.trod enc Tryz.prog W 0 (fun _ => true) true fuel 52 cs = some x) : ∃ a : TxV, cs = encTx a ∧ TxD W a x.1 := by
  obtain ⟨y0, y1, y2, n, hx, hlen, h0, h1, h2⟩ := trod_struct3 Tryz.underlying52 h
  rw [show Tryz.prog.cellsOf 52 = 3 by kernel_rfl] at hlen
  match cs, hlen with
  | [u, v, t], _ =>
    have c3 : Tryz.prog.cellsOf 3 = 1 := by kernel_rfl
    have cs1 : Tryz.prog.cellsOf 50 = 1 := by kernel_rfl
    have cc1 : Tryz.prog.cellsOf 49 = 1 := by kernel_rfl
    simp [c3, cs1, cc1] at h0 h1 h2
    obtain ⟨i0, e0, _, w0⟩ := DataW.trod_int Tryz.underlying3 h0
    simp at e0
    obtain ⟨hs1, ht1⟩ := slice_of Tryz.underlying50 h1
    obtain ⟨hs2, ht2⟩ := slice_of Tryz.underlying49 h2
    obtain ⟨l1, hr1, hz1⟩ := spans_of_slice hs1 ht1
    obtain ⟨l2, hr2, hz2⟩ := chgs_of_slice hs2 ht2
    exact ⟨⟨⟨i0, l1, l2⟩, v, t⟩, by rw [e0]; rfl, hr1, hr2, int_of_wf w0, y0.1, y1.1, y2.1, by rw [hx], hz1, hz2⟩
set_option maxRecDepth 100000 in
theorem TxD.fit {x : TxV} {d : DataW H} (h : TxD W x d) (hw : ∀ n ∈ d.weights Tryz.prog 52, n ≤ reachBytes) : fitT x.t := by
  obtain ⟨_, _, _, y0, y1, y2, rfl, hz1, hz2⟩ := h
  have q1 := hz1.lenS (fun n hn => hw n (by simp only [DataW.weights, Tryz.underlying52, List.map_cons, List.map_nil, DataW.weightsEach, List.mem_append]; simp only [hn, true_or, or_true]))
  have q2 := hz2.lenC (fun n hn => hw n (by simp only [DataW.weights, Tryz.underlying52, List.map_cons, List.map_nil, DataW.weightsEach, List.mem_append]; simp only [hn, true_or, or_true]))
  exact ⟨q1.1, q1.2, q2.1, q2.2⟩
set_option maxRecDepth 100000 in
theorem txs_of_slice {v : Value} {d : DataW H} {p : List MemPlace} (hv : ∃ a len cap, v = .slice a len cap) (h : DataW.Trod enc Tryz.prog W 0 (fun _ => true) true 30 v d p) : ∃ l, Rd encTx 3 W W.heap.size v l ∧ SizedL (TxD W) d l :=
  haveI : Inhabited TxV := ⟨⟨zeroT, .bool false, .bool false⟩⟩
  open_rowsF (e2 := encTx) (k := 3) (by decide) encTx_len Tryz.underlying30 (by kernel_rfl) (TxD W) (fun _ _ _ h => tx_of_cells h) hv h
set_option maxRecDepth 100000 in
theorem tx_ok {v : Value} {d : DataW H} {l : List TxV} (hr : Rd encTx 3 W W.heap.size v l) (hz : SizedL (TxD W) d l) (hw : ∀ n ∈ d.weights Tryz.prog 30, n ≤ reachBytes) : TxOk W v l := by
  have hall : ∀ x ∈ l, RdP W W.heap.size x.v1 x.t.reads ∧ RdC W W.heap.size x.v2 x.t.chgs ∧ I64 x.t.read ∧ fitT x.t := by
    rcases hz with ⟨_, rfl⟩ | ⟨el, sp, rfl, he, hall⟩
    · simp
    · intro s hs
      obtain ⟨i, hi, rfl⟩ := List.getElem_of_mem hs
      obtain ⟨d', h1, h2⟩ := hall i hi
      exact ⟨h2.1, h2.2.1, h2.2.2.1, h2.fit fun n hn => hw n (weights_el Tryz.underlying30 h1 hn)⟩
  exact ⟨⟨RdG.of hr (fun _ _ h => h), fun x hx => ⟨RdG.of (hall x hx).1 (fun _ _ h => h), RdG.of (hall x hx).2.1 (fun _ _ h => h)⟩⟩, fun x hx => (hall x hx).2.2.2, fun x hx => (hall x hx).2.2.1⟩
def MActD {H : Type} (W : World) (a : MAct) (d : DataW H) : Prop := Rd encTx 3 W W.heap.size a.v a.ts ∧ I64 a.ver ∧ ∃ y0 y1 y2 y3, d = .agg [y0, y1, y2, y3] ∧ SizedL (TxD W) y3 a.ts
set_option maxRecDepth 100000 in
theorem mact_of_cells {fuel : Nat} {cs : List Value} {x : DataW H × List MemPlace} (h : DataW.trod enc Tryz.prog W 0 (fun _ => true) true fuel 32 cs = some x) : ∃ a : MAct, cs = encMA a ∧ MActD W a x.1 := by
  obtain ⟨xs, n, _, hx, hl, hlen, hff⟩ := DataW.trod_struct Tryz.underlying32 h
  rw [show Tryz.prog.cellsOf 32 = 5 by kernel_rfl] at hl
  match cs, hl, xs, hlen, hff, hx with
  | [c0, c1, c2, c3, c4], _, [y0, y1, y2, y3], _, hff, hx =>
    have k3 : Tryz.prog.cellsOf 3 = 1 := by kernel_rfl
    have k9 : Tryz.prog.cellsOf 9 = 1 := by kernel_rfl
    have ks : Tryz.prog.cellsOf 29 = 2 := by kernel_rfl
    have kc : Tryz.prog.cellsOf 30 = 1 := by kernel_rfl
    have g0 := hff 0 _ rfl
    have g1 := hff 1 _ rfl
    have g2 := hff 2 _ rfl
    have g3 := hff 3 _ rfl
    simp [k3, k9, ks, kc] at g0 g1 g2 g3
    obtain ⟨i0, e0, _, w0⟩ := DataW.trod_int Tryz.underlying3 g0
    obtain ⟨i1, e1, _, w1⟩ := DataW.trod_int Tryz.underlying3 g1
    obtain ⟨z0, z1, n4, hx4, hlen4, h40, h41⟩ := trod_struct2 Tryz.underlying29 g2
    simp [k9] at h40 h41
    obtain ⟨sa, ea, xa, _⟩ := DataW.trod_string Tryz.underlying9 h40
    obtain ⟨sb, eb, xb, _⟩ := DataW.trod_string Tryz.underlying9 h41
    obtain ⟨hv, ht⟩ := slice_of Tryz.underlying30 g3
    obtain ⟨l, hr, hz⟩ := txs_of_slice hv ht
    simp at e0 e1 ea eb
    refine ⟨⟨i0, i1, (sa, sb), c4, l⟩, ?_, hr, int_of_wf w1, y0.1, y1.1, y2.1, y3.1, ?_, hz⟩
    · rw [e0, e1, ea, eb]; rfl
    · rw [hx]
      simp
end
section
variable {H : Type} {enc : TypeId × Value → H} {W : World} {base : Nat} {v : Value} {d : DataW H} {p : List MemPlace}
set_option maxRecDepth 100000 in
theorem open_txs (hv : Value.okWide Tryz.prog W .any base 30 v) (h : DataW.Trod enc Tryz.prog W 0 (fun _ => true) true 30 v d p) (hw : ∀ n ∈ d.weights Tryz.prog 30, n ≤ reachBytes) : ∃ l, TxOk W v l := by
  obtain ⟨l, hr, hz⟩ := txs_of_slice (by obtain ⟨a, len, cap, rfl⟩ := okWide_slice Tryz.underlying30 hv; exact ⟨a, len, cap, rfl⟩) h
  exact ⟨l, tx_ok hr hz hw⟩
set_option maxRecDepth 100000 in
theorem open_slice_any (hv : Value.okWide Tryz.prog W .any base 30 v) : ∃ a len cap, v = .slice a len cap := by
  obtain ⟨a, len, cap, rfl⟩ := okWide_slice Tryz.underlying30 hv
  exact ⟨a, len, cap, rfl⟩
set_option maxRecDepth 100000 in
theorem open_mchgs (hv : Value.okWide Tryz.prog W .any base 49 v) (h : DataW.Trod enc Tryz.prog W 0 (fun _ => true) true 49 v d p) (hw : ∀ n ∈ d.weights Tryz.prog 49, n ≤ reachBytes) : ∃ l, TxIn W ⟨0, [], l⟩ (.slice none 0 0) v := by
  obtain ⟨l, hr, hz⟩ := chgs_of_slice (by obtain ⟨a, len, cap, rfl⟩ := okWide_slice Tryz.underlying49 hv; exact ⟨a, len, cap, rfl⟩) h
  have q := hz.lenC hw
  exact ⟨l, ⟨none, 0, rfl, Nat.zero_le _, fun i hi => by simp at hi⟩, hr, ⟨by simp, by simp, q.1, q.2⟩, by show I64 0; unfold I64; omega⟩
set_option maxRecDepth 100000 in
theorem open_mtxn (hv : Value.okWide Tryz.prog W .any base 52 v) (h : DataW.Trod enc Tryz.prog W 0 (fun _ => true) true 52 v d p) (hw : ∀ n ∈ d.weights Tryz.prog 52, n ≤ reachBytes) :
    ∃ (t : Txn) (x1 x2 : Value), v = tval t x1 x2 ∧ TxIn W t x1 x2 := by
  obtain ⟨v0, v1, v2, y0, y1, y2, n, rfl, rfl, _, h0, h1, h2⟩ := open_agg3 Tryz.underlying52 (by kernel_rfl) (by kernel_rfl) hv h
  obtain ⟨i0, e0, _, g0⟩ := DataW.trod_int Tryz.underlying3 h0
  simp at e0
  obtain ⟨hs1, ht1⟩ := slice_of Tryz.underlying50 h1
  obtain ⟨hs2, ht2⟩ := slice_of Tryz.underlying49 h2
  obtain ⟨l1, hr1, hz1⟩ := spans_of_slice hs1 ht1
  obtain ⟨l2, hr2, hz2⟩ := chgs_of_slice hs2 ht2
  have q1 := hz1.lenS (fun n hn => hw n (by simp only [DataW.weights, Tryz.underlying52, List.map_cons, List.map_nil, DataW.weightsEach, List.mem_append]; simp only [hn, true_or, or_true]))
  have q2 := hz2.lenC (fun n hn => hw n (by simp only [DataW.weights, Tryz.underlying52, List.map_cons, List.map_nil, DataW.weightsEach, List.mem_append]; simp only [hn, true_or, or_true]))
  exact ⟨⟨i0, l1, l2⟩, v1, v2, by rw [e0]; rfl, hr1, hr2, ⟨q1.1, q1.2, q2.1, q2.2⟩, int_of_wf g0⟩
set_option maxRecDepth 100000 in
theorem open_chg (hv : Value.okWide Tryz.prog W .any base 48 v) (h : DataW.Trod enc Tryz.prog W 0 (fun _ => true) true 48 v d p) (hw : ∀ n ∈ d.weights Tryz.prog 48, n ≤ reachBytes) :
    ∃ c : Chg, v = cval c ∧ smallC c := by
  obtain ⟨a0, b0, c0, y0, z0, x0, m0, rfl, rfl, rfl, hy, hz, hx⟩ := open_agg3 Tryz.underlying48 (by kernel_rfl) (by kernel_rfl) hv h
  obtain ⟨k, ek, xk, _⟩ := DataW.trod_int Tryz.underlying3 hy
  obtain ⟨a, ea, xa, _⟩ := DataW.trod_string Tryz.underlying9 hz
  obtain ⟨b, eb, xb, _⟩ := DataW.trod_string Tryz.underlying9 hx
  simp at ek ea eb
  subst ek ea eb
  rw [xk, xa, xb] at hw
  have h1 := hw a.data.toList.length (by simp [DataW.weights, DataW.weightsEach, Tryz.underlying48])
  have h2 := hw b.data.toList.length (by simp [DataW.weights, DataW.weightsEach, Tryz.underlying48])
  rw [show reachBytes = 140737488351232 from rfl] at h1 h2
  have e : ∀ k : K, k.data.toList.length = k.size := fun k => by simp
  rw [e] at h1 h2
  exact ⟨⟨k, a, b⟩, rfl, by simp only; omega, by simp only; omega⟩
set_option maxRecDepth 100000 in
theorem open_span (hv : Value.okWide Tryz.prog W .any base 29 v) (h : DataW.Trod enc Tryz.prog W 0 (fun _ => true) true 29 v d p) (hw : ∀ n ∈ d.weights Tryz.prog 29, n ≤ reachBytes) :
    ∃ s : K × K, v = .agg #[.string s.1, .string s.2] ∧ s.1.size < 4611686018427387904 ∧ s.2.size < 4611686018427387904 := by
  obtain ⟨a0, b0, y0, z0, m0, rfl, rfl, rfl, hy, hz⟩ := open_agg2 Tryz.underlying29 (by kernel_rfl) (by kernel_rfl) hv h
  obtain ⟨a, ea, xa, _⟩ := DataW.trod_string Tryz.underlying9 hy
  obtain ⟨b, eb, xb, _⟩ := DataW.trod_string Tryz.underlying9 hz
  simp at ea eb
  subst ea eb
  rw [xa, xb] at hw
  have h1 := hw a.data.toList.length (by simp [DataW.weights, DataW.weightsEach, Tryz.underlying29])
  have h2 := hw b.data.toList.length (by simp [DataW.weights, DataW.weightsEach, Tryz.underlying29])
  rw [show reachBytes = 140737488351232 from rfl] at h1 h2
  have e : ∀ k : K, k.data.toList.length = k.size := fun k => by simp
  rw [e] at h1 h2
  exact ⟨(a, b), rfl, by simp only; omega, by simp only; omega⟩
set_option maxRecDepth 100000 in
theorem open_macts (hv : Value.okWide Tryz.prog W .any base 22 v) (h : DataW.Trod enc Tryz.prog W 0 (fun _ => true) true 22 v d p) (hw : ∀ n ∈ d.weights Tryz.prog 22, n ≤ reachBytes) :
    ∃ l : List MAct, Rd encMA 5 W W.heap.size v l ∧ l.length ≤ 140737488351232 ∧ ∀ a ∈ l, I64 a.ver ∧ TxOk W a.v a.ts := by
  haveI : Inhabited MAct := ⟨⟨0, 0, (⟨#[]⟩, ⟨#[]⟩), .bool false, []⟩⟩
  obtain ⟨l, hr, hz⟩ := open_rowsF (H := H) (e2 := encMA) (k := 5) (by decide) encMA_len Tryz.underlying22 (by kernel_rfl) (MActD W) (fun _ _ _ h => mact_of_cells h) (by obtain ⟨a, len, cap, rfl⟩ := okWide_slice Tryz.underlying22 hv; exact ⟨a, len, cap, rfl⟩) h
  refine ⟨l, hr, ?_⟩
  rcases hz with ⟨_, rfl⟩ | ⟨el, sp, rfl, he, hall⟩
  · simp
  · have h1 := slice_len Tryz.underlying22 hw
    rw [show Tryz.prog.bytesOf 32 = 72 by kernel_rfl] at h1
    refine ⟨by omega, fun s hs => ?_⟩
    obtain ⟨i, hi, rfl⟩ := List.getElem_of_mem hs
    obtain ⟨d', h2, h3, h4, y0, y1, y2, y3, rfl, h5⟩ := hall i hi
    have hm := fun n hn => hw n (weights_el Tryz.underlying22 h2 hn)
    refine ⟨h4, tx_ok h3 h5 fun n hn => hm n ?_⟩
    simp only [DataW.weights, Tryz.underlying32, List.map_cons, List.map_nil, DataW.weightsEach, List.mem_append]
    simp only [hn, true_or, or_true]
end
end Go.Proofs.YtcmpbhcldaogiaaGreat

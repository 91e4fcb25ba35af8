/- PastKeys's walk. -/
import Derived.Test.YtpfhkijnaiopoaaPTwo
import Derived.Test.YtpfhkijnaiopoaaPRi
import Derived.Deep.CutBlock
import Derived.Deep.DeepCutAuto
import Derived.Deep.Cut
import Derived.Deep.CutRange
namespace Go.Proofs.Ytpfhkijnaiopoaa
open Go.RowKit
attribute [local go_sem] less_eq same_eq le_eq ge_eq gt_eq

/-- what PastKeys's Past holds behind its Add -/
def kp (ps : Prs) (cs : List Chg) : Pa := ⟨3, 7, [(3, ps), (7, applyP ps cs)]⟩
theorem kp_add {ps : Prs} {cs : List Chg} (h : allAns cs = 0) : (Pa.from_ 3 ps).add 7 cs = (0, kp ps cs) := by rw [add_good (by simp [Pa.from_]) h]; rfl
theorem kp_rises {ps : Prs} {cs : List Chg} (h : Rises ps) (v : Int) : Rises ((kp ps cs).at_ v) := rises_atL (fun x hx => by
  simp only [kp, List.mem_cons, List.not_mem_nil, or_false] at hx
  rcases hx with rfl | rfl
  · exact h
  · exact rises_applyP h cs) v
theorem kp_len (ps : Prs) (cs : List Chg) (v : Int) : ((kp ps cs).at_ v).length ≤ ps.length + cs.length := Fit.atL (fun x hx => by
  simp only [kp, List.mem_cons, List.not_mem_nil, or_false] at hx
  rcases hx with rfl | rfl
  · simp
  · exact applyP_len ps cs) v
theorem kp_small {ps : Prs} {cs : List Chg} (h1 : ∀ p ∈ ps, smallS p.1 ∧ smallS p.2) (h2 : ∀ c ∈ cs, smallC c) (v : Int) : ∀ p ∈ (kp ps cs).at_ v, smallS p.1 := atL_all (R := fun p => smallS p.1) (fun x hx => by
  simp only [kp, List.mem_cons, List.not_mem_nil, or_false] at hx
  rcases hx with rfl | rfl
  · exact fun p hp => (h1 p hp).1
  · exact all_applyP (R := fun p => smallS p.1) (fun p hp => (h1 p hp).1) fun c hc => (h2 c hc).1) v

set_option maxHeartbeats 8000000 in
set_option maxRecDepth 100000 in
theorem pastKeys_walk (ps : Prs) (cs : List Chg) (s : K × K) (key : K) (vp vc : Value) (w : World) (hp : RdP w w.heap.size vp ps) (hps : ∀ p ∈ ps, smallS p.1 ∧ smallS p.2) (hc : RdC w w.heap.size vc cs) (hsm : ∀ c ∈ cs, smallC c) (hs1 : smallS s.1) (hs2 : smallS s.2) (hkey : smallS key) (hn : ps.length + cs.length ≤ many) :
    Calls Try.prog 5 #[vp, vc, spv s, .string key] w fun e w' => e = .returned (.bool true) ∧ Below w.heap.size w w' := by
  obtain ⟨s1, s2⟩ := s
  unfold spv
  simp only at hs1 hs2 ⊢
  obtain ⟨wa, hwa⟩ : ∃ wa, wa = w.alloc (.cells #[.string s1, .string s2] 33) := ⟨_, rfl⟩
  have hB0 : Below w.heap.size w wa := by rw [hwa]; exact (Below.refl _ w).alloc (Nat.le_refl _) _
  have hW0 : Whole wa w.heap.size 33 [.string s1, .string s2] := by rw [hwa]; exact Whole.fresh w _ [_, _]
  have hpa : RdP wa wa.heap.size vp ps := (hp.below hB0 (Nat.le_refl _)).mono hB0.size
  have HW := Lib.hid hwa
  have HBW := Lib.hid hB0
  have HWS := Lib.hid hW0
  have HNN := Lib.hid hn
  have HRC := Lib.hid ((hc.below hB0 (Nat.le_refl _)).mono hB0.size)
  have HSM := Lib.hid hsm
  have HKEY := Lib.hid hkey
  by_cases hso : soundP ps = true
  rotate_left
  · have hso' : soundP ps = false := by simpa using hso
    have HN := Lib.hid (pfrom_bad 3 ps vp wa (by unfold I64; omega) hpa (fun p h => hps p h) (by omega) (.inr hso'))
    rw [if_neg (by decide)] at HN
    clear hwa hB0 hW0 hn hc hsm hkey hp hpa hps hso hso'
    go_enter Try.func5, Try.ntmps5
    go_wp2_with fail
    rw [← HW.out]
    refine HN.out.mono ?_
    rintro e w0 ⟨rfl, hb⟩
    have HB0 := Lib.hid hb
    have HC := Lib.hid (awake_any w0)
    clear hb HN
    go_wp2_with fail
    refine HC.out.mono ?_
    rintro e w1 ⟨rfl, hb⟩
    have HB1 := Lib.hid (HB0.out.trans (hb.mono HB0.out.size))
    clear hb HC
    have HC := Lib.hid (awake_any w1)
    go_wp2_with fail
    refine HC.out.mono ?_
    rintro e w2 ⟨rfl, hb⟩
    have HB2 := Lib.hid (HB1.out.trans (hb.mono HB1.out.size))
    clear hb HC
    go_wp2_with fail
    go_ret
    exact ⟨rfl, HBW.out.trans (HB2.out.mono HBW.out.size)⟩
  have hri := (soundP_spec hso).1
  have HN := Lib.hid (pfrom_any 3 ps vp wa (by unfold I64; omega) (by omega) hpa hso (by omega))
  have HRI := Lib.hid hri
  have HPS := Lib.hid hps
  clear hwa hB0 hW0 hn hc hsm hkey hp hpa hps hso hri
  go_enter Try.func5, Try.ntmps5
  go_wp2_with fail
  rw [← HW.out]
  refine HN.out.mono ?_
  rintro e w0 ⟨q1, Ga, rfl, hka, hba⟩
  have HT0 := Lib.hid hka
  have HB0 := Lib.hid hba
  clear hka hba HN
  have HC := Lib.hid (awake_any w0)
  go_wp2_with fail
  refine HC.out.mono ?_
  rintro e w1 ⟨rfl, hb⟩
  have HT1 := Lib.hid (HT0.out.same hb)
  have HB1 := Lib.hid (HB0.out.trans (hb.mono HB0.out.size))
  clear hb HC HT0 HB0
  have hc := padd_any wa.heap.size q1 _ _ _ 7 cs _ w1 HT1.out (by unfold I64; omega) (HT1.out.came (Nat.le_refl _) (HRC.out.below HB1.out (Nat.le_refl _))) HSM.out HNN.out
  by_cases hgd : allAns cs = 0
  rotate_left
  · obtain ⟨z, hz⟩ : ∃ z, z = allAns cs := ⟨_, rfl⟩
    rw [add_bad (by simp [Pa.from_]) hgd, ← hz] at hc
    rw [← hz] at hgd
    have HC := Lib.hid hc
    clear hc hz
    go_wp2_with fail
    refine HC.out.mono ?_
    rintro e w2 ⟨rfl, G3, hk, hG, hm⟩
    have HB2 := Lib.hid (HB1.out.trans (pv_below HT1.out hm))
    clear hk hG hm HC
    have HC := Lib.hid (awake_any w2)
    go_wp2_with fail
    refine HC.out.mono ?_
    rintro e w3 ⟨rfl, hb⟩
    have HB3 := Lib.hid (HB2.out.trans (hb.mono HB2.out.size))
    clear hb HC
    go_wp2_with fail
    go_ret
    exact ⟨rfl, HBW.out.trans (HB3.out.mono HBW.out.size)⟩
  rw [kp_add hgd] at hc
  have HC := Lib.hid hc
  clear hc hgd
  go_wp2_with fail
  refine HC.out.mono ?_
  rintro e w2 ⟨rfl, G, hk, hG, hm⟩
  have HT2 := Lib.hid hk
  have HB2 := Lib.hid (HB1.out.trans (pv_below HT1.out hm))
  clear hk hG hm HC HT1 HB1
  go_wp2_with fail
  go_loopw [11] (fun iv wr => ∃ z : Nat, 3 ≤ z ∧ z ≤ 8 ∧ iv = .int .i64 (z : Int) ∧ PaAt wr wa.heap.size q1 G (ps.length + cs.length) (kp ps cs) ∧ Below wa.heap.size wa wr) (fun iv _ => 8 - (intOf iv).toNat)
  case atStart => exact ⟨3, by omega, by omega, rfl, HT2.out, HB2.out⟩
  case round =>
    obtain ⟨z, hz3, hz8, rfl, ht, hb⟩ := hrel
    have HT3 := Lib.hid ht
    have HB3 := Lib.hid hb
    have hz0 : (0 : Int) ≤ (z : Int) := by omega
    clear ht hb HT2 HB2
    by_cases hz7 : z ≤ 7
    rotate_left
    · have h1 : ¬ (z : Int) ≤ 7 := by omega
      go_wp2_with fail
      go_ret
      exact ⟨rfl, HBW.out.trans (HB3.out.mono HBW.out.size)⟩
    have h1 : (z : Int) ≤ 7 := by omega
    have h2 : IntKind.i64.wrap ((z : Int) + 1) = ((z + 1 : Nat) : Int) := by rw [IntKind.wrap_i64]; omega
    obtain ⟨S, hS⟩ : ∃ S, S = (kp ps cs).at_ (z : Int) := ⟨_, rfl⟩
    obtain ⟨Q, hQ⟩ : ∃ Q, Q = S.filter (fun x => hasB (s1, s2) x.1) := ⟨_, rfl⟩
    have hSL : S.length ≤ many := by rw [hS]; exact Nat.le_trans (kp_len ps cs _) HNN.out
    have hQL : Q.length ≤ many := by rw [hQ]; exact Nat.le_trans (List.length_filter_le _ _) hSL
    have hSR : Rises S := by rw [hS]; exact kp_rises HRI.out _
    have heq := list_good (p := kp ps cs) (s := (s1, s2)) (v := (z : Int)) (most := 1073741824) (by simp only [kp]; omega) (by simp only [kp]; omega) (by decide)
    rw [← hS, ← hQ, List.take_of_length_le (by have : many = 3000000 := rfl; rw [show (1073741824 : Int).toNat = 1073741824 from rfl]; omega)] at heq
    have hget := fun k => get_good (p := kp ps cs) (k := k) (v := (z : Int)) (by simp only [kp]; omega) (by simp only [kp]; omega)
    rw [← hS] at hget
    obtain ⟨⟨V, OK⟩, hV⟩ : ∃ X, X = valOf S key := ⟨_, rfl⟩
    have HFC := Lib.hid (found_cases hSR (s1, s2) key V OK hV.symm)
    have HGK := Lib.hid (show (kp ps cs).get key (z : Int) = ((V, OK), 0) by rw [hget, ← hV])
    have HGX := Lib.hid (show ∀ x ∈ Q, (kp ps cs).get x.1 (z : Int) = ((x.2, true), 0) ∧ hasB (s1, s2) x.1 = true ∧ smallS x.1 from fun x hx => by
      rw [hQ] at hx
      obtain ⟨h1, h2⟩ := List.mem_filter.1 hx
      exact ⟨by rw [hget, valOf_mem hSR h1], h2, by rw [hS] at h1; exact kp_small HPS.out HSM.out _ x h1⟩)
    have HQR := Lib.hid (show Rises Q by rw [hQ]; exact List.Pairwise.filter _ hSR)
    rw [← hQ] at HFC
    have HQL := Lib.hid hQL
    have HEQ := Lib.hid heq
    have HWX3 := Lib.hid (HWS.out.below HB3.out HWS.out.size)
    clear hS hQ hSL hQL hSR heq hget hV
    have d0 := HWX3.out.cell 0 _ rfl
    have d1 := HWX3.out.cell 1 _ rfl
    have hc := plist_any wa.heap.size q1 _ _ _ (s1, s2) (z : Int) 1073741824 wr HT3.out (by unfold I64; omega) (by unfold I64; omega) hs1 hs2
    rw [HEQ.out] at hc
    unfold spv at hc
    simp only at hc
    have HC := Lib.hid hc
    clear hc
    go_wp2_with fail
    refine HC.out.mono ?_
    rintro e w4 ⟨AQ, cQ, rfl, hrx, hbx⟩
    have HT4 := Lib.hid (HT3.out.same hbx)
    have HB4 := Lib.hid (HB3.out.trans (hbx.mono HB3.out.size))
    have HR4 := Lib.hid hrx.rd
    clear hrx hbx HC d0 d1 HT3 HB3 HWX3
    have hc := pget_any wa.heap.size q1 _ _ _ key (z : Int) w4 HT4.out (by unfold I64; omega) HKEY.out
    rw [HGK.out] at hc
    have HC := Lib.hid hc
    clear hc
    go_wp2_with fail
    refine HC.out.mono ?_
    rintro e w5 ⟨rfl, hb5⟩
    have HT5 := Lib.hid (HT4.out.same hb5)
    have HB5 := Lib.hid (HB4.out.trans (hb5.mono HB4.out.size))
    have HR5 := Lib.hid (HR4.out.next hb5)
    clear hb5 HC HT4 HB4 HR4
    go_wp2_with fail
    go_loopw [17, 18] (fun nv iv wr => ∃ i : Nat, i ≤ Q.length ∧ nv = .int .i64 (((Q.take i).countP (isKV key V) : Nat) : Int) ∧ iv = .int .i64 (i : Int) ∧ PaAt wr wa.heap.size q1 G (ps.length + cs.length) (kp ps cs) ∧ RdP wr wr.heap.size (.slice AQ Q.length cQ) Q ∧ Below wa.heap.size wa wr) (fun _ iv _ => Q.length - (intOf iv).toNat)
    case atStart => exact ⟨0, Nat.zero_le _, rfl, rfl, HT5.out, HR5.out, HB5.out⟩
    case round =>
      obtain ⟨i, hi, rfl, rfl, ht, hr, hb⟩ := hrel
      have HT5b := Lib.hid ht
      have HB5b := Lib.hid hb
      have HR5b := Lib.hid hr
      clear ht hb hr HT5 HB5 HR5
      have hi0 : (0 : Int) ≤ (i : Int) := by omega
      by_cases hil : i < Q.length
      · have g1 : (i : Int) < (Q.length : Int) := by omega
        have g2 : IntKind.i64.wrap ((i : Int) + 1) = ((i + 1 : Nat) : Int) := by have := HQL.out; have : many = 3000000 := rfl; rw [IntKind.wrap_i64]; omega
        obtain ⟨A', c', ee, -, hcell⟩ := RdP.at HR5b.out
        injection ee with e1 _ e3
        subst e1 e3
        obtain ⟨ba, o, rfl, hbl, -⟩ := hcell i hil
        clear hcell
        have HCS := Lib.hid (show ∀ W, RdP W W.heap.size (.slice (some ⟨ba, o, none⟩) Q.length cQ) Q → ∀ j (hj : j < Q.length), W.cell? ⟨ba, o + j * 2, none⟩ = some (.string Q[j].1) ∧ W.cell? ⟨ba, o + j * 2 + 1, none⟩ = some (.string Q[j].2) from fun W hW j hj => by
          obtain ⟨A', c', ee, -, hcell⟩ := RdP.at hW
          injection ee with e1 _ e3
          obtain ⟨b2, o2, e4, -, k0, k1⟩ := hcell j hj
          rw [← e1] at e4
          injection e4 with e4
          injection e4 with e4 e5
          subst e4 e5
          exact ⟨k0, k1⟩)
        have hcnt := count_step key V Q i hil
        have hcb : (Q.take i).countP (isKV key V) ≤ i := by have := List.countP_le_length (p := isKV key V) (l := Q.take i); rw [List.length_take] at this; omega
        obtain ⟨N1, hN1⟩ : ∃ N1, N1 = (Q.take (i + 1)).countP (isKV key V) := ⟨_, rfl⟩
        rw [← hN1] at hcnt
        obtain ⟨k0, k1⟩ := HCS.out wr HR5b.out i hil
        obtain ⟨hgx, hhx⟩ := HGX.out Q[i] (List.getElem_mem hil)
        have HLT := Lib.hid (show ∀ j (_ : j < Q.length), j < i → decide (Q[i].1 ≤ Q[j].1) = false from fun j hj hji => by
          have := HQR.out.lt hil hji
          rw [decide_eq_false_iff_not]
          grind)
        have HC0 := Lib.hid (show ∀ W, RdP W W.heap.size (.slice (some ⟨ba, o, none⟩) Q.length cQ) Q → W.cell? ⟨ba, o + i * 2, none⟩ = some (.string Q[i].1) ∧ W.cell? ⟨ba, o + i * 2 + 1, none⟩ = some (.string Q[i].2) from fun W hW => HCS.out W hW i hil)
        generalize (Q.take i).countP (isKV key V) = N at hcnt hcb ⊢
        generalize hx : Q[i] = x at hcnt k0 k1 hgx hhx HLT HC0
        obtain ⟨xk, xv⟩ := x
        simp only at k0 k1 hgx hhx HLT HC0
        have g3 : IntKind.i64.wrap ((N : Int) + 1) = ((N + 1 : Nat) : Int) := by have := HQL.out; have : many = 3000000 := rfl; rw [IntKind.wrap_i64]; omega
        have HN1 := Lib.hid hN1
        have HGX1 := Lib.hid hgx
        have HHX1 := Lib.hid hhx
        clear hN1 hgx hhx hcb hx
        go_upto_region 13 with fail
        go_cut [84] (fun bv wx => bv = .bool (isKV key V (xk, xv)) ∧ wx = wr)
        case first =>
          clear hcnt
          rcases Classical.em (xk = key) with e1 | e1
          · rcases Classical.em (xv = V) with e2 | e2
            · have HCN := Lib.hid (show isKV key V (xk, xv) = true by simp [isKV, e1, e2])
              subst e1 e2
              go_wp2_with fail
              go_meet
              case rel => exact ⟨by rw [HCN.out], rfl⟩
            · have HCN := Lib.hid (show isKV key V (xk, xv) = false by simp [isKV, e2])
              subst e1
              go_wp2_with fail
              go_meet
              case rel => exact ⟨by rw [HCN.out], rfl⟩
          · have HCN := Lib.hid (show isKV key V (xk, xv) = false by simp [isKV, e1])
            go_wp2_with fail
            go_meet
            case rel => exact ⟨by rw [HCN.out], rfl⟩
        case rest =>
        obtain ⟨rfl, hwc⟩ := hcut
        subst hwc
        go_upto_if 84 with fail
        go_cut [17] (fun nv wx => nv = .int .i64 ((N1 : Nat) : Int) ∧ wx = wc)
        case first =>
          generalize isKV key V (xk, xv) = b at hcnt ⊢
          cases b
          · have HCN := Lib.hid (show N1 = N by simpa using hcnt)
            clear hcnt
            go_wp2_with fail
            go_meet
            case rel => exact ⟨by rw [HCN.out], rfl⟩
          · have HCN := Lib.hid (show N1 = N + 1 by simpa using hcnt)
            clear hcnt
            go_wp2_with fail
            go_meet
            case rel => exact ⟨by rw [HCN.out]; first | rfl | go_num, rfl⟩
        case rest =>
        obtain ⟨rfl, hwc⟩ := hcut
        subst hwc
        have HCN := Lib.hid (show (Q.take (i + 1)).countP (isKV key V) = N1 from HN1.out.symm)
        clear hcnt g3
        have hc := pget_any wa.heap.size q1 _ _ _ xk (z : Int) wc HT5b.out (by unfold I64; omega) HHX1.out.2
        rw [HGX1.out] at hc
        have HC := Lib.hid hc
        clear hc
        go_wp2_with fail
        refine HC.out.mono ?_
        rintro e w6 ⟨rfl, hb6⟩
        have HT6 := Lib.hid (HT5b.out.same hb6)
        have HB6 := Lib.hid (HB5b.out.trans (hb6.mono HB5b.out.size))
        have HR6 := Lib.hid (HR5b.out.next hb6)
        have hhs := fun W => rhas_any (s1, s2) xk W
        have hhx := HHX1.out.1
        unfold hasB at hhx
        rw [hhx] at hhs
        have HH := Lib.hid hhs
        clear hb6 HC hhs hhx k0 k1
        rcases Nat.eq_zero_or_pos i with hiz | hip
        · subst hiz
          have HCE := Lib.hid (show ∀ W, Below w6.heap.size w6 W → W.cell? ⟨ba, o, none⟩ = some (.string xk) ∧ W.cell? ⟨ba, o + 1, none⟩ = some (.string xv) ∧ W.cell? ⟨w.heap.size, 0, none⟩ = some (.string s1) ∧ W.cell? ⟨w.heap.size, 1, none⟩ = some (.string s2) from fun W hW => by
            obtain ⟨a0, a1⟩ := HC0.out W (HR6.out.next hW)
            have e1 := HWS.out.below (HB6.out.trans (hW.mono HB6.out.size)) HWS.out.size
            exact ⟨by simpa using a0, by simpa using a1, e1.cell 0 _ rfl, e1.cell 1 _ rfl⟩)
          have HBD := Lib.hid (show Below w6.heap.size w6 w6.drew from (Below.refl _ w6).drew)
          go_wp2_with fail
          refine wp_region_planB [(true, 0), (true, 1), (true, 2), (true, 3), (true, 4), (true, 5), (true, 6), (true, 7), (true, 8), (true, 9), (true, 10), (true, 11), (true, 12), (true, 13), (true, 14), (true, 15), (true, 16), (true, 17), (true, 18), (true, 19), (true, 20), (true, 21), (false, 22), (true, 23), (true, 24), (true, 25), (true, 26), (true, 27), (true, 28), (true, 29), (true, 30), (true, 31), (true, 32), (true, 33), (true, 34), (true, 35), (true, 36), (true, 37), (true, 38), (true, 39), (true, 40), (true, 41), (true, 42)] (by kernel_rfl) (by kernel_rfl) (fun _ _ d _ _ h => by cases d <;> exact h) ?_
          generalize w6.drew = wd at HBD ⊢
          repeat (first | (refine PlanB.take (v := ?_) rfl rfl ?_ ?_; rotate_left; (focus (intro W hW; obtain ⟨c0, c1, d0, d1⟩ := HCE.out W (HBD.out.trans (hW.mono HBD.out.size)); go_simp; (try with_reducible rfl); done)); (try simp only [Act.put, List.setIfInBounds_toArray, List.set_cons_zero, List.set_cons_succ])) | (refine PlanB.skip rfl rfl ?_; (try simp only [Act.put, List.setIfInBounds_toArray, List.set_cons_zero, List.set_cons_succ])))
          refine PlanB.step rfl rfl (fun Kk hKk => ?_)
          go_simp
          go_at_call 28
          refine (HH.out _).mono ?_
          rintro e w7 ⟨rfl, hb7⟩
          have HB7 := Lib.hid (HBD.out.trans (hb7.mono HBD.out.size))
          refine hKk.out _ _ hb7 ?_
          clear hKk Kk hb7 HBD
          have HBD := HB7
          clear HB7
          (try simp only [Act.put, List.setIfInBounds_toArray, List.set_cons_zero, List.set_cons_succ])
          repeat (first | (refine PlanB.take (v := ?_) rfl rfl ?_ ?_; rotate_left; (focus (intro W hW; obtain ⟨c0, c1, d0, d1⟩ := HCE.out W (HBD.out.trans (hW.mono HBD.out.size)); go_simp; (try with_reducible rfl); done)); (try simp only [Act.put, List.setIfInBounds_toArray, List.set_cons_zero, List.set_cons_succ])) | (refine PlanB.skip rfl rfl ?_; (try simp only [Act.put, List.setIfInBounds_toArray, List.set_cons_zero, List.set_cons_succ])))
          simp only [PlanB]
          have HT7 := Lib.hid (HT6.out.same HBD.out)
          have HR7 := Lib.hid (HR6.out.next HBD.out)
          have HB7 := Lib.hid (HB6.out.trans (HBD.out.mono HB6.out.size))
          clear HT6 HR6 HB6 HBD HCE
          go_wp2_with fail
          go_roundw
          case rel => exact ⟨0 + 1, by omega, by rw [HCN.out], by first | rfl | go_num, HT7.out, HR7.out, HB7.out⟩
          case measure => simp [intOf]; omega
        · obtain ⟨j, hj⟩ : ∃ j, i = j + 1 := ⟨i - 1, by omega⟩
          have hjl : j < Q.length := by omega
          have HLJ := Lib.hid (HLT.out j hjl (by omega))
          have HCJ := Lib.hid (fun W hW => (HCS.out W hW j hjl).1)
          generalize Q[j] = y at HLJ HCJ
          obtain ⟨yk, yv⟩ := y
          simp only at HLJ HCJ
          have HCE := Lib.hid (show ∀ W, Below w6.heap.size w6 W → W.cell? ⟨ba, o + i * 2, none⟩ = some (.string xk) ∧ W.cell? ⟨ba, o + i * 2 + 1, none⟩ = some (.string xv) ∧ W.cell? ⟨w.heap.size, 0, none⟩ = some (.string s1) ∧ W.cell? ⟨w.heap.size, 1, none⟩ = some (.string s2) ∧ W.cell? ⟨ba, o + j * 2, none⟩ = some (.string yk) from fun W hW => by
            obtain ⟨a0, a1⟩ := HC0.out W (HR6.out.next hW)
            have e1 := HWS.out.below (HB6.out.trans (hW.mono HB6.out.size)) HWS.out.size
            exact ⟨a0, a1, e1.cell 0 _ rfl, e1.cell 1 _ rfl, HCJ.out W (HR6.out.next hW)⟩)
          have f1 := HLJ.out
          have f2 : IntKind.i64.wrap ((i : Int) - 1) = (j : Int) := by have := HQL.out; have : many = 3000000 := rfl; rw [IntKind.wrap_i64]; omega
          have f3 : (j : Int) < (Q.length : Int) := by omega
          have f4 : (0 : Int) < (i : Int) := by omega
          have f5 : (0 : Int) ≤ (j : Int) := by omega
          clear hj
          have HBD := Lib.hid (show Below w6.heap.size w6 w6.drew from (Below.refl _ w6).drew)
          go_wp2_with fail
          refine wp_region_planB [(true, 0), (true, 1), (true, 2), (true, 3), (true, 4), (true, 5), (true, 6), (true, 7), (true, 8), (true, 9), (true, 10), (true, 11), (true, 12), (true, 13), (true, 14), (true, 15), (true, 16), (true, 17), (true, 18), (true, 19), (true, 20), (true, 21), (false, 22), (true, 23), (true, 24), (true, 25), (true, 26), (true, 27), (true, 28), (true, 29), (true, 30), (true, 31), (true, 32), (true, 33), (true, 34), (true, 35), (true, 36), (true, 37), (true, 38), (true, 39), (true, 40), (true, 41), (true, 42)] (by kernel_rfl) (by kernel_rfl) (fun _ _ d _ _ h => by cases d <;> exact h) ?_
          generalize w6.drew = wd at HBD ⊢
          repeat (first | (refine PlanB.take (v := ?_) rfl rfl ?_ ?_; rotate_left; (focus (intro W hW; obtain ⟨c0, c1, d0, d1, b0⟩ := HCE.out W (HBD.out.trans (hW.mono HBD.out.size)); go_simp; (try with_reducible rfl); done)); (try simp only [Act.put, List.setIfInBounds_toArray, List.set_cons_zero, List.set_cons_succ])) | (refine PlanB.skip rfl rfl ?_; (try simp only [Act.put, List.setIfInBounds_toArray, List.set_cons_zero, List.set_cons_succ])))
          refine PlanB.step rfl rfl (fun Kk hKk => ?_)
          go_simp
          go_at_call 28
          refine (HH.out _).mono ?_
          rintro e w7 ⟨rfl, hb7⟩
          have HB7 := Lib.hid (HBD.out.trans (hb7.mono HBD.out.size))
          refine hKk.out _ _ hb7 ?_
          clear hKk Kk hb7 HBD
          have HBD := HB7
          clear HB7
          (try simp only [Act.put, List.setIfInBounds_toArray, List.set_cons_zero, List.set_cons_succ])
          repeat (first | (refine PlanB.take (v := ?_) rfl rfl ?_ ?_; rotate_left; (focus (intro W hW; obtain ⟨c0, c1, d0, d1, b0⟩ := HCE.out W (HBD.out.trans (hW.mono HBD.out.size)); go_simp; (try with_reducible rfl); done)); (try simp only [Act.put, List.setIfInBounds_toArray, List.set_cons_zero, List.set_cons_succ])) | (refine PlanB.skip rfl rfl ?_; (try simp only [Act.put, List.setIfInBounds_toArray, List.set_cons_zero, List.set_cons_succ])))
          simp only [PlanB]
          have HT7 := Lib.hid (HT6.out.same HBD.out)
          have HR7 := Lib.hid (HR6.out.next HBD.out)
          have HB7 := Lib.hid (HB6.out.trans (HBD.out.mono HB6.out.size))
          clear HT6 HR6 HB6 HBD HCE
          go_wp2_with fail
          go_roundw
          case rel => exact ⟨i + 1, by omega, by rw [HCN.out], by first | rfl | go_num, HT7.out, HR7.out, HB7.out⟩
          case measure => simp [intOf]; omega
      · obtain rfl : i = Q.length := by omega
        have g1 : ¬ ((Q.length : Int) < (Q.length : Int)) := by omega
        rw [List.take_length]
        have hfc := HFC.out
        generalize Q.countP (isKV key V) = N at hfc ⊢
        have HWX5 := Lib.hid (HWS.out.below HB5b.out HWS.out.size)
        have d0 := HWX5.out.cell 0 _ rfl
        have d1 := HWX5.out.cell 1 _ rfl
        have hhs := rhas_any (s1, s2) key wr
        rcases hfc with ⟨rfl, hh, rfl⟩ | ⟨rfl, hh, rfl⟩ | ⟨rfl, rfl⟩
        rotate_right
        · clear hhs
          go_wp2_with fail
          go_roundw
          case rel => exact ⟨z + 1, by omega, by omega, by first | rfl | go_num, HT5b.out, HB5b.out⟩
          case measure => simp [intOf]; omega
        all_goals
          unfold hasB at hh
          rw [hh] at hhs
          have HH := Lib.hid hhs
          clear hh hhs
          go_wp2_with fail
          refine HH.out.mono ?_
          rintro e w6 ⟨rfl, hb6⟩
          have HT6 := Lib.hid (HT5b.out.same hb6)
          have HB6 := Lib.hid (HB5b.out.trans (hb6.mono HB5b.out.size))
          clear hb6 HH d0 d1
          go_wp2_with fail
          go_roundw
          case rel => exact ⟨z + 1, by omega, by omega, by first | rfl | go_num, HT6.out, HB6.out⟩
          case measure => simp [intOf]; omega
end Go.Proofs.Ytpfhkijnaiopoaa

/- BagOrder's walk. -/
import Derived.Test.YtjkhdlmdgdcimaaBgAwk
import Derived.Test.YtjkhdlmdgdcimaaPlanB
namespace Go.Proofs.Ytjkhdlmdgdcimaa
open Go.RowKit
attribute [local go_sem] same_str

theorem textsO_len (r : List Row) : (texts r).length = r.length := by simp [texts]
theorem textsO_get (r : List Row) (i : Nat) (h : i < r.length) : (texts r)[i]'(by rw [textsO_len]; exact h) = r[i].l := by simp [texts]

set_option maxHeartbeats 8000000 in
set_option maxRecDepth 100000 in
theorem bagOrder_walk (rows : List Row) (v : Value) (w : World) (hv : RdRs w w.heap.size (fun _ => False) v rows) (hl : rows.length ≤ 140737488351232) (hrl : ∀ r ∈ rows, r.l.length ≤ 140737488351232) :
    Calls Try.prog 4 #[v] w fun e w' => e = .returned (.bool true) ∧ Below w.heap.size w w' := by
  obtain ⟨A, c, rfl, hc, -⟩ := hv.1
  have HV := Lib.hid hv; clear hv
  have HRL := Lib.hid hrl; clear hrl
  have HLL := Lib.hid (textsO_len rows)
  have HN := Lib.hid (bnew_any 50 (by decide) (by decide) w)
  go_enter Try.func4, Try.ntmps4
  go_wp2_with fail
  refine HN.out.mono ?_
  rintro e w1 ⟨q, G0, rfl, hk, hb⟩
  rw [show (50 : Int).toNat = 50 from rfl] at hk
  have HB1 := Lib.hid hb
  have HK1 := Lib.hid hk
  have HA := Lib.hid (awake_any w1)
  clear hk hb HN
  go_wp2_with fail
  refine HA.out.mono ?_
  rintro e w2 ⟨rfl, hb⟩
  have HB2 := Lib.hid (HB1.out.trans (hb.mono HB1.out.size))
  have HK2 := Lib.hid (HK1.out.mv (Mv.of_new hb (fun _ => False)) (fun _ _ h => h))
  clear hb HA HB1 HK1
  go_wp2_with fail
  go_loopw [5, 6] (fun nv iv wr => ∃ (i : Nat) (G : Nat → Prop), i ≤ 60 ∧ i ≤ rows.length ∧ iv = .int .i64 (i : Int) ∧ nv = .int .i64 ((min i 50 : Nat) : Int) ∧ (∀ (j : Nat) (h : j < rows.length), j < i → rows[j].l.length ≤ 131072) ∧ BagAt wr w.heap.size q G ⟨50, Bg.ord 0 ((texts rows).take (min i 50))⟩ ∧ Below w.heap.size w wr) (fun _ iv _ => 60 - (intOf iv).toNat)
  case atStart => exact ⟨0, G0, by omega, by omega, rfl, rfl, fun j _ h => by omega, HK2.out, HB2.out⟩
  case round =>
    obtain ⟨i, G, hi6, hil, rfl, rfl, hsm, hk, hb⟩ := hrel
    clear HB2 HK2
    have HSM := Lib.hid hsm
    have HK := Lib.hid hk
    have HB := Lib.hid hb
    have hbs := hb.size
    by_cases hgo : i < rows.length ∧ i < 60
    · obtain ⟨hil2, hi7⟩ := hgo
      have h1 : (i : Int) < (rows.length : Int) := by omega
      have h2 : (i : Int) < 60 := by omega
      obtain ⟨⟨_, _, e, -, hcell⟩, hrow⟩ := HV.out.mv (Mv.of_below hb) (Nat.le_refl _) (fun b h1 h2 => by omega)
      injection e with e1 _ e3
      subst e1 e3
      obtain ⟨ba, oa, rfl, hbl, -, q0⟩ := hcell i hil2
      have hrd := hrow rows[i] (List.getElem_mem hil2)
      have hlen := HRL.out rows[i] (List.getElem_mem hil2)
      have hti := textsO_get rows i hil2
      have hrdG : RdBG wr wr.heap.size G rows[i].v rows[i].l := (RdBG.of hrd.rdB (fun b hb2 hg => by have := (hk.low.2 b hg).1; omega)).mono hbs (fun _ _ h => h)
      have hsd := bsend_any w.heap.size q G _ (i : Int) rows[i].l rows[i].v wr hk hrdG hlen
      have HSD := Lib.hid hsd
      have HTI := Lib.hid hti
      clear hcell hrow hsm hk hb hrd hrdG hsd
      have hiT : i < (texts rows).length := by rw [HLL.out]; exact hil2
      obtain ⟨rv, hrv⟩ : ∃ rv : Row, rv = rows[i] := ⟨_, rfl⟩
      have HRV := Lib.hid hrv
      rw [← hrv] at q0 hlen HSD HTI
      clear hrv hti
      obtain ⟨ra, rc, rl⟩ := rv
      simp only [Row.v] at q0 HSD hlen HTI
      by_cases hbig : 131072 < rl.length
      · have h3 : (131072 : Int) < (rl.length : Int) := by omega
        have hs6 := HSD.out
        rw [Bg.send_large ⟨by omega, by omega⟩ hbig] at hs6
        have HS6 := Lib.hid hs6; clear hs6
        clear HSD
        go_wp2_with fail
        refine HS6.out.mono ?_
        rintro e w3 ⟨rfl, G3, hk3, hG3, hm3⟩
        have hbm : Below w.heap.size wr w3 := hm3.below hbs (fun i hi => (HK.out.low.2 i hi).1)
        have q3 := (hbm.cell (p := ⟨ba, oa + i, none⟩) hbl).trans q0
        have HB3 := Lib.hid (HB.out.trans hbm)
        clear hbm hk3 hG3 hm3 q0 HS6
        go_wp2_with fail
        go_ret
        exact ⟨rfl, HB3.out⟩
      · have h3 : ¬ (131072 : Int) < (rl.length : Int) := by omega
        have hsm2 : ∀ (j : Nat) (h : j < rows.length), j < i + 1 → rows[j].l.length ≤ 131072 := by
          intro j h hj
          by_cases hji : j < i
          · exact HSM.out j h hji
          · obtain rfl : j = i := by omega
            rw [← HRV.out]; simp only; omega
        have HSM2 := Lib.hid hsm2
        have hgo2 : i < (texts rows).length := hiT
        by_cases h50 : i < 50
        · have hmin : min i 50 = i := by omega
          have hmin2 : min (i + 1) 50 = i + 1 := by omega
          have hs6 := HSD.out
          rw [hmin] at hs6
          rw [← HTI.out, Bg.send_ord hiT h50 (by omega) (by rw [HTI.out]; omega)] at hs6
          rw [HTI.out] at hs6
          have HS6 := Lib.hid hs6
          have h5 : (i : Int) < 50 := by omega
          have HM := Lib.hid hmin
          have HM2 := Lib.hid hmin2
          clear hs6 HSD hsm2 hmin hmin2
          go_wp2_with fail
          refine HS6.out.mono ?_
          rintro e w3 ⟨rfl, G3, hk3, hG3, hm3⟩
          have hbm : Below w.heap.size wr w3 := hm3.below hbs (fun i hi => (HK.out.low.2 i hi).1)
          have q3 := (hbm.cell (p := ⟨ba, oa + i, none⟩) hbl).trans q0
          have HB3 := Lib.hid (HB.out.trans hbm)
          have HK3 := Lib.hid hk3
          clear hbm hk3 hG3 hm3 q0 HS6
          go_wp2_with fail
          go_roundw
          case rel => exact ⟨i + 1, G3, by omega, by omega, by go_num, by rw [HM2.out, HM.out]; go_num, HSM2.out, by rw [HM2.out]; exact HK3.out, HB3.out⟩
          case measure => simp [intOf]; omega
        · have hmin : min i 50 = 50 := by omega
          have hmin2 : min (i + 1) 50 = 50 := by omega
          have hs6 := HSD.out
          rw [hmin] at hs6
          rw [Bg.send_full ⟨by omega, by omega⟩ (by omega) (by rw [Bg.ord_len, List.length_take]; omega)] at hs6
          have HS6 := Lib.hid hs6
          have h5 : ¬ (i : Int) < 50 := by omega
          have HM := Lib.hid hmin
          have HM2 := Lib.hid hmin2
          clear hs6 HSD hsm2 hmin hmin2
          go_wp2_with fail
          refine HS6.out.mono ?_
          rintro e w3 ⟨rfl, G3, hk3, hG3, hm3⟩
          have hbm : Below w.heap.size wr w3 := hm3.below hbs (fun i hi => (HK.out.low.2 i hi).1)
          have q3 := (hbm.cell (p := ⟨ba, oa + i, none⟩) hbl).trans q0
          have HB3 := Lib.hid (HB.out.trans hbm)
          have HK3 := Lib.hid hk3
          clear hbm hk3 hG3 hm3 q0 HS6
          go_wp2_with fail
          go_roundw
          case rel => exact ⟨i + 1, G3, by omega, by omega, by go_num, by rw [HM2.out, HM.out], HSM2.out, by rw [HM2.out]; exact HK3.out, HB3.out⟩
          case measure => simp [intOf]; omega
    · have hex : i = rows.length ∨ i = 60 := by omega
      obtain ⟨N, hN⟩ : ∃ N, N = min i 50 := ⟨_, rfl⟩
      have hNl : N ≤ rows.length := by omega
      have hN50 : N ≤ 50 := by omega
      have hsm3 : ∀ (j : Nat) (h : j < rows.length), j < N → rows[j].l.length ≤ 131072 := fun j h hj => HSM.out j h (by omega)
      rw [← hN] at hk
      have HSM3 := Lib.hid hsm3
      have HK0 := Lib.hid hk
      have HNN := Lib.hid hN
      clear hsm hk hb hsm3 HK HSM hN
      by_cases h1 : i < rows.length
      · have h2 : (i : Int) < (rows.length : Int) := by omega
        have h3 : ¬ (i : Int) < 60 := by omega
        clear hgo hex h1
        go_wp2_with fail
        rw [← HNN.out]
        obtain ⟨T, hT⟩ : ∃ T, T = (texts rows).take N := ⟨_, rfl⟩
        rw [← hT] at HK0
        have hTl : T.length = N := by rw [hT, List.length_take, HLL.out]; omega
        have hTg : ∀ j (h : j < N) (h2 : j < rows.length), T[j]'(by omega) = rows[j].l := fun j h h2 => by
          have h3 : T[j]'(by omega) = (texts rows)[j]'(by rw [HLL.out]; omega) := by simp only [hT, List.getElem_take]
          rw [h3]; exact textsO_get rows j h2
        have HTL := Lib.hid hTl
        have HTG := Lib.hid hTg
        clear hT hTg
        go_loopw [8] (fun jv wx => ∃ (j : Nat) (G : Nat → Prop), j ≤ N ∧ jv = .int .i64 (j : Int) ∧ BagAt wx w.heap.size q G ⟨50, Bg.ord j (T.drop j)⟩ ∧ Below w.heap.size w wx) (fun jv _ => N - (intOf jv).toNat)
        case atStart => exact ⟨0, G, by omega, rfl, by simpa using HK0.out, HB.out⟩
        case round =>
          obtain ⟨j, G2, hjN, rfl, hk2, hb2⟩ := hrel
          have hbs2 := hb2.size
          by_cases hjl : j < N
          · have hj1 : (j : Int) < (N : Int) := by omega
            have hjr : j < rows.length := by omega
            have hjT : j < T.length := by rw [HTL.out]; exact hjl
            have hTj := HTG.out j hjl hjr
            rw [Bg.ord_cons T j hjT, hTj] at hk2
            have htk := btake_any w.heap.size q G2 _ 0 wr hk2
            rw [Bg.first_look, Bg.first_take] at htk
            simp only at htk
            obtain ⟨⟨_, _, e, -, hcell⟩, hrow⟩ := HV.out.mv (Mv.of_below hb2) (Nat.le_refl _) (fun b h1 h2 => by omega)
            injection e with e1 _ e3
            subst e1 e3
            obtain ⟨ba, oa, hA, hbl, -, q0⟩ := hcell j hjr
            have hrd := (hrow rows[j] (List.getElem_mem hjr)).rdB
            obtain ⟨rv, hrv⟩ : ∃ rv : Row, rv = rows[j] := ⟨_, rfl⟩
            rw [← hrv] at q0 hrd htk
            clear hrv hcell hrow
            obtain ⟨ra, rc, rl⟩ := rv
            simp only [Row.v] at q0 hrd htk
            have HTK := Lib.hid htk
            have HK2 := Lib.hid hk2
            have HB2 := Lib.hid hb2
            have HRD := Lib.hid hrd
            clear htk hk2 hb2 hrd hTj
            subst hA
            go_wp2_with fail
            refine HTK.out.mono ?_
            rintro e w3 ⟨A3, c3, rfl, G3, hk3, hG3, hm3, hr3⟩
            have hbm : Below w.heap.size wr w3 := hm3.below hbs2 (fun i hi => (HK2.out.low.2 i hi).1)
            have q3 := (hbm.cell (p := ⟨ba, oa + j, none⟩) hbl).trans q0
            have hrd3 := HRD.out.below hbm (Nat.le_refl _)
            have HB3 := Lib.hid (HB2.out.trans hbm)
            have hbs3 := HB3.out.size
            obtain ⟨S, hS⟩ : ∃ S, S = strB rl := ⟨_, rfl⟩
            have hcw : ∀ W, Below w3.drew.heap.size w3.drew W → (convert 32 9 (.slice A3 rl.length c3)).run Try.prog W = .ok (.string S) W ∧ (convert 32 9 (.slice ra rl.length rc)).run Try.prog W = .ok (.string S) W ∧ W.cell? ⟨ba, oa + j, none⟩ = some (.slice ra rl.length rc) := fun W hW => by
              have hd := ((Below.refl w3.heap.size w3).drew).trans hW
              exact ⟨by rw [hS]; exact run_convB (hr3.rdB.below hd (Nat.le_refl _)), by rw [hS]; exact run_convB (hrd3.below (hd.mono hbs3) (Nat.le_refl _)), (hd.cell (p := ⟨ba, oa + j, none⟩) (Nat.lt_of_lt_of_le hbl hbs3)).trans q3⟩
            have HCW := Lib.hid hcw
            have HK3 := Lib.hid (hk3.mv ((Mv.refl (fun _ => False) w3).drew) (fun _ _ h => h))
            have hjj : (0 : Int) ≤ (j : Int) ∧ (j : Int) < (rows.length : Int) := ⟨by omega, by omega⟩
            clear hbm hk3 hG3 hm3 q0 HTK hS hcw hrd3 hr3 q3
            go_wp2_with fail
            refine wp_region_planB [(true, 0), (true, 1), (true, 2), (true, 3), (true, 4), (true, 5), (true, 6), (true, 7), (true, 8), (true, 9), (true, 10), (true, 11), (true, 12), (true, 13), (true, 14), (true, 15), (true, 16)] (by kernel_rfl) (by kernel_rfl) (fun _ _ d _ _ h => by cases d <;> exact h) ?_
            repeat (refine PlanB.take (v := ?_) rfl rfl ?_ ?_; rotate_left; (focus (intro W hW; obtain ⟨k1, k2, k3⟩ := HCW.out W hW; go_simp; (try with_reducible rfl); done)); (try simp only [Act.put, List.setIfInBounds_toArray, List.set_cons_zero, List.set_cons_succ]))
            simp only [PlanB]
            have HB4 := Lib.hid (HB3.out.drew)
            clear HCW HB3
            generalize w3.drew = w4 at HK3 HB4 ⊢
            go_wp2_with fail
            go_roundw
            case rel => exact ⟨j + 1, G3, by omega, by go_num, HK3.out, HB4.out⟩
            case measure => simp [intOf]; omega
          · have hj1 : ¬ (j : Int) < (N : Int) := by omega
            have hd : T.drop j = [] := List.drop_eq_nil_of_le (by rw [HTL.out]; omega)
            rw [hd, show Bg.ord j [] = [] from rfl] at hk2
            have htk := btake_any w.heap.size q G2 _ 0 wr hk2
            rw [Bg.none_look, Bg.none_take] at htk
            simp only [Bg.none_] at htk
            have HTK := Lib.hid htk
            have HK2 := Lib.hid hk2
            have HB2 := Lib.hid hb2
            clear htk hk2 hb2 hd
            go_wp2_with fail
            refine HTK.out.mono ?_
            rintro e w3 ⟨A3, c3, rfl, G3, hk3, hG3, hm3, hr3⟩
            have HB3 := Lib.hid (HB2.out.trans (hm3.below hbs2 (fun i hi => (HK2.out.low.2 i hi).1)))
            have HK3 := Lib.hid hk3
            have HLN := Lib.hid (blen_any w.heap.size q G3 _ w3 hk3)
            clear hk3 hG3 hm3 hr3 HTK
            go_wp2_with fail
            refine HLN.out.mono ?_
            rintro e w4 ⟨rfl, hb4⟩
            have HB4 := Lib.hid (HB3.out.trans (hb4.mono HB3.out.size))
            have hk4 := HK3.out.mv (Mv.of_new hb4 (fun _ => False)) (fun _ _ h => h)
            have hsd := bsend_any w.heap.size q G3 _ 1 [] (.slice none 0 0) w4 hk4 ⟨none, 0, rfl, Nat.le_refl _, fun i hi => by simp at hi⟩ (by simp)
            rw [show (Bg.mk 50 []).send 1 [] = (0, ⟨50, [⟨1, [], false⟩]⟩) from rfl] at hsd
            have HSD := Lib.hid hsd
            have HK4 := Lib.hid hk4
            clear hb4 hk4 hsd HLN
            go_wp2_with fail
            refine HSD.out.mono ?_
            rintro e w5 ⟨rfl, G5, hk5, hG5, hm5⟩
            have HB5 := Lib.hid (HB4.out.trans (hm5.below HK4.out.low.1 (fun i hi => (HK4.out.low.2 i hi).1)))
            clear hk5 hG5 hm5 HSD
            go_wp2_with fail
            go_ret
            exact ⟨rfl, HB5.out⟩
      · have h2 : ¬ (i : Int) < (rows.length : Int) := by omega
        clear hgo hex h1
        go_wp2_with fail
        rw [← HNN.out]
        obtain ⟨T, hT⟩ : ∃ T, T = (texts rows).take N := ⟨_, rfl⟩
        rw [← hT] at HK0
        have hTl : T.length = N := by rw [hT, List.length_take, HLL.out]; omega
        have hTg : ∀ j (h : j < N) (h2 : j < rows.length), T[j]'(by omega) = rows[j].l := fun j h h2 => by
          have h3 : T[j]'(by omega) = (texts rows)[j]'(by rw [HLL.out]; omega) := by simp only [hT, List.getElem_take]
          rw [h3]; exact textsO_get rows j h2
        have HTL := Lib.hid hTl
        have HTG := Lib.hid hTg
        clear hT hTg
        go_loopw [8] (fun jv wx => ∃ (j : Nat) (G : Nat → Prop), j ≤ N ∧ jv = .int .i64 (j : Int) ∧ BagAt wx w.heap.size q G ⟨50, Bg.ord j (T.drop j)⟩ ∧ Below w.heap.size w wx) (fun jv _ => N - (intOf jv).toNat)
        case atStart => exact ⟨0, G, by omega, rfl, by simpa using HK0.out, HB.out⟩
        case round =>
          obtain ⟨j, G2, hjN, rfl, hk2, hb2⟩ := hrel
          have hbs2 := hb2.size
          by_cases hjl : j < N
          · have hj1 : (j : Int) < (N : Int) := by omega
            have hjr : j < rows.length := by omega
            have hjT : j < T.length := by rw [HTL.out]; exact hjl
            have hTj := HTG.out j hjl hjr
            rw [Bg.ord_cons T j hjT, hTj] at hk2
            have htk := btake_any w.heap.size q G2 _ 0 wr hk2
            rw [Bg.first_look, Bg.first_take] at htk
            simp only at htk
            obtain ⟨⟨_, _, e, -, hcell⟩, hrow⟩ := HV.out.mv (Mv.of_below hb2) (Nat.le_refl _) (fun b h1 h2 => by omega)
            injection e with e1 _ e3
            subst e1 e3
            obtain ⟨ba, oa, hA, hbl, -, q0⟩ := hcell j hjr
            have hrd := (hrow rows[j] (List.getElem_mem hjr)).rdB
            obtain ⟨rv, hrv⟩ : ∃ rv : Row, rv = rows[j] := ⟨_, rfl⟩
            rw [← hrv] at q0 hrd htk
            clear hrv hcell hrow
            obtain ⟨ra, rc, rl⟩ := rv
            simp only [Row.v] at q0 hrd htk
            have HTK := Lib.hid htk
            have HK2 := Lib.hid hk2
            have HB2 := Lib.hid hb2
            have HRD := Lib.hid hrd
            clear htk hk2 hb2 hrd hTj
            subst hA
            go_wp2_with fail
            refine HTK.out.mono ?_
            rintro e w3 ⟨A3, c3, rfl, G3, hk3, hG3, hm3, hr3⟩
            have hbm : Below w.heap.size wr w3 := hm3.below hbs2 (fun i hi => (HK2.out.low.2 i hi).1)
            have q3 := (hbm.cell (p := ⟨ba, oa + j, none⟩) hbl).trans q0
            have hrd3 := HRD.out.below hbm (Nat.le_refl _)
            have HB3 := Lib.hid (HB2.out.trans hbm)
            have hbs3 := HB3.out.size
            obtain ⟨S, hS⟩ : ∃ S, S = strB rl := ⟨_, rfl⟩
            have hcw : ∀ W, Below w3.drew.heap.size w3.drew W → (convert 32 9 (.slice A3 rl.length c3)).run Try.prog W = .ok (.string S) W ∧ (convert 32 9 (.slice ra rl.length rc)).run Try.prog W = .ok (.string S) W ∧ W.cell? ⟨ba, oa + j, none⟩ = some (.slice ra rl.length rc) := fun W hW => by
              have hd := ((Below.refl w3.heap.size w3).drew).trans hW
              exact ⟨by rw [hS]; exact run_convB (hr3.rdB.below hd (Nat.le_refl _)), by rw [hS]; exact run_convB (hrd3.below (hd.mono hbs3) (Nat.le_refl _)), (hd.cell (p := ⟨ba, oa + j, none⟩) (Nat.lt_of_lt_of_le hbl hbs3)).trans q3⟩
            have HCW := Lib.hid hcw
            have HK3 := Lib.hid (hk3.mv ((Mv.refl (fun _ => False) w3).drew) (fun _ _ h => h))
            have hjj : (0 : Int) ≤ (j : Int) ∧ (j : Int) < (rows.length : Int) := ⟨by omega, by omega⟩
            clear hbm hk3 hG3 hm3 q0 HTK hS hcw hrd3 hr3 q3
            go_wp2_with fail
            refine wp_region_planB [(true, 0), (true, 1), (true, 2), (true, 3), (true, 4), (true, 5), (true, 6), (true, 7), (true, 8), (true, 9), (true, 10), (true, 11), (true, 12), (true, 13), (true, 14), (true, 15), (true, 16)] (by kernel_rfl) (by kernel_rfl) (fun _ _ d _ _ h => by cases d <;> exact h) ?_
            repeat (refine PlanB.take (v := ?_) rfl rfl ?_ ?_; rotate_left; (focus (intro W hW; obtain ⟨k1, k2, k3⟩ := HCW.out W hW; go_simp; (try with_reducible rfl); done)); (try simp only [Act.put, List.setIfInBounds_toArray, List.set_cons_zero, List.set_cons_succ]))
            simp only [PlanB]
            have HB4 := Lib.hid (HB3.out.drew)
            clear HCW HB3
            generalize w3.drew = w4 at HK3 HB4 ⊢
            go_wp2_with fail
            go_roundw
            case rel => exact ⟨j + 1, G3, by omega, by go_num, HK3.out, HB4.out⟩
            case measure => simp [intOf]; omega
          · have hj1 : ¬ (j : Int) < (N : Int) := by omega
            have hd : T.drop j = [] := List.drop_eq_nil_of_le (by rw [HTL.out]; omega)
            rw [hd, show Bg.ord j [] = [] from rfl] at hk2
            have htk := btake_any w.heap.size q G2 _ 0 wr hk2
            rw [Bg.none_look, Bg.none_take] at htk
            simp only [Bg.none_] at htk
            have HTK := Lib.hid htk
            have HK2 := Lib.hid hk2
            have HB2 := Lib.hid hb2
            clear htk hk2 hb2 hd
            go_wp2_with fail
            refine HTK.out.mono ?_
            rintro e w3 ⟨A3, c3, rfl, G3, hk3, hG3, hm3, hr3⟩
            have HB3 := Lib.hid (HB2.out.trans (hm3.below hbs2 (fun i hi => (HK2.out.low.2 i hi).1)))
            have HK3 := Lib.hid hk3
            have HLN := Lib.hid (blen_any w.heap.size q G3 _ w3 hk3)
            clear hk3 hG3 hm3 hr3 HTK
            go_wp2_with fail
            refine HLN.out.mono ?_
            rintro e w4 ⟨rfl, hb4⟩
            have HB4 := Lib.hid (HB3.out.trans (hb4.mono HB3.out.size))
            have hk4 := HK3.out.mv (Mv.of_new hb4 (fun _ => False)) (fun _ _ h => h)
            have hsd := bsend_any w.heap.size q G3 _ 1 [] (.slice none 0 0) w4 hk4 ⟨none, 0, rfl, Nat.le_refl _, fun i hi => by simp at hi⟩ (by simp)
            rw [show (Bg.mk 50 []).send 1 [] = (0, ⟨50, [⟨1, [], false⟩]⟩) from rfl] at hsd
            have HSD := Lib.hid hsd
            have HK4 := Lib.hid hk4
            clear hb4 hk4 hsd HLN
            go_wp2_with fail
            refine HSD.out.mono ?_
            rintro e w5 ⟨rfl, G5, hk5, hG5, hm5⟩
            have HB5 := Lib.hid (HB4.out.trans (hm5.below HK4.out.low.1 (fun i hi => (HK4.out.low.2 i hi).1)))
            clear hk5 hG5 hm5 HSD
            go_wp2_with fail
            go_ret
            exact ⟨rfl, HB5.out⟩
end Go.Proofs.Ytjkhdlmdgdcimaa

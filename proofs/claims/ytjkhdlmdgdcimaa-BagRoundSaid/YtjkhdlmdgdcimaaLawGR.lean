/- BagRound's walk. -/
import Derived.Test.YtjkhdlmdgdcimaaLawGO
namespace Go.Proofs.Ytjkhdlmdgdcimaa
open Go.RowKit
attribute [local go_sem] same_str

namespace Bg
/-- those of them that are short -/
def shorts (l : List (List UInt8)) : List (List UInt8) := l.filter fun t => decide (t.length ≤ 1000)
theorem shorts_len (l : List (List UInt8)) (i : Nat) : (shorts (l.take i)).length ≤ i :=
  Nat.le_trans (List.length_filter_le _ _) (by rw [List.length_take]; omega)
theorem shorts_mem {l : List (List UInt8)} {t : List UInt8} (h : t ∈ shorts l) : t.length ≤ 1000 := by
  simpa using (List.mem_filter.1 h).2
theorem shorts_skip {l : List (List UInt8)} {i : Nat} (h : i < l.length) (ht : 1000 < l[i].length) : shorts (l.take (i + 1)) = shorts (l.take i) := by
  rw [List.take_add_one, List.getElem?_eq_getElem h]
  simp only [Option.toList, shorts, List.filter_append]
  rw [List.filter_cons_of_neg (by simp; omega), List.filter_nil, List.append_nil]
theorem shorts_more {l : List (List UInt8)} {i : Nat} (h : i < l.length) (ht : l[i].length ≤ 1000) : shorts (l.take (i + 1)) = shorts (l.take i) ++ [l[i]] := by
  rw [List.take_add_one, List.getElem?_eq_getElem h]
  simp only [Option.toList, shorts, List.filter_append]
  rw [List.filter_cons_of_pos (by simpa using ht), List.filter_nil]
theorem shorts_get {l : List (List UInt8)} {i n : Nat} (h : i < l.length) (hn : i < n) (ht : l[i].length ≤ 1000) : (shorts (l.take n))[(shorts (l.take i)).length]? = some l[i] := by
  have e : l.take n = l.take (i + 1) ++ (l.take n).drop (i + 1) := by
    have h1 := (List.take_append_drop (i + 1) (l.take n)).symm
    rw [List.take_take, Nat.min_eq_left (by omega)] at h1
    exact h1
  have e2 : shorts (l.take n) = shorts (l.take (i + 1)) ++ shorts ((l.take n).drop (i + 1)) := by
    conv => lhs; rw [e]
    simp only [shorts, List.filter_append]
  rw [e2, shorts_more h ht, List.append_assoc, List.getElem?_append_right (Nat.le_refl _), Nat.sub_self]
  rfl
theorem send_short {ts : List (List UInt8)} {i m : Nat} (h : i < ts.length) (hi : i ≤ 40) (hm : m = (shorts (ts.take i)).length) (ht : ts[i].length ≤ 1000) :
    (Bg.mk 64 (ord 0 (shorts (ts.take i)))).send (m : Int) ts[i] = (0, ⟨64, ord 0 (shorts (ts.take (i + 1)))⟩) := by
  have h1 := shorts_len ts i
  unfold send
  rw [if_neg (by omega), if_neg (by omega), if_neg (by simp only [ord_len]; omega), shorts_more h ht, ord_append, Nat.zero_add, ← hm]
  rfl
theorem look_ord {room : Nat} {T : List (List UInt8)} {k : Nat} {t : List UInt8} (h : T[k]? = some t) : (Bg.mk room (ord 0 T)).look (k : Int) = (⟨(k : Int), t, false⟩, 0) := by
  have hk : k < T.length := by
    rcases Nat.lt_or_ge k T.length with h1 | h1
    · exact h1
    · rw [List.getElem?_eq_none h1] at h; cases h
  have hh : (Bg.mk room (ord 0 T)).has (k : Int) := ⟨by omega, by simp only [ord_len]; omega⟩
  unfold look
  rw [if_pos hh]
  simp only [Int.toNat_natCast, ord_get, h, Option.map_some, Option.getD_some, Nat.zero_add]
theorem ord_all {T : List (List UInt8)} (hl : T.length ≤ 40) (ht : ∀ t ∈ T, t.length ≤ 1000) : ∀ x ∈ ord 0 T, 0 ≤ x.to ∧ x.to ≤ 255 ∧ x.sp = false ∧ x.text.length ≤ 131072 := fun x hx => by
  obtain ⟨j, hj, h1, h2, h3⟩ := ord_mem hx
  exact ⟨by omega, by omega, h2, by have := ht _ h3; omega⟩
end Bg
open Bg (shorts)

set_option maxHeartbeats 8000000 in
set_option maxRecDepth 100000 in
theorem bagRound_walk (rows : List Row) (v : Value) (tm : Nat) (w : World) (hv : RdRs w w.heap.size (fun _ => False) v rows) (hl : rows.length ≤ 140737488351232) (hrl : ∀ r ∈ rows, r.l.length ≤ 140737488351232) :
    Calls Try.prog 7 #[v, .int .u8 (tm : Int)] w fun e w' => e = .returned (.bool true) ∧ Below w.heap.size w w' := by
  obtain ⟨A, c, rfl, hc, -⟩ := hv.1
  have HV := Lib.hid hv; clear hv
  have HRL := Lib.hid hrl; clear hrl
  have HLL := Lib.hid (textsO_len rows)
  obtain ⟨kt, hkt⟩ : ∃ kt, kt = tm % 4 := ⟨_, rfl⟩
  have hkt4 : kt < 4 := by omega
  have hmod : (tm : Int) % 4 = (kt : Int) := by omega
  clear hkt
  have HN := Lib.hid (bnew_any 64 (by decide) (by decide) w)
  go_enter Try.func7, Try.ntmps7
  go_wp2_with fail
  refine HN.out.mono ?_
  rintro e w1 ⟨q, G0, rfl, hk, hb⟩
  rw [show (64 : Int).toNat = 64 from rfl] at hk
  have HB1 := Lib.hid hb
  have HK1 := Lib.hid hk
  have HA := Lib.hid (awake_any w1)
  clear hk hb HN
  go_wp2_with fail
  refine HA.out.mono ?_
  rintro e w2 ⟨rfl, hb⟩
  have HB2 := Lib.hid (HB1.out.trans (hb.mono HB1.out.size))
  have HK2 := Lib.hid (HK1.out.mv (Mv.of_new hb (fun _ => False)) (fun _ _ h => h))
  clear hb HA HB1 HK1
  go_wp2_with fail
  go_loopw [7, 8] (fun nv iv wr => ∃ (i m : Nat) (G : Nat → Prop), i ≤ 40 ∧ i ≤ rows.length ∧ iv = .int .i64 (i : Int) ∧ nv = .int .i64 (m : Int) ∧ m = (shorts ((texts rows).take i)).length ∧ BagAt wr w.heap.size q G ⟨64, Bg.ord 0 (shorts ((texts rows).take i))⟩ ∧ Below w.heap.size w wr) (fun _ iv _ => 40 - (intOf iv).toNat)
  case atStart => exact ⟨0, 0, G0, by omega, by omega, rfl, rfl, rfl, HK2.out, HB2.out⟩
  case round =>
    obtain ⟨i, m, G, hi4, hil, rfl, rfl, hm, hk, hb⟩ := hrel
    clear HB2 HK2
    have HM := Lib.hid hm
    have HK := Lib.hid hk
    have HB := Lib.hid hb
    have hbs := hb.size
    have hm40 : m ≤ 40 := by rw [hm]; exact Nat.le_trans (Bg.shorts_len _ _) hi4
    by_cases hgo : i < rows.length ∧ i < 40
    · obtain ⟨hil2, hi7⟩ := hgo
      have h1 : (i : Int) < (rows.length : Int) := by omega
      have h2 : (i : Int) < 40 := by omega
      obtain ⟨⟨_, _, e, -, hcell⟩, hrow⟩ := HV.out.mv (Mv.of_below hb) (Nat.le_refl _) (fun b h1 h2 => by omega)
      injection e with e1 _ e3
      subst e1 e3
      obtain ⟨ba, oa, rfl, hbl, -, q0⟩ := hcell i hil2
      have hrd := hrow rows[i] (List.getElem_mem hil2)
      have hlen := HRL.out rows[i] (List.getElem_mem hil2)
      have hti := textsO_get rows i hil2
      have hrdG : RdBG wr wr.heap.size G rows[i].v rows[i].l := (RdBG.of hrd.rdB (fun b hb2 hg => by have := (hk.low.2 b hg).1; omega)).mono hbs (fun _ _ h => h)
      have hsd := bsend_any w.heap.size q G _ (m : Int) rows[i].l rows[i].v wr hk hrdG hlen
      have hiT : i < (texts rows).length := by rw [HLL.out]; exact hil2
      have HSD := Lib.hid hsd
      have HTI := Lib.hid hti
      clear hcell hrow hk hb hrd hrdG hsd hm
      obtain ⟨rv, hrv⟩ : ∃ rv : Row, rv = rows[i] := ⟨_, rfl⟩
      rw [← hrv] at q0 hlen HSD HTI
      clear hrv hti
      obtain ⟨ra, rc, rl⟩ := rv
      simp only [Row.v] at q0 HSD hlen HTI
      by_cases hbig : 1000 < rl.length
      · have h3 : (1000 : Int) < (rl.length : Int) := by omega
        have HSK := Lib.hid (Bg.shorts_skip hiT (by rw [HTI.out]; omega))
        clear HSD
        go_wp2_with fail
        go_roundw
        case rel => exact ⟨i + 1, m, G, by omega, by omega, by go_num, rfl, by rw [HSK.out]; exact HM.out, by rw [HSK.out]; exact HK.out, HB.out⟩
        case measure => simp [intOf]; omega
      · have h3 : ¬ (1000 : Int) < (rl.length : Int) := by omega
        have hs6 := HSD.out
        rw [← HTI.out, Bg.send_short hiT hi4 HM.out (by rw [HTI.out]; omega)] at hs6
        rw [HTI.out] at hs6
        have HS6 := Lib.hid hs6
        have HM2 := Lib.hid (show m + 1 = (shorts ((texts rows).take (i + 1))).length by rw [Bg.shorts_more hiT (by rw [HTI.out]; omega), List.length_append, ← HM.out]; rfl)
        clear hs6 HSD
        go_wp2_with fail
        refine HS6.out.mono ?_
        rintro e w3 ⟨rfl, G3, hk3, hG3, hm3⟩
        have hbm : Below w.heap.size wr w3 := hm3.below hbs (fun i hi => (HK.out.low.2 i hi).1)
        have HB3 := Lib.hid (HB.out.trans hbm)
        have HK3 := Lib.hid hk3
        clear hbm hk3 hG3 hm3 q0 HS6
        go_wp2_with fail
        go_roundw
        case rel => exact ⟨i + 1, m + 1, G3, by omega, by omega, by go_num, by go_num, HM2.out, HK3.out, HB3.out⟩
        case measure => simp [intOf]; omega
    · have hex : ∀ j, j < rows.length → j < 40 → j < i := fun j h1 h2 => by omega
      obtain ⟨T, hT⟩ : ∃ T, T = shorts ((texts rows).take i) := ⟨_, rfl⟩
      rw [← hT] at hk hm
      have hTs : ∀ t ∈ T, t.length ≤ 1000 := by rw [hT]; exact fun t h => Bg.shorts_mem h
      have hTg : ∀ (j : Nat) (h : j < rows.length), j < 40 → rows[j].l.length ≤ 1000 → T[(shorts ((texts rows).take j)).length]? = some rows[j].l := fun j h h2 h3 => by
        have h4 := textsO_get rows j h
        have h5 := Bg.shorts_get (l := texts rows) (i := j) (n := i) (by rw [HLL.out]; exact h) (hex j h h2) (by rw [h4]; exact h3)
        rw [hT, h5, h4]
      obtain ⟨L, hL⟩ : ∃ L, L = Bg.ord 0 T := ⟨_, rfl⟩
      have hLl : L.length = m := by rw [hL, Bg.ord_len, hm]
      have hLa : ∀ x ∈ L, 0 ≤ x.to ∧ x.to ≤ 255 ∧ x.sp = false ∧ x.text.length ≤ 131072 := by rw [hL]; exact Bg.ord_all (by omega) hTs
      have hLg : ∀ (j z : Nat) (h : j < rows.length), j < 40 → rows[j].l.length ≤ 1000 → z = (shorts ((texts rows).take j)).length → (Bg.mk 64 L).look (z : Int) = (⟨(z : Int), rows[j].l, false⟩, 0) := fun j z h h2 h3 hz => by
        rw [hL]; exact Bg.look_ord (by rw [hz]; exact hTg j h h2 h3)
      obtain ⟨mk, hmk⟩ : ∃ mk, mk = m * kt := ⟨_, rfl⟩
      have hmk120 : mk ≤ 120 := by rw [hmk]; exact Nat.le_trans (Nat.mul_le_mul hm40 (Nat.le_of_lt_succ hkt4)) (by decide)
      have hmul : (m : Int) * (kt : Int) = (mk : Int) := by rw [hmk, Int.natCast_mul]
      have HMZ := Lib.hid (show mk % m = 0 by rw [hmk]; exact Nat.mul_mod_right m kt)
      have HM0 := Lib.hid (show 0 < mk → 0 < m from fun h => by rcases Nat.eq_zero_or_pos m with h0 | h0; (rw [hmk, h0, Nat.zero_mul] at h; omega); exact h0)
      rw [← hL] at hk
      have HK0 := Lib.hid hk
      have HL2 := Lib.hid hLl
      have HLA := Lib.hid hLa
      have HLG := Lib.hid hLg
      clear hk hb hm hT hTs hTg hL hLl hLa hLg hmk HK HM
      by_cases h1 : i < rows.length
      · have h2 : (i : Int) < (rows.length : Int) := by omega
        have h3 : ¬ (i : Int) < 40 := by omega
        clear hgo hex h1
        go_wp2_with fail
        go_loopw [9] (fun jv wx => ∃ (j : Nat) (G : Nat → Prop), j ≤ mk ∧ jv = .int .i64 (j : Int) ∧ BagAt wx w.heap.size q G ⟨64, Bg.rot L (j % m)⟩ ∧ Below w.heap.size w wx) (fun jv _ => mk - (intOf jv).toNat)
        case atStart => exact ⟨0, G, by omega, rfl, by rw [Nat.zero_mod, Bg.rot_zero]; exact HK0.out, HB.out⟩
        case round =>
          obtain ⟨j, G2, hjm, rfl, hk2, hb2⟩ := hrel
          have hbs2 := hb2.size
          by_cases hjl : j < mk
          · have hj1 : (j : Int) < (mk : Int) := by omega
            have hm1 : 0 < m := HM0.out (by omega)
            have hjm2 : j % m < L.length := by rw [HL2.out]; exact Nat.mod_lt _ hm1
            obtain ⟨hs1, hs2⟩ := Bg.rot_step (room := 64) hjm2 (by rw [HL2.out]; omega) HLA.out
            have hXl := HLA.out L[j % m] (List.getElem_mem _)
            obtain ⟨X, hX⟩ : ∃ X, X = L[j % m] := ⟨_, rfl⟩
            rw [← hX] at hs1 hs2 hXl
            rw [HL2.out, Nat.mod_add_mod] at hs2
            have hXt : X.text.length ≤ 140737488351232 := by omega
            have htk := btake_any w.heap.size q G2 _ 0 wr hk2
            rw [hs1] at htk
            simp only at htk
            have HTK := Lib.hid htk
            have HK2 := Lib.hid hk2
            have HB2 := Lib.hid hb2
            have HS2 := Lib.hid hs2
            obtain ⟨xto, xtx, xsp⟩ := X
            simp only at hXt HTK HS2
            clear htk hk2 hb2 hs1 hs2 hX hXl hjm2 hm1
            go_wp2_with fail
            refine HTK.out.mono ?_
            rintro e w3 ⟨A3, c3, rfl, G3, hk3, hG3, hm3, hr3⟩
            have HB3 := Lib.hid (HB2.out.trans (hm3.below hbs2 (fun i hi => (HK2.out.low.2 i hi).1)))
            have hsd := bsend_any w.heap.size q G3 _ xto xtx _ w3 hk3 (hr3.mono (Nat.le_refl _) (fun _ _ h => .inl h)) hXt
            rw [HS2.out] at hsd
            have HSD := Lib.hid hsd
            have HK3 := Lib.hid hk3
            have hbs3 := HB3.out.size
            clear hk3 hG3 hm3 hr3 hsd HTK HS2
            go_wp2_with fail
            refine HSD.out.mono ?_
            rintro e w4 ⟨rfl, G4, hk4, hG4, hm4⟩
            have HB4 := Lib.hid (HB3.out.trans (hm4.below hbs3 (fun i hi => (HK3.out.low.2 i hi).1)))
            have HK4 := Lib.hid hk4
            clear hk4 hG4 hm4 HSD
            go_wp2_with fail
            go_roundw
            case rel => exact ⟨j + 1, G4, by omega, by go_num, HK4.out, HB4.out⟩
            case measure => simp [intOf]; omega
          · have hj1 : ¬ (j : Int) < (mk : Int) := by omega
            have hjmk : j = mk := by omega
            rw [hjmk, HMZ.out, Bg.rot_zero] at hk2
            have HK2 := Lib.hid hk2
            have HB2 := Lib.hid hb2
            clear hk2 hb2 hjmk
            go_wp2_with fail
            go_loopw [13, 14] (fun kv iv wx => ∃ (p z : Nat) (G : Nat → Prop), p ≤ 40 ∧ p ≤ rows.length ∧ iv = .int .i64 (p : Int) ∧ kv = .int .i64 (z : Int) ∧ z = (shorts ((texts rows).take p)).length ∧ BagAt wx w.heap.size q G ⟨64, L⟩ ∧ Below w.heap.size w wx) (fun _ iv _ => 40 - (intOf iv).toNat)
            case atStart => exact ⟨0, 0, G2, by omega, by omega, rfl, rfl, rfl, HK2.out, HB2.out⟩
            case round =>
              obtain ⟨p, z, G5, hp4, hpl, rfl, rfl, hz, hk5, hb5⟩ := hrel
              have HZ := Lib.hid hz
              have HK5 := Lib.hid hk5
              have HB5 := Lib.hid hb5
              have hbs5 := hb5.size
              have hz40 : z ≤ 40 := by rw [hz]; exact Nat.le_trans (Bg.shorts_len _ _) hp4
              by_cases hgo2 : p < rows.length ∧ p < 40
              · obtain ⟨hpl2, hp7⟩ := hgo2
                have g1 : (p : Int) < (rows.length : Int) := by omega
                have g2 : (p : Int) < 40 := by omega
                obtain ⟨⟨_, _, e, -, hcell⟩, hrow⟩ := HV.out.mv (Mv.of_below hb5) (Nat.le_refl _) (fun b h1 h2 => by omega)
                injection e with e1 _ e3
                subst e1 e3
                obtain ⟨ba, oa, hA, hbl, -, q0⟩ := hcell p hpl2
                have hrd := (hrow rows[p] (List.getElem_mem hpl2)).rdB
                have hti := textsO_get rows p hpl2
                have hiT : p < (texts rows).length := by rw [HLL.out]; exact hpl2
                have hlg := fun h => HLG.out p z hpl2 hp7 h hz
                obtain ⟨rv, hrv⟩ : ∃ rv : Row, rv = rows[p] := ⟨_, rfl⟩
                rw [← hrv] at q0 hrd hti hlg
                clear hrv hcell hrow hk5 hb5 hz
                obtain ⟨ra, rc, rl⟩ := rv
                simp only [Row.v] at q0 hrd hti hlg
                have HTI := Lib.hid hti
                have HRD := Lib.hid hrd
                have HLG2 := Lib.hid hlg
                clear hti hrd hlg
                subst hA
                by_cases hbig : 1000 < rl.length
                · have h3 : (1000 : Int) < (rl.length : Int) := by omega
                  have HSK := Lib.hid (Bg.shorts_skip hiT (by rw [HTI.out]; omega))
                  clear HLG2
                  go_wp2_with fail
                  go_roundw
                  case rel => exact ⟨p + 1, z, G5, by omega, by omega, by go_num, rfl, by rw [HSK.out]; exact HZ.out, HK5.out, HB5.out⟩
                  case measure => simp [intOf]; omega
                · have h3 : ¬ (1000 : Int) < (rl.length : Int) := by omega
                  have HM2 := Lib.hid (show z + 1 = (shorts ((texts rows).take (p + 1))).length by rw [Bg.shorts_more hiT (by rw [HTI.out]; omega), List.length_append, ← HZ.out]; rfl)
                  have hlk := blook_any w.heap.size q G5 _ (z : Int) wr HK5.out
                  rw [HLG2.out (by omega)] at hlk
                  simp only at hlk
                  have HLK := Lib.hid hlk
                  clear hlk HLG2
                  go_wp2_with fail
                  refine HLK.out.mono ?_
                  rintro e w6 ⟨A6, c6, rfl, hr6, hb6⟩
                  replace hr6 := hr6.rdB
                  have hbm : Below w.heap.size wr w6 := hb6.mono hbs5
                  have q3 := (hbm.cell (p := ⟨ba, oa + p, none⟩) hbl).trans q0
                  have hrd3 := HRD.out.below hbm (Nat.le_refl _)
                  have HB6 := Lib.hid (HB5.out.trans hbm)
                  have hbs6 := HB6.out.size
                  have hk6 := HK5.out.mv (Mv.of_new hb6 (fun _ => False)) (fun _ _ h => h)
                  obtain ⟨S, hS⟩ : ∃ S, S = strB rl := ⟨_, rfl⟩
                  have hcw : ∀ W, Below w6.drew.heap.size w6.drew W → (convert 32 9 (.slice A6 rl.length c6)).run Try.prog W = .ok (.string S) W ∧ (convert 32 9 (.slice ra rl.length rc)).run Try.prog W = .ok (.string S) W ∧ W.cell? ⟨ba, oa + p, none⟩ = some (.slice ra rl.length rc) := fun W hW => by
                    have hd := ((Below.refl w6.heap.size w6).drew).trans hW
                    exact ⟨by rw [hS]; exact run_convB (hr6.below hd (Nat.le_refl _)), by rw [hS]; exact run_convB (hrd3.below (hd.mono hbs6) (Nat.le_refl _)), (hd.cell (p := ⟨ba, oa + p, none⟩) (Nat.lt_of_lt_of_le hbl hbs6)).trans q3⟩
                  have HCW := Lib.hid hcw
                  have HK6 := Lib.hid (hk6.mv ((Mv.refl (fun _ => False) w6).drew) (fun _ _ h => h))
                  have hjj : (0 : Int) ≤ (p : Int) ∧ (p : Int) < (rows.length : Int) := ⟨by omega, by omega⟩
                  clear hbm hk6 hb6 hr6 q0 HLK hS hcw hrd3 q3
                  go_wp2_with fail
                  refine wp_region_planB [(true, 0), (true, 1), (true, 2), (true, 3), (true, 4), (true, 5), (true, 6), (true, 7), (true, 8), (true, 9), (true, 10), (true, 11), (true, 12), (true, 13), (true, 14), (true, 15), (true, 16)] (by kernel_rfl) (by kernel_rfl) (fun _ _ d _ _ h => by cases d <;> exact h) ?_
                  repeat (refine PlanB.take (v := ?_) rfl rfl ?_ ?_; rotate_left; (focus (intro W hW; obtain ⟨k1, k2, k3⟩ := HCW.out W hW; go_simp; (try with_reducible rfl); done)); (try simp only [Act.put, List.setIfInBounds_toArray, List.set_cons_zero, List.set_cons_succ]))
                  simp only [PlanB]
                  have HB7 := Lib.hid (HB6.out.drew)
                  clear HCW HB6
                  generalize w6.drew = w7 at HK6 HB7 ⊢
                  go_wp2_with fail
                  go_roundw
                  case rel => exact ⟨p + 1, z + 1, G5, by omega, by omega, by go_num, by go_num, HM2.out, HK6.out, HB7.out⟩
                  case measure => simp [intOf]; omega
              · have hln := blen_any w.heap.size q G5 _ wr hk5
                simp only [HL2.out] at hln
                have HLN := Lib.hid hln
                clear hln hk5 hb5 hz
                by_cases g1 : p < rows.length
                · have g2 : (p : Int) < (rows.length : Int) := by omega
                  have g3 : ¬ (p : Int) < 40 := by omega
                  clear hgo2 g1
                  go_wp2_with fail
                  refine HLN.out.mono ?_
                  rintro e w6 ⟨rfl, hb6⟩
                  have HB6 := Lib.hid (HB5.out.trans (hb6.mono hbs5))
                  clear hb6 HLN
                  go_wp2_with fail
                  go_ret
                  exact ⟨rfl, HB6.out⟩
                · have g2 : ¬ (p : Int) < (rows.length : Int) := by omega
                  clear hgo2 g1
                  go_wp2_with fail
                  refine HLN.out.mono ?_
                  rintro e w6 ⟨rfl, hb6⟩
                  have HB6 := Lib.hid (HB5.out.trans (hb6.mono hbs5))
                  clear hb6 HLN
                  go_wp2_with fail
                  go_ret
                  exact ⟨rfl, HB6.out⟩
      · have h2 : ¬ (i : Int) < (rows.length : Int) := by omega
        clear hgo hex h1
        go_wp2_with fail
        go_loopw [9] (fun jv wx => ∃ (j : Nat) (G : Nat → Prop), j ≤ mk ∧ jv = .int .i64 (j : Int) ∧ BagAt wx w.heap.size q G ⟨64, Bg.rot L (j % m)⟩ ∧ Below w.heap.size w wx) (fun jv _ => mk - (intOf jv).toNat)
        case atStart => exact ⟨0, G, by omega, rfl, by rw [Nat.zero_mod, Bg.rot_zero]; exact HK0.out, HB.out⟩
        case round =>
          obtain ⟨j, G2, hjm, rfl, hk2, hb2⟩ := hrel
          have hbs2 := hb2.size
          by_cases hjl : j < mk
          · have hj1 : (j : Int) < (mk : Int) := by omega
            have hm1 : 0 < m := HM0.out (by omega)
            have hjm2 : j % m < L.length := by rw [HL2.out]; exact Nat.mod_lt _ hm1
            obtain ⟨hs1, hs2⟩ := Bg.rot_step (room := 64) hjm2 (by rw [HL2.out]; omega) HLA.out
            have hXl := HLA.out L[j % m] (List.getElem_mem _)
            obtain ⟨X, hX⟩ : ∃ X, X = L[j % m] := ⟨_, rfl⟩
            rw [← hX] at hs1 hs2 hXl
            rw [HL2.out, Nat.mod_add_mod] at hs2
            have hXt : X.text.length ≤ 140737488351232 := by omega
            have htk := btake_any w.heap.size q G2 _ 0 wr hk2
            rw [hs1] at htk
            simp only at htk
            have HTK := Lib.hid htk
            have HK2 := Lib.hid hk2
            have HB2 := Lib.hid hb2
            have HS2 := Lib.hid hs2
            obtain ⟨xto, xtx, xsp⟩ := X
            simp only at hXt HTK HS2
            clear htk hk2 hb2 hs1 hs2 hX hXl hjm2 hm1
            go_wp2_with fail
            refine HTK.out.mono ?_
            rintro e w3 ⟨A3, c3, rfl, G3, hk3, hG3, hm3, hr3⟩
            have HB3 := Lib.hid (HB2.out.trans (hm3.below hbs2 (fun i hi => (HK2.out.low.2 i hi).1)))
            have hsd := bsend_any w.heap.size q G3 _ xto xtx _ w3 hk3 (hr3.mono (Nat.le_refl _) (fun _ _ h => .inl h)) hXt
            rw [HS2.out] at hsd
            have HSD := Lib.hid hsd
            have HK3 := Lib.hid hk3
            have hbs3 := HB3.out.size
            clear hk3 hG3 hm3 hr3 hsd HTK HS2
            go_wp2_with fail
            refine HSD.out.mono ?_
            rintro e w4 ⟨rfl, G4, hk4, hG4, hm4⟩
            have HB4 := Lib.hid (HB3.out.trans (hm4.below hbs3 (fun i hi => (HK3.out.low.2 i hi).1)))
            have HK4 := Lib.hid hk4
            clear hk4 hG4 hm4 HSD
            go_wp2_with fail
            go_roundw
            case rel => exact ⟨j + 1, G4, by omega, by go_num, HK4.out, HB4.out⟩
            case measure => simp [intOf]; omega
          · have hj1 : ¬ (j : Int) < (mk : Int) := by omega
            have hjmk : j = mk := by omega
            rw [hjmk, HMZ.out, Bg.rot_zero] at hk2
            have HK2 := Lib.hid hk2
            have HB2 := Lib.hid hb2
            clear hk2 hb2 hjmk
            go_wp2_with fail
            go_loopw [13, 14] (fun kv iv wx => ∃ (p z : Nat) (G : Nat → Prop), p ≤ 40 ∧ p ≤ rows.length ∧ iv = .int .i64 (p : Int) ∧ kv = .int .i64 (z : Int) ∧ z = (shorts ((texts rows).take p)).length ∧ BagAt wx w.heap.size q G ⟨64, L⟩ ∧ Below w.heap.size w wx) (fun _ iv _ => 40 - (intOf iv).toNat)
            case atStart => exact ⟨0, 0, G2, by omega, by omega, rfl, rfl, rfl, HK2.out, HB2.out⟩
            case round =>
              obtain ⟨p, z, G5, hp4, hpl, rfl, rfl, hz, hk5, hb5⟩ := hrel
              have HZ := Lib.hid hz
              have HK5 := Lib.hid hk5
              have HB5 := Lib.hid hb5
              have hbs5 := hb5.size
              have hz40 : z ≤ 40 := by rw [hz]; exact Nat.le_trans (Bg.shorts_len _ _) hp4
              by_cases hgo2 : p < rows.length ∧ p < 40
              · obtain ⟨hpl2, hp7⟩ := hgo2
                have g1 : (p : Int) < (rows.length : Int) := by omega
                have g2 : (p : Int) < 40 := by omega
                obtain ⟨⟨_, _, e, -, hcell⟩, hrow⟩ := HV.out.mv (Mv.of_below hb5) (Nat.le_refl _) (fun b h1 h2 => by omega)
                injection e with e1 _ e3
                subst e1 e3
                obtain ⟨ba, oa, hA, hbl, -, q0⟩ := hcell p hpl2
                have hrd := (hrow rows[p] (List.getElem_mem hpl2)).rdB
                have hti := textsO_get rows p hpl2
                have hiT : p < (texts rows).length := by rw [HLL.out]; exact hpl2
                have hlg := fun h => HLG.out p z hpl2 hp7 h hz
                obtain ⟨rv, hrv⟩ : ∃ rv : Row, rv = rows[p] := ⟨_, rfl⟩
                rw [← hrv] at q0 hrd hti hlg
                clear hrv hcell hrow hk5 hb5 hz
                obtain ⟨ra, rc, rl⟩ := rv
                simp only [Row.v] at q0 hrd hti hlg
                have HTI := Lib.hid hti
                have HRD := Lib.hid hrd
                have HLG2 := Lib.hid hlg
                clear hti hrd hlg
                subst hA
                by_cases hbig : 1000 < rl.length
                · have h3 : (1000 : Int) < (rl.length : Int) := by omega
                  have HSK := Lib.hid (Bg.shorts_skip hiT (by rw [HTI.out]; omega))
                  clear HLG2
                  go_wp2_with fail
                  go_roundw
                  case rel => exact ⟨p + 1, z, G5, by omega, by omega, by go_num, rfl, by rw [HSK.out]; exact HZ.out, HK5.out, HB5.out⟩
                  case measure => simp [intOf]; omega
                · have h3 : ¬ (1000 : Int) < (rl.length : Int) := by omega
                  have HM2 := Lib.hid (show z + 1 = (shorts ((texts rows).take (p + 1))).length by rw [Bg.shorts_more hiT (by rw [HTI.out]; omega), List.length_append, ← HZ.out]; rfl)
                  have hlk := blook_any w.heap.size q G5 _ (z : Int) wr HK5.out
                  rw [HLG2.out (by omega)] at hlk
                  simp only at hlk
                  have HLK := Lib.hid hlk
                  clear hlk HLG2
                  go_wp2_with fail
                  refine HLK.out.mono ?_
                  rintro e w6 ⟨A6, c6, rfl, hr6, hb6⟩
                  replace hr6 := hr6.rdB
                  have hbm : Below w.heap.size wr w6 := hb6.mono hbs5
                  have q3 := (hbm.cell (p := ⟨ba, oa + p, none⟩) hbl).trans q0
                  have hrd3 := HRD.out.below hbm (Nat.le_refl _)
                  have HB6 := Lib.hid (HB5.out.trans hbm)
                  have hbs6 := HB6.out.size
                  have hk6 := HK5.out.mv (Mv.of_new hb6 (fun _ => False)) (fun _ _ h => h)
                  obtain ⟨S, hS⟩ : ∃ S, S = strB rl := ⟨_, rfl⟩
                  have hcw : ∀ W, Below w6.drew.heap.size w6.drew W → (convert 32 9 (.slice A6 rl.length c6)).run Try.prog W = .ok (.string S) W ∧ (convert 32 9 (.slice ra rl.length rc)).run Try.prog W = .ok (.string S) W ∧ W.cell? ⟨ba, oa + p, none⟩ = some (.slice ra rl.length rc) := fun W hW => by
                    have hd := ((Below.refl w6.heap.size w6).drew).trans hW
                    exact ⟨by rw [hS]; exact run_convB (hr6.below hd (Nat.le_refl _)), by rw [hS]; exact run_convB (hrd3.below (hd.mono hbs6) (Nat.le_refl _)), (hd.cell (p := ⟨ba, oa + p, none⟩) (Nat.lt_of_lt_of_le hbl hbs6)).trans q3⟩
                  have HCW := Lib.hid hcw
                  have HK6 := Lib.hid (hk6.mv ((Mv.refl (fun _ => False) w6).drew) (fun _ _ h => h))
                  have hjj : (0 : Int) ≤ (p : Int) ∧ (p : Int) < (rows.length : Int) := ⟨by omega, by omega⟩
                  clear hbm hk6 hb6 hr6 q0 HLK hS hcw hrd3 q3
                  go_wp2_with fail
                  refine wp_region_planB [(true, 0), (true, 1), (true, 2), (true, 3), (true, 4), (true, 5), (true, 6), (true, 7), (true, 8), (true, 9), (true, 10), (true, 11), (true, 12), (true, 13), (true, 14), (true, 15), (true, 16)] (by kernel_rfl) (by kernel_rfl) (fun _ _ d _ _ h => by cases d <;> exact h) ?_
                  repeat (refine PlanB.take (v := ?_) rfl rfl ?_ ?_; rotate_left; (focus (intro W hW; obtain ⟨k1, k2, k3⟩ := HCW.out W hW; go_simp; (try with_reducible rfl); done)); (try simp only [Act.put, List.setIfInBounds_toArray, List.set_cons_zero, List.set_cons_succ]))
                  simp only [PlanB]
                  have HB7 := Lib.hid (HB6.out.drew)
                  clear HCW HB6
                  generalize w6.drew = w7 at HK6 HB7 ⊢
                  go_wp2_with fail
                  go_roundw
                  case rel => exact ⟨p + 1, z + 1, G5, by omega, by omega, by go_num, by go_num, HM2.out, HK6.out, HB7.out⟩
                  case measure => simp [intOf]; omega
              · have hln := blen_any w.heap.size q G5 _ wr hk5
                simp only [HL2.out] at hln
                have HLN := Lib.hid hln
                clear hln hk5 hb5 hz
                by_cases g1 : p < rows.length
                · have g2 : (p : Int) < (rows.length : Int) := by omega
                  have g3 : ¬ (p : Int) < 40 := by omega
                  clear hgo2 g1
                  go_wp2_with fail
                  refine HLN.out.mono ?_
                  rintro e w6 ⟨rfl, hb6⟩
                  have HB6 := Lib.hid (HB5.out.trans (hb6.mono hbs5))
                  clear hb6 HLN
                  go_wp2_with fail
                  go_ret
                  exact ⟨rfl, HB6.out⟩
                · have g2 : ¬ (p : Int) < (rows.length : Int) := by omega
                  clear hgo2 g1
                  go_wp2_with fail
                  refine HLN.out.mono ?_
                  rintro e w6 ⟨rfl, hb6⟩
                  have HB6 := Lib.hid (HB5.out.trans (hb6.mono hbs5))
                  clear hb6 HLN
                  go_wp2_with fail
                  go_ret
                  exact ⟨rfl, HB6.out⟩
end Go.Proofs.Ytjkhdlmdgdcimaa

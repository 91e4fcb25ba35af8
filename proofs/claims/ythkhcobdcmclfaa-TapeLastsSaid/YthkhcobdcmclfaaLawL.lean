/- TapeLasts's walk. -/
import Derived.Test.YthkhcobdcmclfaaAwk
import Derived.Test.YthkhcobdcmclfaaRC
import Derived.Test.YthkhcobdcmclfaaOpenT
import Derived.Deep.CutBlock
import Derived.Deep.DeepCutAuto
import Derived.Deep.Cut
import Derived.Deep.CutRange
namespace Go.Proofs.Ythkhcobdcmclfaa
open Go.RowKit

theorem RdR.at {w : World} {B : Nat} {v : Value} {l : List Row} (h : Rd encR 1 w B v l) : ∃ A c, v = .slice A l.length c ∧ l.length ≤ c ∧ ∀ i (_ : i < l.length), ∃ b o, A = some ⟨b, o, none⟩ ∧ b < B ∧ w.cell? ⟨b, o + i, none⟩ = some l[i].v := by
  obtain ⟨A, c, hv, hc, hi⟩ := h
  refine ⟨A, c, hv, hc, fun i hs => ?_⟩
  obtain ⟨b, o, hA, hB, h1⟩ := hi i hs
  have := h1 0 _ rfl
  rw [Nat.mul_one, Nat.add_zero] at this
  exact ⟨b, o, hA, hB, this⟩

set_option maxRecDepth 100000 in
theorem idx_strI (l : List UInt8) (k : Nat) (hk : k < l.length) (W : World) : (Instr.index 9 (.string (strB l)) (.int .i64 (k : Int))).run Try.prog W = .ok (.int .u8 (l[k].toNat : Int)) W := idx_str l k hk W
/-- the tape of TapeLasts -/
def lastT (S L : List UInt8) : Tp := ⟨S, L, 1048576, -1, false⟩
theorem lastT_add (S L b : List UInt8) (h : S.length + L.length + b.length ≤ 1048576) : (lastT S L).add b = (0, lastT S (L ++ b)) := Tp.add_live rfl (by show (-1 : Int) < 0; omega) b (by show ((_ : Nat) : Int) ≤ 1048576; simp only [lastT]; omega)
theorem lastT_sync (S L : List UInt8) : (lastT S L).sync = (0, lastT (S ++ L) []) := Tp.sync_live rfl (by show (-1 : Int) < 0; omega) (by show (0 : Int) ≤ 1048576; omega)

set_option maxHeartbeats 8000000 in
set_option maxRecDepth 100000 in
theorem tapeLasts_walk (l : List Row) (v : Value) (n1 : Nat) (hn1 : n1 < 256) (keep : Int) (n3 : Nat) (hn3 : n3 < 256) (w : World) (hv : Rd encR 1 w w.heap.size v l) (hl : l.length ≤ 140737488351232) (hall : ∀ r ∈ l, RdB w w.heap.size r.v r.l ∧ r.l.length ≤ 140737488351232) :
    Calls Try.prog 4 #[v, .int .u8 (n1 : Int), .int .i64 keep, .int .u8 (n3 : Int)] w fun e w' => e = .returned (.bool true) ∧ Below w.heap.size w w' := by
  obtain ⟨A, c, rfl, hc, -⟩ := RdR.at hv
  have HV := Lib.hid hv; clear hv
  have HALL := Lib.hid hall; clear hall
  have HN := Lib.hid (new_any 1048576 (by decide) (by decide) w)
  go_enter Try.func4, Try.ntmps4
  go_wp2_with fail
  refine HN.out.mono ?_
  rintro e w1 ⟨p, rfl, ht, hb⟩
  have HA := Lib.hid (awake_any w1)
  have H1 := Lib.hid ht; clear ht HN
  have HB := Lib.hid hb; clear hb
  go_wp2_with fail
  refine HA.out.mono ?_
  rintro e w2 ⟨rfl, hb⟩
  have H2 := Lib.hid (show TapeAt w2 w.heap.size p none (lastT [] []) from H1.out.mv (Mv.of_new hb (fun _ => False)) (fun h => h) (fun _ _ h => h))
  have HB2 := Lib.hid (HB.out.trans (hb.mono HB.out.size))
  clear hb HA H1 HB
  go_upto_block 0 with fail
  go_cut [11, 12] (fun av sv wx => ∃ (S L : List UInt8) (ov : Option Nat), av = .string (strB (S ++ L)) ∧ sv = .int .i64 (S.length : Int) ∧ S.length + L.length ≤ 50000 ∧ TapeAt wx w.heap.size p ov (lastT S L) ∧ Below w.heap.size w wx)
  case first =>
    go_wp2_with fail
    go_loopw [11, 12, 13] (fun av sv iv wr => ∃ (i : Nat) (S L : List UInt8) (ov : Option Nat), i ≤ 50 ∧ iv = .int .i64 (i : Int) ∧ av = .string (strB (S ++ L)) ∧ sv = .int .i64 (S.length : Int) ∧ S.length + L.length ≤ i * 1000 ∧ TapeAt wr w.heap.size p ov (lastT S L) ∧ Below w.heap.size w wr) (fun _ _ iv _ => 50 - (intOf iv).toNat)
    case atStart => exact ⟨0, [], [], none, by omega, rfl, rfl, rfl, by simp, H2.out, HB2.out⟩
    case round =>
      obtain ⟨i, S, L, ov, hi5, rfl, rfl, rfl, hsum, ht, hb⟩ := hrel
      have HT := Lib.hid ht
      have HB := Lib.hid hb
      have hbs := ht.low.2.2
      clear ht hb H2 HB2
      obtain ⟨a, ha⟩ : ∃ a, a = strB (S ++ L) := ⟨_, rfl⟩
      obtain ⟨sl, hsl⟩ : ∃ sl, sl = S.length := ⟨_, rfl⟩
      rw [← ha, ← hsl]
      have HAS := Lib.hid ha; clear ha
      have HSL := Lib.hid hsl; clear hsl
      have HSUM := Lib.hid hsum; clear hsum
      by_cases hgo : i < l.length ∧ i < 50
      · obtain ⟨hil, hi4⟩ := hgo
        have h1 : (i : Int) < (l.length : Int) := by omega
        have h2 : (i : Int) < 50 := by omega
        obtain ⟨A', c', e, -, hcell⟩ := RdR.at (HV.out.below HB.out (Nat.le_refl _))
        injection e with e1 e2 e3
        subst e1 e3
        obtain ⟨b, o, rfl, hbl, q0⟩ := hcell i hil
        clear hcell e2
        obtain ⟨hrd, hlen⟩ := HALL.out l[i] (List.getElem_mem hil)
        generalize l[i] = a2 at q0 hrd hlen
        obtain ⟨av, al⟩ := a2
        simp only at q0 hrd hlen
        obtain ⟨A1, c1, rfl, -, -⟩ := RdB.at hrd
        have HRD := Lib.hid hrd; clear hrd
        by_cases hbig : 1000 < al.length
        · have hbig2 : (1000 : Int) < (al.length : Int) := by omega
          clear hlen
          go_wp2_with fail
          go_meet
          case rel => exact ⟨S, L, ov, by rw [HAS.out], by rw [HSL.out], by have := HSUM.out; omega, HT.out, HB.out⟩
        · have hbig2 : ¬ (1000 : Int) < (al.length : Int) := by omega
          have HYR := Lib.hid (show ∀ w5, Below w.heap.size w w5 → RdB w5 w5.heap.size (.slice A1 al.length c1) al from fun w5 hb => ((HRD.out.below hb (Nat.le_refl _)).mono hb.size))
          have hlowp := HT.out.low
          have HD := Lib.hid (show ∀ i, TapeD p ov i → w.heap.size ≤ i from by rintro i (rfl | h); exact hlowp.1; exact (HT.out.row h.symm).1)
          have hc := add_any w.heap.size p ov (lastT S L) (.slice A1 al.length c1) al wr HT.out (fun w5 hm => HYR.out w5 (HB.out.trans (hm.below HT.out.low.2.2 HD.out))) hlen
          rw [lastT_add S L al (by have := HSUM.out; omega)] at hc
          have HC := Lib.hid hc
          clear hc hlowp
          go_wp2_with fail
          refine HC.out.mono ?_
          rintro e w5 ⟨rfl, ov2, hw⟩
          have HT5 := Lib.hid hw.now
          have HB5 := Lib.hid (HB.out.trans (hw.below HT.out))
          have hbs5 := hw.now.low.2.2
          have q5 : w5.cell? ⟨b, o + i, none⟩ = some (.slice A1 al.length c1) := by
            have := (Below.cell (p := ⟨b, o + i, none⟩) (hw.below HT.out) hbl).trans q0
            exact this
          have hcv := run_convB (HYR.out w5 HB5.out)
          have hcat : ¬ (9223372036854775807 < a.size + (strB al).size) := by
            have := HSUM.out
            rw [HAS.out, strB_size, strB_size, List.length_append]; omega
          obtain ⟨al', hal'⟩ : ∃ al', al' = strB al := ⟨_, rfl⟩
          rw [← hal'] at hcv hcat
          have HAL := Lib.hid hal'
          obtain ⟨m, hm⟩ : ∃ m, m = n1 % 50 := ⟨_, rfl⟩
          have hrem : (n1 : Int).tmod 50 = (m : Int) := by rw [Int.tmod_eq_emod_of_nonneg (by omega), hm]; simp
          have hm256 : m < 256 := by omega
          have hS2 : S.length + (L ++ al).length ≤ (i + 1) * 1000 := by have := HSUM.out; rw [List.length_append]; omega
          have HS2 := Lib.hid hS2
          have hA2 : a ++ al' = strB (S ++ (L ++ al)) := by rw [HAL.out, HAS.out, strB_append, List.append_assoc]
          have HA2 := Lib.hid hA2
          clear hal' hw HC q0 hm hS2 hA2 HT HB HD
          by_cases him : i = m
          · subst him
            have hs := sync_any w.heap.size p ov2 (lastT S (L ++ al)) w5 HT5.out
            rw [lastT_sync] at hs
            have HS := Lib.hid hs
            have hsz : (a ++ al').size = S.length + (L ++ al).length := by rw [HA2.out, strB_size, List.length_append]
            have HSZ := Lib.hid hsz
            clear hs hsz
            go_wp2_with fail
            refine HS.out.mono ?_
            rintro e w6 ⟨rfl, hw⟩
            have HT6 := Lib.hid hw.now
            have HB6 := Lib.hid (HB5.out.trans (hw.below HT5.out))
            clear hw HS HT5 HB5
            have hsz := HSZ.out
            rw [ByteArray.size_append] at hsz
            go_wp2_with fail
            go_roundw
            case rel =>
              refine ⟨i + 1, S ++ (L ++ al), [], ov2, by omega, by go_num, ?_, ?_, ?_, HT6.out, HB6.out⟩
              · rw [List.append_nil, HA2.out]
              · have := HSZ.out
                simp only [ByteArray.size_append, List.length_append] at this ⊢
                go_num
              · have := HS2.out
                rw [List.length_append, List.length_nil]
                omega
            case measure => simp [intOf]; omega
          · have him2 : ¬ (i : Int) = (m : Int) := by omega
            clear him
            go_wp2_with fail
            go_roundw
            case rel =>
              exact ⟨i + 1, S, L ++ al, ov2, by omega, by go_num, by rw [HA2.out], by rw [HSL.out], HS2.out, HT5.out, HB5.out⟩
            case measure => simp [intOf]; omega
      · have hex : ¬ ((i : Int) < (l.length : Int)) ∨ ((i : Int) < (l.length : Int) ∧ ¬ ((i : Int) < 50)) := by omega
        clear hgo
        rcases hex with h1 | ⟨h1, h2⟩
        · go_wp2_with fail
          go_meet
          case rel => exact ⟨S, L, ov, by rw [HAS.out], by rw [HSL.out], by have := HSUM.out; omega, HT.out, HB.out⟩
        · go_wp2_with fail
          go_meet
          case rel => exact ⟨S, L, ov, by rw [HAS.out], by rw [HSL.out], by have := HSUM.out; omega, HT.out, HB.out⟩
  case rest =>
    obtain ⟨S, L, ov, rfl, rfl, hsum, ht, hb⟩ := hcut
    obtain ⟨turn, hturn⟩ : ∃ turn : UInt8, (turn.toNat : Int) = (n3 : Int) := ⟨UInt8.ofNat n3, by simp; omega⟩
    have hcr := crash_any w.heap.size p ov (lastT S L) keep turn wc ht
    rw [hturn] at hcr
    have HC := Lib.hid hcr
    have HT := Lib.hid ht
    have HB := Lib.hid hb
    have HSUM := Lib.hid hsum
    obtain ⟨a, ha⟩ : ∃ a, a = strB (S ++ L) := ⟨_, rfl⟩
    obtain ⟨sl, hsl⟩ : ∃ sl, sl = S.length := ⟨_, rfl⟩
    rw [← ha, ← hsl]
    have HAS := Lib.hid ha
    have HSL := Lib.hid hsl
    clear hcr ht hb hsum H2 HB2 ha hsl hturn
    go_wp2_with fail
    refine HC.out.mono ?_
    rintro e w3 ⟨rfl, hw⟩
    have HT3 := Lib.hid hw.now
    have HB3 := Lib.hid (HB.out.trans (hw.below HT.out))
    clear hw HC HT HB
    obtain ⟨Y, hY⟩ : ∃ Y : List UInt8, Y = S ++ Tp.kept L keep turn := ⟨_, rfl⟩
    have HY := Lib.hid hY
    have hat := fun i => Tp.crash_at (lastT S L) keep turn i
    have HAT := Lib.hid (show ∀ i, i < Y.length → Y[i]? ≠ (S ++ L)[i]? → S.length ≤ i ∧ i + 1 = Y.length by rw [hY]; exact hat)
    have hyl := Tp.kept_len L keep turn
    have HYL := Lib.hid (show S.length ≤ Y.length ∧ Y.length ≤ (S ++ L).length by rw [hY, List.length_append, List.length_append]; omega)
    have hby := bytes_any w.heap.size p ov ((lastT S L).crash keep turn) w3 HT3.out
    rw [if_neg (by simp [Tp.crash]), if_neg (by simp [Tp.crash]), show ((lastT S L).crash keep turn).sure ++ ((lastT S L).crash keep turn).loose = Y by rw [hY]; simp [Tp.crash, lastT]] at hby
    have HBY := Lib.hid hby
    clear hby hyl hat hY
    go_wp2_with fail
    refine HBY.out.mono ?_
    rintro e w4 ⟨A4, c4, rfl, ho, hb4⟩
    have HO4 := Lib.hid ho.rdB
    have HT4 := Lib.hid (HT3.out.mv (Mv.of_new hb4 (fun _ => False)) (fun h => h) (fun _ _ h => h))
    have HB4 := Lib.hid (HB3.out.trans (hb4.mono HT3.out.low.2.2))
    clear ho hb4 HBY HT3 HB3
    have hlo := loose_any w.heap.size p ov _ w4 HT4.out
    rw [show ((((lastT S L).crash keep turn).loose.length : Nat) : Int) = 0 from rfl] at hlo
    have HLO := Lib.hid hlo; clear hlo
    go_wp2_with fail
    refine HLO.out.mono ?_
    rintro e w5 ⟨rfl, hb5⟩
    have HO5 := Lib.hid (Rd.next HO4.out hb5)
    have HB5 := Lib.hid (HB4.out.trans (hb5.mono HT4.out.low.2.2))
    clear hb5 HLO HT4 HB4 HO4
    have has : a.size = (S ++ L).length := by rw [HAS.out, strB_size]
    have hz1 : ¬ ((Y.length : Int) < (sl : Int)) := by have := HYL.out; have := HSL.out; omega
    have hz2 : ¬ ((a.size : Int) < (Y.length : Int)) := by rw [has]; have := HYL.out; omega
    have HASZ := Lib.hid has
    clear has
    have hyr : Y.length ≤ 50000 := by have := HYL.out; have := HSUM.out; rw [List.length_append] at *; omega
    go_wp2_with fail
    go_loopw [16, 17] (fun uv iv wr => ∃ (i u : Nat), i ≤ Y.length ∧ iv = .int .i64 (i : Int) ∧ uv = .int .i64 (u : Int) ∧ (i < Y.length → u = 0) ∧ u ≤ 1 ∧ RdB wr wr.heap.size (.slice A4 Y.length c4) Y ∧ Below w.heap.size w wr) (fun _ iv _ => Y.length - (intOf iv).toNat)
    case atStart => exact ⟨0, 0, Nat.zero_le _, rfl, rfl, fun _ => rfl, by omega, HO5.out, HB5.out⟩
    case round =>
      obtain ⟨i, u, hiY, rfl, rfl, hu0, hu1, hrd, hbw⟩ := hrel
      have HRD := Lib.hid hrd
      have HBW := Lib.hid hbw
      clear hrd hbw HO5 HB5 hz1 hz2
      by_cases hgo : i < Y.length
      · obtain rfl : u = 0 := hu0 hgo
        have h1 : (i : Int) < (Y.length : Int) := by omega
        obtain ⟨A', c', e, -, hcell⟩ := RdB.at HRD.out
        injection e with e1 e2 e3
        subst e1 e3
        obtain ⟨b, o, rfl, hbl, q0⟩ := hcell i hgo
        clear hcell e2
        have hgo2 : i < (S ++ L).length := by have := HYL.out; omega
        obtain ⟨y, hy⟩ : ∃ y : Nat, y = Y[i].toNat := ⟨_, rfl⟩
        obtain ⟨z, hz⟩ : ∃ z : Nat, z = (S ++ L)[i].toNat := ⟨_, rfl⟩
        rw [← hy] at q0
        have HCELL := Lib.hid (show ∀ W, Below wr.drew.heap.size wr.drew W → W.cell? ⟨b, o + i, none⟩ = some (.int .u8 (y : Int)) from fun W hW => (hW.cell (p := ⟨b, o + i, none⟩) hbl).trans q0)
        have HIDX := Lib.hid (show ∀ W : World, (Instr.index 9 (.string a) (.int .i64 (i : Int))).run Try.prog W = .ok (.int .u8 (z : Int)) W from fun W => by rw [HAS.out, hz]; exact idx_str (S ++ L) i hgo2 W)
        have hif : y ≠ z → S.length ≤ i ∧ i + 1 = Y.length := fun hne => HAT.out i hgo (by
          rw [List.getElem?_eq_getElem hgo, List.getElem?_eq_getElem hgo2]
          intro he
          injection he with he
          exact hne (by rw [hy, hz, he]))
        have HIF := Lib.hid hif
        clear hif hy hz q0 hu0 hu1
        go_wp2_with fail
        refine wp_region_planB [(true, 0), (true, 1), (true, 2), (true, 3), (true, 4), (true, 5), (true, 6), (true, 7)] (by kernel_rfl) (by kernel_rfl) (fun _ _ d _ _ h => by cases d <;> exact h) ?_
        have hrd6 : RdB wr.drew wr.drew.heap.size _ _ := HRD.out.drewN 1
        have hb6 := HBW.out.drew
        by_cases hyz : y = z
        · subst hyz
          clear HIF
          repeat (refine PlanB.take (v := ?_) rfl rfl ?_ ?_; rotate_left; (focus (intro W hW; have k1 := HCELL.out W hW; have k2 := HIDX.out W; go_simp; (try with_reducible rfl); done)); (try simp only [Act.put, List.setIfInBounds_toArray, List.set_cons_zero, List.set_cons_succ]))
          simp only [PlanB]
          clear HCELL HRD HBW
          generalize wr.drew = w7 at hrd6 hb6 ⊢
          have HRD := Lib.hid hrd6
          have HBW := Lib.hid hb6
          clear hrd6 hb6
          go_wp2_with fail
          go_roundw
          case rel => exact ⟨i + 1, 0, by omega, by go_num, rfl, fun _ => rfl, by omega, HRD.out, HBW.out⟩
          case measure => simp [intOf]; omega
        · obtain ⟨hs1, hs2⟩ := HIF.out hyz
          have hyz2 : ¬ (y : Int) = (z : Int) := by omega
          have t1 : ¬ ((i : Int) < (sl : Int)) := by have := HSL.out; omega
          have t2 : IntKind.i64.wrap ((Y.length : Int) - 1) = (i : Int) := by rw [wrap_small _ (by omega) (by omega)]; omega
          have HS2 := Lib.hid hs2
          have HT1 := Lib.hid t1
          have HT2 := Lib.hid t2
          clear HIF hs1 hs2 hyz t1 t2
          repeat (refine PlanB.take (v := ?_) rfl rfl ?_ ?_; rotate_left; (focus (intro W hW; have k1 := HCELL.out W hW; have k2 := HIDX.out W; go_simp; (try with_reducible rfl); done)); (try simp only [Act.put, List.setIfInBounds_toArray, List.set_cons_zero, List.set_cons_succ]))
          simp only [PlanB]
          clear HCELL HRD HBW
          generalize wr.drew = w7 at hrd6 hb6 ⊢
          have HRD := Lib.hid hrd6
          have HBW := Lib.hid hb6
          have t1 := HT1.out
          have t2 := HT2.out
          clear hrd6 hb6
          go_wp2_with fail
          go_roundw
          case rel => exact ⟨i + 1, 1, by omega, by go_num, by go_num, fun h => by have := HS2.out; omega, by omega, HRD.out, HBW.out⟩
          case measure => simp [intOf]; omega
      · have h1 : ¬ ((i : Int) < (Y.length : Int)) := by omega
        have hu2 : (u : Int) ≤ 1 := by omega
        clear hgo hu0
        go_wp2_with fail
        go_ret
        exact ⟨rfl, HBW.out⟩
end Go.Proofs.Ythkhcobdcmclfaa

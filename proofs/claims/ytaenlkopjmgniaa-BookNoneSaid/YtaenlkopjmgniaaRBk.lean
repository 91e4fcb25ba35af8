/- What the reference's Lay and Same answer, and the law's own fits. -/
import Derived.Test.YtaenlkopjmgniaaRws
import Derived.Test.YtaenlkopjmgniaaBk
import Derived.Test.YtaenlkopjmgniaaRefc
namespace Go.Proofs.Ytaenlkopjmgniaa
open Go.RowKit
attribute [local go_sem] same_str

theorem lay_take (L : List (List UInt8)) (i : Nat) (h : i < L.length) : lay (L.take (i + 1)) = lay (L.take i) ++ recB L[i] := by
  rw [List.take_add_one, List.getElem?_eq_getElem h, lay_append]
  simp [lay]
theorem lay_bound (L : List (List UInt8)) (h : fits L) : (lay L).length ≤ L.length * 65545 := by
  induction L with
  | nil => simp [lay]
  | cons r L ih =>
    have h1 := ih (fun x hx => h x (by simp [hx]))
    have h2 : r.length ≤ 65532 := h r (by simp)
    rw [lay_cons, List.length_append, recB_len, List.length_cons]
    have := enc_len9 (n := r.length + 4) (by omega)
    omega
theorem data_strB (l : List UInt8) : (strB l).data.toList = l := by simp [strB]
theorem strB_size' (a : List UInt8) : (strB a).size = a.length := by simp [strB, ByteArray.size]

set_option maxHeartbeats 4000000 in
set_option maxRecDepth 100000 in
theorem rlay_any (rows : List Row) (G : Nat → Prop) (v : Value) (w : World) (hv : RdRs w w.heap.size G v rows) (hf : fits (texts rows)) (hl : rows.length ≤ 1000000) :
    Calls Try.prog 12 #[v] w fun e w' => ∃ A c, e = .returned (.slice A (lay (texts rows)).length c) ∧ OwnB w' w.heap.size (.slice A (lay (texts rows)).length c) (lay (texts rows)) ∧ Below w.heap.size w w' := by
  obtain ⟨A, c, rfl, hc, -⟩ := hv.1
  have HV := Lib.hid hv; clear hv
  have HF := Lib.hid hf; clear hf
  have hLl : (texts rows).length = rows.length := by simp [texts]
  have HLL := Lib.hid hLl; clear hLl
  go_enter Try.func12, Try.ntmps12
  go_wp2_with fail
  go_loopw [3, 4] (fun ov iv wr => ∃ (i : Nat) (A' : Option Addr) (c' n : Nat), i ≤ rows.length ∧ iv = .int .i64 (i : Int) ∧ ov = .slice A' n c' ∧ n = (lay ((texts rows).take i)).length ∧ OwnB wr w.heap.size (.slice A' n c') (lay ((texts rows).take i)) ∧ Below w.heap.size w wr) (fun _ iv _ => rows.length - (intOf iv).toNat)
  case atStart => exact ⟨0, _, _, 0, Nat.zero_le _, rfl, rfl, by simp [lay], Own.empty _ _ (Nat.le_refl _), (Below.refl _ _).alloc (Nat.le_refl _) _⟩
  case round =>
    obtain ⟨i, A', c', n, hi, rfl, rfl, hn, ho, hb⟩ := hrel
    have hbs := hb.size
    by_cases hgo : i < rows.length
    · have h1 : (i : Int) < (rows.length : Int) := by omega
      have hbnd := lay_bound ((texts rows).take i) (fun r hr => HF.out r (List.mem_of_mem_take hr))
      rw [List.length_take, HLL.out] at hbnd
      have hnb : n ≤ 70000000000 := by rw [hn]; have : min i rows.length ≤ 1000000 := by omega
                                       omega
      have hrs := HV.out.mv (Mv.of_below hb) (Nat.le_refl _) (fun b h1 h2 => by omega)
      obtain ⟨⟨A0, c0, e0, -, hcell⟩, hrow⟩ := hrs
      injection e0 with e1 e2 e3
      subst e1 e3
      obtain ⟨b, o, rfl, hbl, -, q0⟩ := hcell i hgo
      have hrd := (hrow rows[i] (List.getElem_mem hgo)).rdB.mono hbs
      have hfit : rows[i].l.length ≤ 65532 := HF.out _ (List.mem_map.2 ⟨rows[i], List.getElem_mem hgo, rfl⟩)
      have hnext : lay ((texts rows).take (i + 1)) = lay ((texts rows).take i) ++ encT (sealed rows[i].l) := by
        rw [lay_take _ _ (by rw [HLL.out]; exact hgo)]
        simp [texts, recB]
      have HNX := Lib.hid hnext
      clear hnext hcell hrow e2
      generalize rows[i] = r at q0 hrd hfit HNX
      obtain ⟨ra, rc, rl⟩ := r
      simp only [Row.v] at q0 hrd hfit HNX
      have HS := Lib.hid (rseal_any rl _ wr hrd (by omega))
      obtain ⟨X, hX⟩ : ∃ X, X = lay ((texts rows).take i) := ⟨_, rfl⟩
      rw [← hX] at ho hn HNX
      have HO := Lib.hid ho
      have HB := Lib.hid hb
      have HN := Lib.hid hn
      have HXX := Lib.hid hX
      clear ho hb hrd hbnd hn hX
      go_wp2_with fail
      refine HS.out.mono ?_
      rintro e w1 ⟨A1, c1, rfl, ho1, hb1⟩
      have hcv := run_convB ho1.rdB
      have hsl : (sealed rl).length = rl.length + 4 := slen rl
      have HO1 := Lib.hid ((HO.out.below hb1 (Nat.le_refl _)))
      have HB1 := Lib.hid (HB.out.trans (hb1.mono hbs))
      have hbs1 := HB1.out.size
      have hput := rputText_any (strB (sealed rl)) (by rw [strB_size']; omega) X A' c' w1 w.heap.size (by rw [← HN.out]; exact HO1.out) (by omega) (by rw [strB_size', ← HN.out]; omega)
      rw [data_strB, ← HN.out] at hput
      have HP := Lib.hid hput
      clear hput ho1 hb1 hsl
      go_wp2_with fail
      refine HP.out.mono ?_
      rintro e w2 ⟨A2, c2, rfl, ho2, hb2, hz2⟩
      rw [← HNX.out] at ho2 ⊢
      obtain ⟨n2, hn2⟩ : ∃ n2, n2 = (lay ((texts rows).take (i + 1))).length := ⟨_, rfl⟩
      rw [← hn2] at ho2 ⊢
      have HO2 := Lib.hid ho2
      have HN2 := Lib.hid hn2
      have HB2 := Lib.hid (HB1.out.trans hb2)
      clear ho2 hb2 hn2 hcv
      go_wp2_with fail
      go_roundw
      case rel => exact ⟨i + 1, A2, c2, n2, by omega, by go_num, rfl, HN2.out, HO2.out, HB2.out⟩
      case measure => simp [intOf]; omega
    · have h1 : ¬ (i : Int) < (rows.length : Int) := by omega
      have hie : (texts rows).take i = texts rows := List.take_of_length_le (by rw [HLL.out]; omega)
      rw [hie] at hn ho
      have HO := Lib.hid ho
      have HB := Lib.hid hb
      have HN := Lib.hid hn
      clear hn ho hb hie
      go_wp2_with fail
      go_ret
      exact ⟨A', c', by rw [← HN.out]; rfl, by rw [← HN.out]; exact HO.out, HB.out⟩

set_option maxHeartbeats 4000000 in
set_option maxRecDepth 100000 in
theorem fits_any (rows : List Row) (G : Nat → Prop) (v : Value) (w : World) (hv : RdRs w w.heap.size G v rows) (hl : rows.length ≤ 140737488351232) :
    Calls Try.prog 11 #[v] w fun e w' => e = .returned (.bool (decide (fits (texts rows)))) ∧ w' = w := by
  obtain ⟨⟨A, c, rfl, hc, hi⟩, -⟩ := hv
  have HI := Lib.hid hi; clear hi
  go_enter Try.func11, Try.ntmps11
  go_wp2_with fail
  go_loop [3] (fun iv => ∃ i : Nat, i ≤ rows.length ∧ iv = .int .i64 (i : Int) ∧ fits (texts (rows.take i))) (fun iv => rows.length - (intOf iv).toNat)
  case atStart => exact ⟨0, Nat.zero_le _, rfl, by simp [texts, fits]⟩
  case round =>
    obtain ⟨i, hi, rfl, hf⟩ := hrel
    have HF := Lib.hid hf; clear hf
    by_cases hgo : i < rows.length
    · have h1 : (i : Int) < (rows.length : Int) := by omega
      obtain ⟨b, o, rfl, hb, -, q0⟩ := HI.out i hgo
      have hstep : fits (texts (rows.take (i + 1))) ↔ rows[i].l.length ≤ 65532 := by
        rw [List.take_add_one, List.getElem?_eq_getElem hgo]
        have := HF.out
        simp only [fits, texts, fitR, Option.toList_some, List.map_append, List.map_cons, List.map_nil, List.mem_append, List.mem_cons, List.not_mem_nil, or_false] at this ⊢
        constructor
        · intro h; exact h _ (.inr rfl)
        · rintro h r (hr | rfl)
          · exact this r hr
          · exact h
      have hall : fits (texts rows) → rows[i].l.length ≤ 65532 := fun h => h _ (List.mem_map.2 ⟨rows[i], List.getElem_mem hgo, rfl⟩)
      have HST := Lib.hid hstep
      have HALL := Lib.hid hall
      clear hstep hall
      generalize rows[i] = r at q0 HST HALL
      obtain ⟨ra, rc, rl⟩ := r
      simp only [Row.v] at q0 HST HALL
      by_cases hbig : 65532 < rl.length
      · have hb2 : (65532 : Int) < (rl.length : Int) := by omega
        have hd : decide (fits (texts rows)) = false := by rw [decide_eq_false]; intro h; have := HALL.out h; omega
        have HDD := Lib.hid hd; clear hd
        clear hbig
        go_wp2_with fail
        go_ret
        exact ⟨by rw [HDD.out]; rfl, rfl⟩
      · have hb2 : ¬ (65532 : Int) < (rl.length : Int) := by omega
        have HX := Lib.hid (HST.out.2 (by omega))
        clear hbig
        go_wp2_with fail
        go_round
        case rel => exact ⟨i + 1, by omega, by go_num, HX.out⟩
        case measure => simp [intOf]; omega
    · have h1 : ¬ (i : Int) < (rows.length : Int) := by omega
      have hd : decide (fits (texts rows)) = true := by
        have := HF.out
        rw [List.take_of_length_le (by omega)] at this
        exact decide_eq_true this
      have HDD := Lib.hid hd; clear hd
      go_wp2_with fail
      go_ret
      exact ⟨by rw [HDD.out]; rfl, rfl⟩

set_option maxHeartbeats 4000000 in
set_option maxRecDepth 100000 in
theorem rsame_any (r1 r2 : List Row) (G1 G2 : Nat → Prop) (v1 v2 : Value) (w : World) (hv1 : RdRs w w.heap.size G1 v1 r1) (hv2 : RdRs w w.heap.size G2 v2 r2) (hl1 : r1.length ≤ 140737488351232) (hl2 : r2.length ≤ 140737488351232) :
    Calls Try.prog 13 #[v1, v2] w fun e w' => e = .returned (.bool (decide (texts r1 = texts r2))) ∧ Below w.heap.size w w' := by
  obtain ⟨A1, c1, rfl, hc1, -⟩ := hv1.1
  obtain ⟨A2, c2, rfl, hc2, -⟩ := hv2.1
  have HV1 := Lib.hid hv1; clear hv1
  have HV2 := Lib.hid hv2; clear hv2
  by_cases hlen : r1.length = r2.length
  · have hl : (r1.length : Int) = (r2.length : Int) := by omega
    have HLN := Lib.hid hlen; clear hlen
    go_enter Try.func13, Try.ntmps13
    go_wp2_with fail
    go_loopw [5] (fun iv wr => ∃ i : Nat, i ≤ r1.length ∧ iv = .int .i64 (i : Int) ∧ texts (r1.take i) = texts (r2.take i) ∧ Below w.heap.size w wr) (fun iv _ => r1.length - (intOf iv).toNat)
    case atStart => exact ⟨0, Nat.zero_le _, rfl, by simp [texts], Below.refl _ _⟩
    case round =>
      obtain ⟨i, hi, rfl, hs, hb⟩ := hrel
      have HS := Lib.hid hs; clear hs
      by_cases hgo : i < r1.length
      · have h1 : (i : Int) < (r2.length : Int) := by have := HLN.out; omega
        have h1' : (i : Int) < (r1.length : Int) := by omega
        have hgo2 : i < r2.length := by have := HLN.out; omega
        have hx1 := HV1.out.mv (Mv.of_below hb) (Nat.le_refl _) (fun b h1 h2 => by omega)
        have hx2 := HV2.out.mv (Mv.of_below hb) (Nat.le_refl _) (fun b h1 h2 => by omega)
        have hrd1 := (hx1.row i hgo).rdB
        have hrd2 := (hx2.row i hgo2).rdB
        obtain ⟨⟨_, _, e0, -, hcell1⟩, -⟩ := hx1
        injection e0 with e1 e2 e3
        subst e1 e3
        obtain ⟨b1, o1, rfl, hbl1, -, q1⟩ := hcell1 i hgo
        obtain ⟨⟨_, _, e0, -, hcell2⟩, -⟩ := hx2
        injection e0 with e1 e2 e3
        subst e1 e3
        obtain ⟨b2, o2, rfl, hbl2, -, q2⟩ := hcell2 i hgo2
        clear hcell1 hcell2
        have hstep : texts (r1.take (i + 1)) = texts (r2.take (i + 1)) ↔ r1[i].l = r2[i].l := by
          rw [List.take_add_one, List.take_add_one, List.getElem?_eq_getElem hgo, List.getElem?_eq_getElem hgo2]
          have := HS.out
          simp only [texts, Option.toList_some, List.map_append, List.map_cons, List.map_nil] at this ⊢
          rw [this]
          simp
        have hall : texts r1 = texts r2 → r1[i].l = r2[i].l := fun h => by
          have h3 : (texts r1)[i]? = (texts r2)[i]? := by rw [h]
          simpa [texts, hgo, hgo2] using h3
        have HST := Lib.hid hstep
        have HALL := Lib.hid hall
        clear hstep hall
        have hbs := hb.size
        have HRD1 := Lib.hid hrd1
        have HRD2 := Lib.hid hrd2
        generalize r1[i] = x1 at q1 HRD1 HST HALL
        generalize r2[i] = x2 at q2 HRD2 HST HALL
        obtain ⟨xa1, xc1, xl1⟩ := x1
        obtain ⟨xa2, xc2, xl2⟩ := x2
        simp only [Row.v] at q1 q2 HRD1 HRD2 HST HALL
        have HK := Lib.hid (show ∀ W, Below wr.drew.heap.size wr.drew W → W.cell? ⟨b1, o1 + i, none⟩ = some (.slice xa1 xl1.length xc1) ∧ W.cell? ⟨b2, o2 + i, none⟩ = some (.slice xa2 xl2.length xc2) ∧
            (convert 36 9 (.slice xa1 xl1.length xc1)).run Try.prog W = .ok (.string (strB xl1)) W ∧ (convert 36 9 (.slice xa2 xl2.length xc2)).run Try.prog W = .ok (.string (strB xl2)) W from fun W hW =>
          ⟨(hW.cell (p := ⟨b1, o1 + i, none⟩) (Nat.lt_of_lt_of_le hbl1 hbs)).trans q1, (hW.cell (p := ⟨b2, o2 + i, none⟩) (Nat.lt_of_lt_of_le hbl2 hbs)).trans q2,
            run_convB (HRD1.out.below (((Below.refl _ wr).drew).trans hW) hbs), run_convB (HRD2.out.below (((Below.refl _ wr).drew).trans hW) hbs)⟩)
        have HB := Lib.hid hb
        clear hrd1 hrd2 hb q1 q2
        go_wp2_with fail
        by_cases heq : xl1 = xl2
        · have HX := Lib.hid (HST.out.2 heq)
          subst heq
          refine wp_region_planB [(true, 0), (true, 1), (true, 2), (true, 3), (true, 4), (true, 5), (true, 6), (true, 7), (true, 8), (true, 9), (true, 10)] (by kernel_rfl) (by kernel_rfl) (fun _ _ d _ _ h => by cases d <;> exact h) ?_
          repeat (refine PlanB.take (v := ?_) rfl rfl ?_ ?_; rotate_left; (focus (intro W hW; obtain ⟨k1, k2, k3, k4⟩ := HK.out W hW; go_simp; (try with_reducible rfl); done)); (try simp only [Act.put, List.setIfInBounds_toArray, List.set_cons_zero, List.set_cons_succ]))
          simp only [PlanB]
          have hb6 := HB.out.drew
          clear HK HB
          generalize wr.drew = w6 at hb6 ⊢
          have HB6 := Lib.hid hb6; clear hb6
          go_wp2_with fail
          go_roundw
          case rel => exact ⟨i + 1, by omega, by go_num, HX.out, HB6.out⟩
          case measure => simp [intOf]; omega
        · have hd : decide (texts r1 = texts r2) = false := decide_eq_false (fun h => heq (HALL.out h))
          have HDD := Lib.hid hd; clear hd
          refine wp_region_planB [(true, 0), (true, 1), (true, 2), (true, 3), (true, 4), (true, 5), (true, 6), (true, 7), (true, 8), (true, 9), (true, 10)] (by kernel_rfl) (by kernel_rfl) (fun _ _ d _ _ h => by cases d <;> exact h) ?_
          repeat (refine PlanB.take (v := ?_) rfl rfl ?_ ?_; rotate_left; (focus (intro W hW; obtain ⟨k1, k2, k3, k4⟩ := HK.out W hW; go_simp; (try with_reducible rfl); done)); (try simp only [Act.put, List.setIfInBounds_toArray, List.set_cons_zero, List.set_cons_succ]))
          simp only [PlanB]
          have hb6 := HB.out.drew
          clear HK HB
          generalize wr.drew = w6 at hb6 ⊢
          have HB6 := Lib.hid hb6; clear hb6
          go_wp2_with fail
          go_ret
          exact ⟨by rw [HDD.out]; rfl, HB6.out⟩
      · have h1 : ¬ (i : Int) < (r2.length : Int) := by have := HLN.out; omega
        have h1' : ¬ (i : Int) < (r1.length : Int) := by omega
        have hd : decide (texts r1 = texts r2) = true := by
          have := HS.out
          rw [List.take_of_length_le (by omega), List.take_of_length_le (by have := HLN.out; omega)] at this
          exact decide_eq_true this
        have HDD := Lib.hid hd; clear hd
        have HB := Lib.hid hb; clear hb
        go_wp2_with fail
        go_ret
        exact ⟨by rw [HDD.out]; rfl, HB.out⟩
  · have hl : ¬ (r1.length : Int) = (r2.length : Int) := by omega
    have hd : decide (texts r1 = texts r2) = false := decide_eq_false (fun h => hlen (by have := congrArg List.length h; simpa [texts] using this))
    rw [hd]
    clear hlen
    go_enter Try.func13, Try.ntmps13
    go_wp2_with fail
    go_ret
    exact ⟨rfl, Below.refl _ _⟩
end Go.Proofs.Ytaenlkopjmgniaa

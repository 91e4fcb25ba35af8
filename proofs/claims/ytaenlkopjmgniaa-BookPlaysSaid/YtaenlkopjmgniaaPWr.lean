/- The program's records as they stand on a tape. -/
import Derived.Test.YtaenlkopjmgniaaPF
import Derived.Test.YtaenlkopjmgniaaRBk
import Derived.Test.YtaenlkopjmgniaaWnum
import Derived.Test.YtaenlkopjmgniaaSeal
namespace Go.Proofs.Ytaenlkopjmgniaa
open Go.RowKit

theorem fits_step {rows : List Row} {i : Nat} (hgo : i < rows.length) (h : fits (texts (rows.take i))) (h1 : rows[i].l.length ≤ 65532) : fits (texts (rows.take (i + 1))) := by
  rw [List.take_add_one, List.getElem?_eq_getElem hgo]
  simp only [fits, texts, fitR, Option.toList_some, List.map_append, List.map_cons, List.map_nil, List.mem_append, List.mem_cons, List.not_mem_nil, or_false] at h ⊢
  rintro r (hr | rfl)
  · exact h r hr
  · exact h1
theorem texts_take (rows : List Row) (i : Nat) : texts (rows.take i) = (texts rows).take i := by simp [texts]

set_option maxHeartbeats 4000000 in
set_option maxRecDepth 100000 in
theorem bwrite_any (rows : List Row) (G : Nat → Prop) (v : Value) (w : World) (hv : RdRs w w.heap.size G v rows) (hl : rows.length ≤ 1000) (hr : ∀ r ∈ rows, r.l.length ≤ 140737488351232) :
    Calls Try.prog 37 #[v] w fun e w' => Below w.heap.size w w' ∧
      ((fits (texts rows) ∧ ∃ A c n, e = .returned (.tuple #[.slice A n c, .int .i64 0]) ∧ n = (lay (texts rows)).length ∧ OwnB w' w.heap.size (.slice A n c) (lay (texts rows))) ∨ (¬ fits (texts rows) ∧ e = .returned (.tuple #[.slice none 0 0, .int .i64 6]))) := by
  obtain ⟨A, c, rfl, hc, -⟩ := hv.1
  have HV := Lib.hid hv; clear hv
  have HR := Lib.hid hr; clear hr
  have hLl : (texts rows).length = rows.length := by simp [texts]
  have HLL := Lib.hid hLl; clear hLl
  go_enter Try.func37, Try.ntmps37
  go_wp2_with fail
  go_loopw [4, 11] (fun ov iv wr => ∃ (i : Nat) (A' : Option Addr) (c' n : Nat), i ≤ rows.length ∧ iv = .int .i64 (i : Int) ∧ ov = .slice A' n c' ∧ n = (lay ((texts rows).take i)).length ∧ OwnB wr w.heap.size (.slice A' n c') (lay ((texts rows).take i)) ∧ fits (texts (rows.take i)) ∧ Below w.heap.size w wr) (fun _ iv _ => rows.length - (intOf iv).toNat)
  case atStart => exact ⟨0, _, _, 0, Nat.zero_le _, rfl, rfl, rfl, Own.nil _ _, by simp [texts, fits], Below.refl _ _⟩
  case round =>
    obtain ⟨i, A', c', n, hi, rfl, rfl, hn, ho, hf, hb⟩ := hrel
    have hbs := hb.size
    by_cases hgo : i < rows.length
    · have h1 : (i : Int) < (rows.length : Int) := by omega
      have hbnd := lay_bound ((texts rows).take i) (by rw [← texts_take]; exact hf)
      rw [List.length_take, HLL.out] at hbnd
      have hnb : n ≤ 70000000 := by
        have : min i rows.length ≤ 1000 := by omega
        rw [hn]; omega
      have hrs := HV.out.mv (Mv.of_below hb) (Nat.le_refl _) (fun b h1 h2 => by omega)
      obtain ⟨⟨A0, c0, e0, -, hcell⟩, hrow⟩ := hrs
      injection e0 with e1 e2 e3
      subst e1 e3
      obtain ⟨b, o, rfl, hbl, -, q0⟩ := hcell i hgo
      have hrd := (hrow rows[i] (List.getElem_mem hgo)).rdB.mono hbs
      have hbig : rows[i].l.length ≤ 140737488351232 := HR.out _ (List.getElem_mem hgo)
      have hstep := fits_step hgo hf
      have hall : fits (texts rows) → rows[i].l.length ≤ 65532 := fun h => h _ (List.mem_map.2 ⟨rows[i], List.getElem_mem hgo, rfl⟩)
      have hnext : lay ((texts rows).take (i + 1)) = lay ((texts rows).take i) ++ encT (sealed rows[i].l) := by
        rw [lay_take _ _ (by rw [HLL.out]; exact hgo)]
        simp [texts, recB]
      have HNX := Lib.hid hnext
      have HST := Lib.hid hstep
      have HALL := Lib.hid hall
      clear hnext hcell hrow e2 hstep hall hf
      generalize rows[i] = r at q0 hrd hbig HNX HST HALL
      obtain ⟨ra, rc, rl⟩ := r
      simp only [Row.v] at q0 hrd hbig HNX HST HALL
      have HS := Lib.hid (seal_any rl _ wr hrd (by omega))
      have hsl : (sealed rl).length = rl.length + 4 := slen rl
      have HSL := Lib.hid hsl
      obtain ⟨X, hX⟩ : ∃ X, X = lay ((texts rows).take i) := ⟨_, rfl⟩
      rw [← hX] at ho hn HNX
      have HO := Lib.hid ho
      have HB := Lib.hid hb
      have HN := Lib.hid hn
      have HXX := Lib.hid hX
      clear ho hb hrd hbnd hn hX hsl
      go_wp2_with fail
      refine HS.out.mono ?_
      rintro e w1 ⟨rfl, hro, hb1⟩
      have hcv := run_convB hro.whole
      have HO1 := Lib.hid (HO.out.below hb1 (Nat.le_refl _))
      have HB1 := Lib.hid (HB.out.trans (hb1.mono hbs))
      have hbs1 := HB1.out.size
      have hput := putText_any [] (.slice none 0 0) (strB (sealed rl)) w1 (Rd.nil _ _) (by simp) (by rw [strB_size', HSL.out]; omega)
      have hpa : putTAns [] (strB (sealed rl)) = if rl.length ≤ 65532 then (encT (sealed rl), 0) else ([], 6) := by
        unfold putTAns
        rw [strB_size', HSL.out]
        by_cases h : rl.length ≤ 65532
        · rw [if_neg (by omega), if_pos h, data_strB]; rfl
        · rw [if_pos (by omega), if_neg h]
      rw [hpa] at hput
      have HP := Lib.hid hput
      clear hput hro hb1 hpa
      go_wp2_with fail
      refine HP.out.mono ?_
      rintro e w2 ⟨v2, rfl, hrd2, hb2⟩
      have HO2 := Lib.hid (HO1.out.below hb2 (Nat.le_refl _))
      have HB2 := Lib.hid (HB1.out.trans (hb2.mono hbs1))
      have hbs2 := HB2.out.size
      clear hcv HP HS hb2
      by_cases hfit : rl.length ≤ 65532
      · rw [if_pos hfit] at hrd2 ⊢
        have HRD2 := Lib.hid hrd2
        have HFT := Lib.hid (HST.out hfit)
        have hel : (encT (sealed rl)).length ≤ 65545 := by
          rw [encT, List.length_append, HSL.out]
          have := enc_len9 (n := rl.length + 4) (by omega)
          omega
        clear hrd2
        generalize encT (sealed rl) = E at HRD2 HNX hel
        obtain ⟨A9, c9, hv9, -, -⟩ := HRD2.out
        subst hv9
        have hXl : X.length = n := HN.out.symm
        go_wp2_with (at_builtin; go_must (refine wpList_addBG rfl _ _ rfl w.heap.size (.slice A' n c') X rfl HO2.out w2.heap.size _ E rfl HRD2.out (by omega) hbs2 ?_))
        intro A3 c3 w3 ho3 hg3
        have ho4 : OwnB w3 w.heap.size (.slice A3 (n + E.length) c3) (X ++ E) := by have h := ho3.out; simpa only [List.length_append, hXl] using h
        have HB3 := Lib.hid (HO2.out.grown HB2.out hg3.out (Nat.le_refl _) hbs2)
        clear ho3 hg3
        rw [← HNX.out] at ho4
        obtain ⟨n3, hn3⟩ : ∃ n3, n3 = n + E.length := ⟨_, rfl⟩
        rw [← hn3] at ho4 ⊢
        have HO3 := Lib.hid ho4
        have HN3 := Lib.hid (show n3 = (lay ((texts rows).take (i + 1))).length by rw [hn3, HNX.out, List.length_append, hXl])
        clear hn3 hXl ho4
        go_wp2_with fail
        go_roundw
        case rel => exact ⟨i + 1, A3, c3, n3, by omega, by go_num, rfl, HN3.out, HO3.out, HFT.out, HB3.out⟩
        case measure => simp [intOf]; omega
      · rw [if_neg hfit] at hrd2 ⊢
        have HNF := Lib.hid (show ¬ fits (texts rows) from fun h => hfit (HALL.out h))
        clear hrd2
        go_wp2_with fail
        go_ret2
        exact ⟨HB2.out, .inr ⟨HNF.out, rfl⟩⟩
    · have h1 : ¬ (i : Int) < (rows.length : Int) := by omega
      have hie : (texts rows).take i = texts rows := List.take_of_length_le (by rw [HLL.out]; omega)
      rw [hie] at hn ho
      rw [texts_take, hie] at hf
      have HO := Lib.hid ho
      have HB := Lib.hid hb
      have HN := Lib.hid hn
      have HF := Lib.hid hf
      clear hn ho hb hie hf
      go_wp2_with fail
      go_ret2
      exact ⟨HB.out, .inl ⟨HF.out, A', c', n, rfl, HN.out, HO.out⟩⟩
end Go.Proofs.Ytaenlkopjmgniaa

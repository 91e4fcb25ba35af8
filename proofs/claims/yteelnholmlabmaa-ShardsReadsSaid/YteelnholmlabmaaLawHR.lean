/- ShardsReads's walk. -/
import Derived.Test.YteelnholmlabmaaHAwk
import Derived.Test.YteelnholmlabmaaVal
namespace Go.Proofs.Yteelnholmlabmaa
open Go.RowKit

theorem trs_get2 {rows : List Tr} {L : List Txn} (h : rows.map Tr.t = L) {i : Nat} (hi : i < rows.length) : L[i]? = some rows[i].t := by
  rw [← h]
  simp [hi]
/-- has one of the spans the key -/
def anyB (k : K) (l : List (K × K)) : Bool := l.any (fun s => hasB s k)
theorem anyB_take (k : K) (l : List (K × K)) {i : Nat} (h : i < l.length) : anyB k (l.take (i + 1)) = (anyB k (l.take i) || hasB l[i] k) := by
  unfold anyB
  rw [List.take_succ_eq_append_getElem h, List.any_append]
  simp
theorem anyB_all (k : K) (l : List (K × K)) : anyB k (l.take l.length) = anyB k l := by rw [List.take_length]
theorem meetB (s r : K × K) (k : K) : hasB (meet r s) k = (hasB r k && hasB s k) := by
  rw [Bool.eq_iff_iff, Bool.and_eq_true, hasB_iff, hasB_iff, hasB_iff]
  exact meet_has r s k
theorem meetP_any (s : K × K) (k : K) : ∀ l : List (K × K), anyB k (meetP s l) = (anyB k l && hasB s k)
  | [] => by simp [meetP, anyB]
  | r :: l => by
    have h2 := meetP_any s k l
    have e : meetP s (r :: l) = (if (meet r s).1 < (meet r s).2 then [meet r s] else []) ++ meetP s l := by simp [meetP]
    have hm := meetB s r k
    have h3 : anyB k (if (meet r s).1 < (meet r s).2 then [meet r s] else []) = hasB (meet r s) k := by
      by_cases h : (meet r s).1 < (meet r s).2
      · rw [if_pos h]; simp [anyB]
      · rw [if_neg h]
        have : hasB (meet r s) k = false := by
          rw [Bool.eq_false_iff]
          intro g
          have g := (hasB_iff _ _).1 g
          unfold has at g
          grind
        rw [this]; rfl
    rw [e]
    have e2 : ∀ a c : List (K × K), anyB k (a ++ c) = (anyB k a || anyB k c) := fun a c => by unfold anyB; rw [List.any_append]
    have e3 : anyB k (r :: l) = (hasB r k || anyB k l) := by simp [anyB]
    rw [e2, h3, h2, hm, e3]
    cases hasB r k <;> cases hasB s k <;> cases anyB k l <;> rfl
theorem piece_any {b : List K} (hb : okB b) {k : K} (hk : k.size ≤ 16) {n : Nat} (hn : n ≤ b.length) (l : List (K × K)) : anyB k (meetP (pieceB b n) l) = (anyB k l && decide (n = whichB b k)) := by
  rw [meetP_any]
  have h : hasB (pieceB b n) k = decide (n = whichB b k) := by
    rw [Bool.eq_iff_iff, decide_eq_true_iff, hasB_iff]
    exact pieceB_has hb hk hn
  rw [h]
/-- in how many of the first pieces a key is -/
def cntB (o : Bool) (m j : Nat) : Nat := if o = true ∧ m < j then 1 else 0
theorem cntB_le (o : Bool) (m j : Nat) : cntB o m j ≤ 1 := by unfold cntB; split <;> omega
theorem cntB_step (o : Bool) (m j : Nat) : cntB o m (j + 1) = if (o && decide (j = m)) = true then cntB o m j + 1 else cntB o m j := by
  unfold cntB
  cases o
  · simp
  · by_cases h : j = m
    · subst h; simp
    · simp only [h, decide_false, Bool.and_false, Bool.false_eq_true, if_false, true_and]
      by_cases g : m < j
      · rw [if_pos (by omega), if_pos g]
      · rw [if_neg (by omega), if_neg g]
set_option maxHeartbeats 4000000 in
set_option maxRecDepth 100000 in
theorem shardsReads_walk (b : List K) (t : Txn) (k : K) (hk : k.size < 4611686018427387904) (hft : fitT t) (hrd : t.read < 9223372036854775808) (vb v1 v2 : Value) (w : World) (hb : RdK w w.heap.size vb b) (hv1 : RdP w w.heap.size v1 t.reads) (hv2 : RdC w w.heap.size v2 t.chgs) (hbl : b.length ≤ 140737488351232) :
    Calls Try.prog 9 #[vb, tval t v1 v2, .string k] w fun e w' => e = .returned (.bool true) ∧ Below w.heap.size w w' := by
  obtain ⟨W1, hW1⟩ : ∃ W1, W1 = w.alloc (.cells #[.int .i64 t.read, v1, v2] 45) := ⟨_, rfl⟩
  have hB1 : Below w.heap.size w W1 := by rw [hW1]; exact (Below.refl _ w).alloc (Nat.le_refl _) _
  have hs1 : W1.heap.size = w.heap.size + 1 := by rw [hW1]; simp
  have hx1 : Whole W1 w.heap.size 45 [.int .i64 t.read, v1, v2] := by rw [hW1]; exact Whole.fresh w _ [_, _, _]
  have hbK := fun W (h : Below W1.heap.size W1 W) => (show RdK W W.heap.size vb b from (hb.below (hB1.trans (h.mono (by omega))) (Nat.le_refl _)).mono (by have := h.size; omega))
  have hvP := fun W (h : Below W1.heap.size W1 W) => (show RdP W W.heap.size v1 t.reads from (hv1.below (hB1.trans (h.mono (by omega))) (Nat.le_refl _)).mono (by have := h.size; omega))
  have hvC := fun W (h : Below W1.heap.size W1 W) => (show RdC W W.heap.size v2 t.chgs from (hv2.below (hB1.trans (h.mono (by omega))) (Nat.le_refl _)).mono (by have := h.size; omega))
  have HP := Lib.hid (pcarve_any b t hft hrd vb v1 v2 W1 (hbK W1 (Below.refl _ _)) (hvP W1 (Below.refl _ _)) (hvC W1 (Below.refl _ _)) hbl)
  have HX := Lib.hid (fun W (h : Below W1.heap.size W1 W) => hx1.below h hx1.size)
  have HVP := Lib.hid hvP
  have HA := Lib.hid awake_any
  have HB1 := Lib.hid hB1
  obtain ⟨Ab, cb, rfl, _⟩ := hb.at
  obtain ⟨A1, c1, rfl, _⟩ := hv1.at
  obtain ⟨A2, c2, rfl, _⟩ := hv2.at
  clear hb hv1 hv2 hbK hvP hvC hB1
  have k0 := hx1.cell 0 _ rfl
  have k1 := hx1.cell 1 _ rfl
  have k2 := hx1.cell 2 _ rfl
  clear hx1
  unfold tval at HP ⊢
  go_enter Try.func9, Try.ntmps9
  go_wp2_with fail
  rw [← hW1]
  go_wp2_with fail
  refine HP.out.mono ?_
  rintro e w1 ⟨v1, q1, rfl, hsp1, hb1⟩
  clear k0 k1 k2
  have HD1 := Lib.hid hb1; clear hb1
  have HBW1 := Lib.hid (HB1.out.trans (HD1.out.mono (by omega)))
  by_cases hq0 : q1 = 0
  case neg =>
    have hqb : (q1 == 0) = false := by simpa using hq0
    clear hsp1
    go_wp2_with fail
    refine (HA.out w1).mono ?_
    rintro e w2 ⟨rfl, hb2⟩
    have HB2 := Lib.hid (HBW1.out.trans (hb2.mono HBW1.out.size)); clear hb2
    go_wp2_with fail
    refine (HA.out w2).mono ?_
    rintro e w3 ⟨rfl, hb3⟩
    have HB3 := Lib.hid (HB2.out.trans (hb3.mono HB2.out.size)); clear hb3
    go_wp2_with fail
    go_ret
    exact ⟨by first | rfl | trivial, HB3.out⟩
  subst hq0
  rcases hsp1 with ⟨_, h, _⟩ | ⟨hok, hst, _, rows, hr, hm, hp⟩
  · exact absurd h (by omega)
  by_cases hk16 : k.size ≤ 16
  case neg =>
    have hk17 : (16 : Int) < (k.size : Int) := by omega
    obtain ⟨A1, c1, rfl, _⟩ := hr.at
    clear hm hp hr hok hst
    go_wp2_with fail
    refine (HA.out w1).mono ?_
    rintro e w2 ⟨rfl, hb2⟩
    have HB2 := Lib.hid (HBW1.out.trans (hb2.mono HBW1.out.size)); clear hb2
    go_wp2_with fail
    refine (HA.out w2).mono ?_
    rintro e w3 ⟨rfl, hb3⟩
    have HB3 := Lib.hid (HB2.out.trans (hb3.mono HB2.out.size)); clear hb3
    go_wp2_with fail
    go_ret
    exact ⟨by first | rfl | trivial, HB3.out⟩
  have hk17 : ¬ (16 : Int) < (k.size : Int) := by omega
  have hln : rows.length = b.length + 1 := by have := congrArg List.length hm; simpa [carvesOf] using this
  obtain ⟨A3, c3, rfl, _, hi1⟩ := hr.at
  have hb7 := hok.1
  have hrl := hst.2.1
  have hcl := hst.2.2.2.1
  have hwl := whichB_le b k
  obtain ⟨m, hm0⟩ : ∃ m, m = whichB b k := ⟨_, rfl⟩
  rw [← hm0] at hwl
  have hrow : ∀ i (_ : i ≤ b.length), ∃ (b1 o1 : Nat) (r1 : Tr), A3 = some ⟨b1, o1, none⟩ ∧ b1 < w1.heap.size ∧ (w1.cell? ⟨b1, o1 + i * 3, none⟩ = some (.int .i64 t.read) ∧ w1.cell? ⟨b1, o1 + i * 3 + 1, none⟩ = some r1.v1 ∧ w1.cell? ⟨b1, o1 + i * 3 + 2, none⟩ = some r1.v2) ∧ r1.reads.length ≤ t.reads.length ∧ r1.chgs.length ≤ t.chgs.length ∧ anyB k r1.reads = (anyB k t.reads && decide (i = m)) ∧ RdP w1 w1.heap.size r1.v1 r1.reads := fun i hi => by
    have h1 : i < rows.length := by omega
    have hi9 : i < b.length + 1 := by omega
    obtain ⟨b1, o1, e1, l1, k1⟩ := hi1 i h1
    have g1 := trs_get2 hm h1
    have g3 : rows[i].t = carveT b t i := by
      have : (carvesOf b t (b.length + 1))[i]? = some (carveT b t i) := by unfold carvesOf; simp [hi9]
      rw [g1] at this
      simpa using this
    have g4 : rows[i].reads = meetP (pieceB b i) t.reads := congrArg Txn.reads g3
    have g5 : rows[i].chgs = cutP (pieceB b i) t.chgs := congrArg Txn.chgs g3
    have g6 : rows[i].read = t.read := congrArg Txn.read g3
    rw [g6] at k1
    refine ⟨b1, o1, rows[i], e1, l1, k1, ?_, ?_, ?_, (hp _ (List.getElem_mem h1)).1⟩
    · rw [g4]; exact meetP_len (pieceB b i) t.reads
    · rw [g5]; exact cutP_len (pieceB b i) t.chgs
    · rw [g4, hm0]; exact piece_any hok hk16 hi t.reads
  have HROW := Lib.hid hrow; clear hrow
  obtain ⟨N, hN⟩ : ∃ N, N = b.length := ⟨_, rfl⟩
  rw [hln, ← hN]
  rw [← hN] at HROW hwl hb7
  clear hok hst hr hm hp hi1 hln hN hm0 hbl
  obtain ⟨rd, rl, cl⟩ := t
  simp only at HROW HVP HX hrl hcl
  have hi1 : ∀ i (_ : i < rl.length), ∃ b0 o0, A1 = some ⟨b0, o0, none⟩ ∧ ∀ W, Below W1.heap.size W1 W → W.cell? ⟨b0, o0 + i * 2, none⟩ = some (.string rl[i].1) ∧ W.cell? ⟨b0, o0 + i * 2 + 1, none⟩ = some (.string rl[i].2) := fun i hi => by
    have h0 := HVP.out W1 (Below.refl _ _)
    obtain ⟨A, c, e, _, hh⟩ := h0.at
    simp only [Value.slice.injEq] at e
    obtain ⟨rfl, _, _⟩ := e
    obtain ⟨b0, o0, e0, l0, c0, c1⟩ := hh i hi
    exact ⟨b0, o0, e0, fun W h => ⟨(h.cell (p := ⟨b0, _, none⟩) l0).trans c0, (h.cell (p := ⟨b0, _, none⟩) l0).trans c1⟩⟩
  have HI := Lib.hid hi1; clear hi1
  go_wp2_with fail
  refine (HA.out w1).mono ?_
  rintro e w2 ⟨rfl, hb2⟩
  have HD2 := Lib.hid (HD1.out.trans (hb2.mono HD1.out.size))
  have HD12 := Lib.hid hb2; clear hb2
  go_wp2_with fail
  go_loopw [9, 11] (fun ov iv wr => ∃ i : Nat, i ≤ rl.length ∧ iv = .int .i64 i ∧ ov = .bool (anyB k (rl.take i)) ∧ Hid (Below w2.heap.size w2 wr)) (fun _ iv _ => rl.length - (intOf iv).toNat)
  case atStart => exact ⟨0, Nat.zero_le _, rfl, rfl, Lib.hid (Below.refl _ _)⟩
  case round =>
    obtain ⟨i, hil, rfl, rfl, HBW⟩ := hrel
    have hd := HD2.out.trans (HBW.out.mono HD2.out.size)
    have hx := HX.out wr hd
    have k1 := hx.cell 1 _ rfl
    clear hx
    by_cases hlt : i < rl.length
    · have HT := Lib.hid (anyB_take k rl hlt)
      obtain ⟨b0, o0, rfl, hc⟩ := HI.out i hlt
      obtain ⟨c0, c1⟩ := hc wr hd
      clear hc
      have hi1 : (i : Int) < (rl.length : Int) := by omega
      have hi0 : (0 : Int) ≤ (i : Int) := by omega
      have H3 := Lib.hid (rhas_any rl[i] k wr)
      have hh : (decide (rl[i].1 ≤ k) && decide (k < rl[i].2)) = hasB rl[i] k := rfl
      rw [hh] at H3
      clear hh hd
      generalize rl[i] = z at H3 HT c0 c1
      obtain ⟨z1, z2⟩ := z
      simp only at H3 c0 c1
      generalize anyB k (rl.take i) = o at HT
      cases o
      · generalize hasB (z1, z2) k = o2 at H3 HT
        go_wp2_with fail
        refine H3.out.mono ?_
        rintro e w3 ⟨rfl, hb3⟩
        have HB3 := Lib.hid (HBW.out.trans (hb3.mono HBW.out.size)); clear hb3
        clear k1 c0 c1
        go_wp2_with fail
        go_roundw
        case rel => exact ⟨i + 1, by omega, by go_num, by rw [HT.out]; simp, HB3⟩
        case measure => simp [intOf]; omega
      · clear H3
        go_wp2_with fail
        go_roundw
        case rel => exact ⟨i + 1, by omega, by go_num, by rw [HT.out]; simp, HBW⟩
        case measure => simp [intOf]; omega
    · obtain rfl : i = rl.length := by omega
      rw [anyB_all]
      clear hlt hil
      obtain ⟨o, ho⟩ : ∃ o, o = anyB k rl := ⟨_, rfl⟩
      rw [← ho] at HROW ⊢
      clear ho
      have hws := HBW.out.size
      have HDR := Lib.hid hd
      have HD1R := Lib.hid (HD12.out.trans (HBW.out.mono HD12.out.size))
      clear hd
      obtain ⟨wA, rfl⟩ : ∃ wA, wA = wr := ⟨_, rfl⟩
      go_wp2_with fail
      go_loopw [10, 12] (fun fv iv wr => ∃ j : Nat, j ≤ N + 1 ∧ iv = .int .i64 j ∧ fv = .int .i64 (cntB o m j) ∧ Hid (Below wA.heap.size wA wr)) (fun _ iv _ => N + 1 - (intOf iv).toNat)
      case atStart => exact ⟨0, Nat.zero_le _, rfl, by simp [cntB], Lib.hid (Below.refl _ _)⟩
      case round =>
        obtain ⟨j, hjl, rfl, rfl, HBW⟩ := hrel
        have hws := HBW.out.size
        by_cases hlt : j ≤ N
        · obtain ⟨b1, o1, r1, rfl, l1, kk, hlr, hlc, hany, p1⟩ := HROW.out j hlt
          obtain ⟨rd1, rA1, rc1, rl1, rA2, rc2, rl2⟩ := r1
          unfold Tr.v1 Tr.v2 at kk
          unfold Tr.v1 at p1
          simp only at kk p1 hlr hlc hany
          obtain ⟨A4, c4, e4, _, hi4⟩ := p1.at
          simp only [Value.slice.injEq] at e4
          obtain ⟨rfl, _, rfl⟩ := e4
          have hst := cntB_step o m j
          rw [← hany] at hst
          obtain ⟨wB, rfl⟩ : ∃ wB, wB = wr := ⟨_, rfl⟩
          have hD1B := HD1R.out.trans (HBW.out.mono HD1R.out.size)
          have hDB := HDR.out.trans (HBW.out.mono HDR.out.size)
          have hk := fun W (hW : Below wB.heap.size wB W) => (show W.cell? ⟨b1, o1 + j * 3, none⟩ = some (.int .i64 rd) ∧ W.cell? ⟨b1, o1 + j * 3 + 1, none⟩ = some (.slice rA1 rl1.length rc1) ∧ W.cell? ⟨b1, o1 + j * 3 + 2, none⟩ = some (.slice rA2 rl2.length rc2) ∧ W.cell? ⟨w.heap.size, 0, none⟩ = some (.int .i64 rd) ∧ W.cell? ⟨w.heap.size, 1, none⟩ = some (.slice A1 rl.length c1) ∧ W.cell? ⟨w.heap.size, 2, none⟩ = some (.slice A2 cl.length c2) from by
            have hw1 := hD1B.trans (hW.mono hD1B.size)
            have hx := HX.out W (hDB.trans (hW.mono hDB.size))
            exact ⟨(hw1.cell (p := ⟨b1, _, none⟩) l1).trans kk.1, (hw1.cell (p := ⟨b1, _, none⟩) l1).trans kk.2.1, (hw1.cell (p := ⟨b1, _, none⟩) l1).trans kk.2.2, hx.cell 0 _ rfl, hx.cell 1 _ rfl, hx.cell 2 _ rfl⟩)
          have hi5 : ∀ i (_ : i < rl1.length), ∃ b0 o0, rA1 = some ⟨b0, o0, none⟩ ∧ ∀ W, Below wB.heap.size wB W → W.cell? ⟨b0, o0 + i * 2, none⟩ = some (.string rl1[i].1) ∧ W.cell? ⟨b0, o0 + i * 2 + 1, none⟩ = some (.string rl1[i].2) := fun i hi => by
            obtain ⟨b0, o0, e0, l0, c0, c1⟩ := hi4 i hi
            exact ⟨b0, o0, e0, fun W hW => ⟨((hD1B.trans (hW.mono hD1B.size)).cell (p := ⟨b0, _, none⟩) l0).trans c0, ((hD1B.trans (hW.mono hD1B.size)).cell (p := ⟨b0, _, none⟩) l0).trans c1⟩⟩
          have HK := Lib.hid hk; clear hk kk
          have HI5 := Lib.hid hi5; clear hi5 hi4 p1
          have HST := Lib.hid hst; clear hst
          have HANY := Lib.hid hany; clear hany
          have HDA := Lib.hid (show decide ((rl.length : Int) < (rl1.length : Int)) = false from decide_eq_false (by omega))
          have HDB := Lib.hid (show decide (rl.length < rl1.length) = false from decide_eq_false (by omega))
          have HDC := Lib.hid (show decide ((cl.length : Int) < (rl2.length : Int)) = false from decide_eq_false (by omega))
          have HDD := Lib.hid (show decide (cl.length < rl2.length) = false from decide_eq_false (by omega))
          have hl24 : rl1.length ≤ 24 := by omega
          clear hD1B hDB l1 hlr hlc
          have hj0 : (0 : Int) ≤ (j : Int) := by omega
          have hj1 : (j : Int) < (N : Int) + 1 := by omega
          generalize cntB o m j = f at HST
          go_wp2_with fail
          go_loopw [13, 14] (fun ov iv wr => ∃ i : Nat, i ≤ rl1.length ∧ iv = .int .i64 i ∧ ov = .bool (anyB k (rl1.take i)) ∧ Hid (Below wB.heap.size wB wr)) (fun _ iv _ => rl1.length - (intOf iv).toNat)
          case atStart => exact ⟨0, Nat.zero_le _, rfl, rfl, Lib.hid (Below.refl _ _)⟩
          case round =>
            obtain ⟨i, hil2, rfl, rfl, HB5⟩ := hrel
            have hws5 := HB5.out.size
            have k1 := (HK.out wr HB5.out).2.1
            by_cases hlt2 : i < rl1.length
            · have HT := Lib.hid (anyB_take k rl1 hlt2)
              obtain ⟨b0, o0, rfl, hc⟩ := HI5.out i hlt2
              obtain ⟨c0, c1⟩ := hc wr HB5.out
              clear hc
              have hi1 : (i : Int) < (rl1.length : Int) := by omega
              have hi0 : (0 : Int) ≤ (i : Int) := by omega
              have H3 := Lib.hid (rhas_any rl1[i] k wr)
              have hh : (decide (rl1[i].1 ≤ k) && decide (k < rl1[i].2)) = hasB rl1[i] k := rfl
              rw [hh] at H3
              clear hh
              generalize rl1[i] = z at H3 HT c0 c1
              obtain ⟨z1, z2⟩ := z
              simp only at H3 c0 c1
              generalize anyB k (rl1.take i) = o4 at HT
              cases o4
              · generalize hasB (z1, z2) k = o2 at H3 HT
                go_wp2_with fail
                refine H3.out.mono ?_
                rintro e w3 ⟨rfl, hb3⟩
                have HB6 := Lib.hid (HB5.out.trans (hb3.mono hws5)); clear hb3
                clear k1 c0 c1
                go_wp2_with fail
                go_roundw
                case rel => exact ⟨i + 1, by omega, by go_num, by rw [HT.out]; simp, HB6⟩
                case measure => simp [intOf]; omega
              · clear H3
                go_wp2_with fail
                go_roundw
                case rel => exact ⟨i + 1, by omega, by go_num, by rw [HT.out]; simp, HB5⟩
                case measure => simp [intOf]; omega
            · obtain rfl : i = rl1.length := by omega
              rw [anyB_all]
              clear hlt2 hil2
              generalize anyB k rl1 = v at HST HANY
              cases v
              · have HST := Lib.hid (show cntB o m (j + 1) = f by rw [HST.out]; simp)
                go_wp2_with fail
                refine wp_region_planT (fun W => Below wB.heap.size wB W) (.take 0 (.take 1 (.take 2 (.take 3 (.take 4 (.take 5 (.take 6 (.take 7 (.take 8 (.take 9 (.take 10 (.take 11 (.take 12 (.take 13 (.take 14 (.take 15 (.take 16 (.take 17 (.take 18 (.take 19 (.take 20 (.take 21 (.take 22 (.take 23 (.take 24 (.take 25 (.take 26 (.take 27 (.take 28 (.take 29 (.take 30 (.take 31 .done)))))))))))))))))))))))))))))))) (by kernel_rfl) (by kernel_rfl) (fun _ _ d _ _ h => by cases d <;> exact h) ((HB5.out).drew) ?_
                repeat (first | (refine PlanT.takeI (v := ?_) rfl rfl ?_ ?_; rotate_left; (focus (intro W hW; have m := HK.out W hW; have m0 := m.1; have m1 := m.2.1; have m2 := m.2.2.1; have n0 := m.2.2.2.1; have n1 := m.2.2.2.2.1; have n2 := m.2.2.2.2.2; have kda := HDA.out; have kdb := HDB.out; have kdc := HDC.out; have kdd := HDD.out; go_simp; (try with_reducible rfl); done)); (try simp only [Act.put, List.setIfInBounds_toArray, List.set_cons_zero, List.set_cons_succ])) | (refine PlanT.skip rfl rfl ?_; (try simp only [Act.put, List.setIfInBounds_toArray, List.set_cons_zero, List.set_cons_succ])))
                simp only [PlanT]
                go_wp2_with fail
                go_roundw
                case rel => exact ⟨j + 1, by omega, by go_num, by rw [HST.out]; try go_num, Lib.hid (HBW.out.trans (HB5.out.drew.mono HBW.out.size))⟩
                case measure => simp [intOf]; omega
              · have HST := Lib.hid (show cntB o m (j + 1) = f + 1 by rw [HST.out]; simp)
                have hf : f + 1 ≤ 1 := by rw [← HST.out]; exact cntB_le o m (j + 1)
                go_wp2_with fail
                refine wp_region_planT (fun W => Below wB.heap.size wB W) (.take 0 (.take 1 (.take 2 (.take 3 (.take 4 (.take 5 (.take 6 (.take 7 (.take 8 (.take 9 (.take 10 (.take 11 (.take 12 (.take 13 (.take 14 (.take 15 (.take 16 (.take 17 (.take 18 (.take 19 (.take 20 (.take 21 (.take 22 (.take 23 (.take 24 (.take 25 (.take 26 (.take 27 (.take 28 (.take 29 (.take 30 (.take 31 .done)))))))))))))))))))))))))))))))) (by kernel_rfl) (by kernel_rfl) (fun _ _ d _ _ h => by cases d <;> exact h) ((HB5.out).drew) ?_
                repeat (first | (refine PlanT.takeI (v := ?_) rfl rfl ?_ ?_; rotate_left; (focus (intro W hW; have m := HK.out W hW; have m0 := m.1; have m1 := m.2.1; have m2 := m.2.2.1; have n0 := m.2.2.2.1; have n1 := m.2.2.2.2.1; have n2 := m.2.2.2.2.2; have kda := HDA.out; have kdb := HDB.out; have kdc := HDC.out; have kdd := HDD.out; go_simp; (try with_reducible rfl); done)); (try simp only [Act.put, List.setIfInBounds_toArray, List.set_cons_zero, List.set_cons_succ])) | (refine PlanT.skip rfl rfl ?_; (try simp only [Act.put, List.setIfInBounds_toArray, List.set_cons_zero, List.set_cons_succ])))
                simp only [PlanT]
                go_wp2_with fail
                go_roundw
                case rel => exact ⟨j + 1, by omega, by go_num, by rw [HST.out]; try go_num, Lib.hid (HBW.out.trans (HB5.out.drew.mono HBW.out.size))⟩
                case measure => simp [intOf]; omega
        · obtain rfl : j = N + 1 := by omega
          have hend : cntB o m (N + 1) = if o = true then 1 else 0 := by
            unfold cntB
            cases o
            · simp
            · simp; omega
          have HFIN := Lib.hid (HBW1.out.trans ((HD1R.out.trans (HBW.out.mono HD1R.out.size)).mono HBW1.out.size))
          rw [hend]
          clear hend
          cases o
          · rw [if_neg (by decide)]
            go_wp2_with fail
            go_ret
            exact ⟨by first | rfl | trivial, HFIN.out⟩
          · rw [if_pos rfl]
            go_wp2_with fail
            go_ret
            exact ⟨by first | rfl | trivial, HFIN.out⟩
end Go.Proofs.Yteelnholmlabmaa

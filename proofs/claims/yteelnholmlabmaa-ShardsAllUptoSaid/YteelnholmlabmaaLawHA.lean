/- ShardsAll's walk. -/
import Derived.Test.YteelnholmlabmaaHAwk
import Derived.Test.YteelnholmlabmaaRSame
import Derived.Test.YteelnholmlabmaaAllP
namespace Go.Proofs.Yteelnholmlabmaa
open Go.RowKit

theorem rows_get2 {rows : List Rw} {L : List (List Chg)} (h : rows.map (·.l) = L) {i : Nat} (hi : i < rows.length) : L[i]? = some rows[i].l := by
  rw [← h]
  simp [hi]
theorem small_of_check {c : Chg} (h : checkAns c = 0) : smallC c := by
  unfold checkAns at h
  unfold smallC
  split at h
  · split at h
    · omega
    · omega
  · split at h
    · split at h <;> omega
    · split at h
      · split at h
        · omega
        · omega
      · omega
theorem pair_small {Q : Prs} (h : soundP Q = true) : ∀ p ∈ Q, p.1.size < 4611686018427387904 ∧ p.2.size < 4611686018427387904 := fun p hp => by
  have := (soundP_spec h).2 p hp
  omega
set_option maxHeartbeats 4000000 in
set_option maxRecDepth 100000 in
theorem shardsAll_walk (b : List K) (P : Prs) (l : List Chg) (hsP : ∀ p ∈ P, p.1.size < 4611686018427387904 ∧ p.2.size < 4611686018427387904) (hs : ∀ c ∈ l, smallC c) (vb vp vl : Value) (w : World) (hb : RdK w w.heap.size vb b) (hvp : RdP w w.heap.size vp P) (hv : RdC w w.heap.size vl l) (hbl : b.length ≤ 140737488351232) (hlP : P.length ≤ 4000000) (hl : l.length ≤ 4000000) :
    Calls Try.prog 8 #[vb, vp, vl] w fun e w' => e = .returned (.bool true) ∧ Below w.heap.size w w' := by
  have HP := Lib.hid (pspread_any b l hs vb vl w hb hv hbl (by omega))
  have hvP := fun W (h : Below w.heap.size w W) => (show RdP W W.heap.size vp P from (hvp.below h (Nat.le_refl _)).mono h.size)
  have hvL := fun W (h : Below w.heap.size w W) => (show RdC W W.heap.size vl l from (hv.below h (Nat.le_refl _)).mono h.size)
  have HSD := Lib.hid (fun W (h : Below w.heap.size w W) => rsound_any P hsP vp W (hvP W h) (by omega))
  have HAP := Lib.hid (fun W (h : Below w.heap.size w W) => rapply_any P l hsP hs vp vl W (hvP W h) (hvL W h) (by omega))
  have HVP := Lib.hid hvP; clear hvP hvL
  have HA := Lib.hid awake_any
  obtain ⟨Ab, cb, rfl, _⟩ := hb.at
  obtain ⟨Al, cl, rfl, _⟩ := hv.at
  obtain ⟨Ap, cp, rfl, _⟩ := hvp.at
  clear hb hv hvp
  go_enter Try.func8, Try.ntmps8
  go_wp2_with fail
  refine HP.out.mono ?_
  rintro e w1 ⟨v1, q1, rfl, hsp1, hb1⟩
  have HB1 := Lib.hid hb1; clear hb1
  have hbad : q1 ≠ 0 → (∃ A c, v1 = .slice A 0 c) → Hid True → True := fun _ _ _ => trivial
  clear hbad
  by_cases hq0 : q1 = 0
  case neg =>
    have hqb : (q1 == 0) = false := by simpa using hq0
    clear hsp1
    go_wp2_with fail
    refine (HA.out w1).mono ?_
    rintro e w2 ⟨rfl, hb2⟩
    have HB2 := Lib.hid (HB1.out.trans (hb2.mono HB1.out.size)); clear hb2
    go_wp2_with fail
    refine (HA.out w2).mono ?_
    rintro e w3 ⟨rfl, hb3⟩
    have HB3 := Lib.hid (HB2.out.trans (hb3.mono HB2.out.size)); clear hb3
    go_wp2_with fail
    go_ret
    exact ⟨by first | rfl | trivial, HB3.out⟩
  subst hq0
  rcases hsp1 with ⟨_, h, _⟩ | ⟨_, h1, h2, _⟩ | ⟨hok, hall, _, rows, hr, hm, hp⟩
  · exact absurd h (by omega)
  · exact absurd h2.symm h1
  have hln : rows.length = b.length + 1 := by have := congrArg List.length hm; simpa [rowsOf] using this
  obtain ⟨A1, c1, rfl, _, hi1⟩ := hr.at
  obtain ⟨N, hN⟩ : ∃ N, N = b.length := ⟨_, rfl⟩
  rw [← hN] at hln
  rw [hln]
  have HN := Lib.hid hN; clear hN
  go_wp2_with fail
  refine (HA.out w1).mono ?_
  rintro e w2 ⟨rfl, hb2⟩
  have HB2 := Lib.hid (HB1.out.trans (hb2.mono HB1.out.size))
  have HB12 := Lib.hid hb2; clear hb2
  have H3 := Lib.hid (HSD.out w2 HB2.out)
  obtain ⟨sd, hsd⟩ : ∃ sd, sd = soundP P := ⟨_, rfl⟩
  rw [← hsd] at H3
  cases sd
  case false =>
    clear hi1 hm hp hr hok hall hln HN
    go_wp2_with fail
    refine H3.out.mono ?_
    rintro e w3 ⟨rfl, hb3⟩
    have HB3 := Lib.hid (HB2.out.trans (hb3.mono HB2.out.size)); clear hb3
    go_wp2_with fail
    refine (HA.out w3).mono ?_
    rintro e w4 ⟨rfl, hb4⟩
    have HB4 := Lib.hid (HB3.out.trans (hb4.mono HB3.out.size)); clear hb4
    go_wp2_with fail
    go_ret
    exact ⟨by first | rfl | trivial, HB4.out⟩
  replace hsd := hsd.symm
  have hb7 := hok.1
  have hN := HN.out
  rw [← hN] at hb7
  have hrow : ∀ i (_ : i ≤ N), ∃ (b1 o1 : Nat) (r1 : Rw), A1 = some ⟨b1, o1, none⟩ ∧ b1 < w1.heap.size ∧ w1.cell? ⟨b1, o1 + i, none⟩ = some r1.v ∧ r1.l = cutP (pieceB b i) l ∧ RdC w1 w1.heap.size r1.v r1.l := fun i hi => by
    have h1 : i < rows.length := by omega
    have hi9 : i < b.length + 1 := by omega
    obtain ⟨b1, o1, e1, l1, k1⟩ := hi1 i h1
    have g1 := rows_get2 hm h1
    refine ⟨b1, o1, rows[i], e1, l1, k1, ?_, hp _ (List.getElem_mem h1)⟩
    have : (rowsOf b l (b.length + 1))[i]? = some (cutP (pieceB b i) l) := by unfold rowsOf; simp [hi9]
    rw [g1] at this
    simpa using this
  have hstep : ∀ j (_ : j ≤ N) (r1 : Rw) (_ : r1.l = cutP (pieceB b (N - j)) l) (v : Value) (W : World) (_ : RdP W W.heap.size v (partsTo b l P j)) (_ : RdC W W.heap.size r1.v r1.l),
      Calls Try.prog 24 #[v, r1.v] W fun e w' => ∃ v', e = .returned (.tuple #[v', .int .i64 0]) ∧ Below W.heap.size W w' ∧ RdP w' w'.heap.size v' (partsTo b l P (j + 1)) := fun j hj r1 hr1 v W h1 h2 => by
    have hsj := partsTo_sound hok hall hsd j
    have hoks := partsTo_oks hok hall j
    rw [← hN, ← hr1] at hoks
    have hlen := partsTo_len b l P j
    have hlc := cutP_len (pieceB b (N - j)) l
    rw [← hr1] at hlc
    have hj8 : j * l.length ≤ 8 * 4000000 := Nat.mul_le_mul (by omega) hl
    have hall2 : allAns r1.l = 0 := allAns_ok hoks
    refine (rapply_any (partsTo b l P j) r1.l (pair_small hsj) (fun c hc => small_of_check (hoks c hc)) v r1.v W h1 h2 (by omega)).mono ?_
    rintro e w' ⟨v', q, he, hb', h⟩
    rcases h with ⟨h3, h4, _⟩ | ⟨_, h4, _⟩ | ⟨_, _, rfl, h4⟩
    · exact absurd (h3.trans hall2) h4
    · rw [hsj] at h4; exact absurd h4 (by decide)
    · refine ⟨v', he, hb', ?_⟩
      have e2 : partsTo b l P (j + 1) = applyP (partsTo b l P j) (cutP (pieceB b (b.length - j)) l) := rfl
      rw [e2, ← hN, ← hr1]
      exact h4
  have hend : partsTo b l P (N + 1) = applyP P l := by rw [hN]; exact partsTo_all hok hall hsd
  have hlenE := applyP_len l P
  have HSTEP := Lib.hid hstep; clear hstep
  have HROW := Lib.hid hrow; clear hrow
  have HEND := Lib.hid hend; clear hend
  have HALL := Lib.hid hall
  have HSD2 := Lib.hid hsd
  clear hi1 hm hp hr hok hall hln hN HN hsd
  go_wp2_with fail
  refine H3.out.mono ?_
  rintro e w3 ⟨rfl, hb3⟩
  have HB3 := Lib.hid (HB2.out.trans (hb3.mono HB2.out.size))
  have HB13 := Lib.hid (HB12.out.trans (hb3.mono HB12.out.size)); clear hb3
  have H4 := Lib.hid (HAP.out w3 HB3.out)
  go_wp2_with fail
  refine H4.out.mono ?_
  rintro e w4 ⟨v4, q4, rfl, hb4, hap⟩
  have HB4 := Lib.hid (HB3.out.trans (hb4.mono HB3.out.size))
  have HB14 := Lib.hid (HB13.out.trans (hb4.mono HB13.out.size)); clear hb4
  rcases hap with ⟨h, h', _⟩ | ⟨_, h, _⟩ | ⟨_, _, rfl, hr4⟩
  · exact absurd (h.trans HALL.out) h'
  · rw [HSD2.out] at h; exact absurd h (by decide)
  obtain ⟨A4, c4, rfl, _⟩ := hr4.at
  have HR4 := Lib.hid hr4; clear hr4
  have hl4 : (applyP P l).length ≤ 8000000 := by omega
  generalize applyP P l = Z at HR4 HEND hl4
  clear hlenE
  go_wp2_with fail
  go_loopw [1, 11] (fun pv iv wr => ∃ j : Nat, j ≤ N + 1 ∧ iv = .int .i64 ((N : Int) - j) ∧ Hid (RdP wr wr.heap.size pv (partsTo b l P j)) ∧ Hid (Below w4.heap.size w4 wr)) (fun _ iv _ => (intOf iv + 1).toNat)
  case atStart => exact ⟨0, Nat.zero_le _, by go_num, Lib.hid (HVP.out w4 HB4.out), Lib.hid (Below.refl _ _)⟩
  case round =>
    obtain ⟨j, hjl, rfl, HPJ, HBW⟩ := hrel
    have hws := HBW.out.size
    by_cases hlt : j ≤ N
    · obtain ⟨i, hi⟩ : ∃ i, i = N - j := ⟨_, rfl⟩
      have hij : (N : Int) - j = i := by omega
      obtain ⟨b1, o1, r1, rfl, l1, k1, hrl, p1⟩ := HROW.out i (by omega)
      obtain ⟨A5, c5, l5⟩ := r1
      unfold Rw.v at k1 p1
      simp only at k1 p1 hrl
      have hB1w := HB14.out.trans (HBW.out.mono HB14.out.size)
      have hk : wr.cell? ⟨b1, o1 + i, none⟩ = some (.slice A5 l5.length c5) := (hB1w.cell (p := ⟨b1, _, none⟩) l1).trans k1
      obtain ⟨A6, c6, rfl, _⟩ := HPJ.out.at
      have h5 := HSTEP.out j hlt ⟨A5, c5, l5⟩ (by rw [← hi]; exact hrl) _ wr HPJ.out (p1.next hB1w)
      unfold Rw.v at h5
      simp only at h5
      have H5 := Lib.hid h5
      clear h5 hB1w p1 hrl k1
      rw [hij]
      have hi0 : (0 : Int) ≤ (i : Int) := by omega
      have hi1 : (i : Int) < ((N + 1 : Nat) : Int) := by omega
      have HJ2 := Lib.hid (show j = N - i by omega)
      clear hi hij
      go_wp2_with fail
      refine H5.out.mono ?_
      rintro e w5 ⟨v5, rfl, hb5, hr5⟩
      obtain ⟨A7, c7, rfl, _⟩ := hr5.at
      have HR5 := Lib.hid hr5; clear hr5
      have HB5 := Lib.hid (HBW.out.trans (hb5.mono hws)); clear hb5
      clear hk
      go_wp2_with fail
      go_roundw
      case rel => have := HJ2.out; exact ⟨j + 1, by omega, by go_num, HR5, HB5⟩
      case measure => have := HJ2.out; simp [intOf]; try omega
    · obtain rfl : j = N + 1 := by omega
      rw [HEND.out] at HPJ
      obtain ⟨A6, c6, rfl, _⟩ := HPJ.out.at
      have hneg : (N : Int) - ((N + 1 : Nat) : Int) = -1 := by omega
      rw [hneg]
      have H6 := Lib.hid (pairs_any Z Z (.slice A6 Z.length c6) (.slice A4 Z.length c4) wr HPJ.out (HR4.out.next HBW.out) (by omega) (by omega))
      rw [decide_eq_true rfl] at H6
      clear hneg
      go_wp2_with fail
      refine H6.out.mono ?_
      rintro e w6 ⟨rfl, hb6⟩
      have HB6 := Lib.hid ((HB4.out.trans (HBW.out.mono HB4.out.size)).trans (hb6.mono (HB4.out.trans (HBW.out.mono HB4.out.size)).size)); clear hb6
      go_wp2_with fail
      go_ret
      exact ⟨by first | rfl | trivial, HB6.out⟩
end Go.Proofs.Yteelnholmlabmaa

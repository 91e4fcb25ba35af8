/- ShardsSpread's walk. -/
import Derived.Test.YteelnholmlabmaaHAwk
import Derived.Test.YteelnholmlabmaaRSame
namespace Go.Proofs.Yteelnholmlabmaa
open Go.RowKit

theorem rows_get {rows : List Rw} {L : List (List Chg)} (h : rows.map (·.l) = L) {i : Nat} (hi : i < rows.length) : L[i]? = some rows[i].l := by
  rw [← h]
  simp [hi]
set_option maxHeartbeats 4000000 in
set_option maxRecDepth 100000 in
theorem shardsSpread_walk (b : List K) (l : List Chg) (hs : ∀ c ∈ l, smallC c) (vb vl : Value) (w : World) (hb : RdK w w.heap.size vb b) (hv : RdC w w.heap.size vl l) (hbl : b.length ≤ 140737488351232) (hl : l.length ≤ 4000000000000) :
    Calls Try.prog 5 #[vb, vl] w fun e w' => e = .returned (.bool true) ∧ Below w.heap.size w w' := by
  have HP := Lib.hid (pspread_any b l hs vb vl w hb hv hbl hl)
  have HR := Lib.hid (fun W (h : Below w.heap.size w W) => rspread_any b l hs vb vl W ((hb.below h (Nat.le_refl _)).mono h.size) ((hv.below h (Nat.le_refl _)).mono h.size) hbl (by omega))
  have HA := Lib.hid awake_any
  obtain ⟨Ab, cb, rfl, _⟩ := hb.at
  obtain ⟨Al, cl, rfl, _⟩ := hv.at
  clear hb hv
  go_enter Try.func5, Try.ntmps5
  go_wp2_with fail
  refine HP.out.mono ?_
  rintro e w1 ⟨v1, q1, rfl, hsp1, hb1⟩
  have H2 := Lib.hid (HR.out w1 hb1)
  have HB1 := Lib.hid hb1; clear hb1
  have HS1 := Lib.hid hsp1; clear hsp1
  go_wp2_with fail
  refine H2.out.mono ?_
  rintro e w2 ⟨v2, q2, rfl, hsp2, hb2⟩
  have hsp1 := HS1.out.next hb2
  have HB2 := Lib.hid (HB1.out.trans (hb2.mono HB1.out.size)); clear hb2
  rcases hsp1 with ⟨hok, rfl, A1, c1, rfl⟩ | ⟨hok, hall, hq1, A1, c1, rfl⟩ | ⟨hok, hall, rfl, rows1, hr1, hm1, hp1⟩
  · rcases hsp2 with ⟨_, rfl, A2, c2, rfl⟩ | ⟨h, _⟩ | ⟨h, _⟩
    · clear hok
      go_wp2_with fail
      refine (HA.out w2).mono ?_
      rintro e w3 ⟨rfl, hb3⟩
      have HB3 := Lib.hid (HB2.out.trans (hb3.mono HB2.out.size)); clear hb3
      go_wp2_with fail
      go_loopw [9] (fun iv wr => iv = .int .i64 0 ∧ Hid (Below w.heap.size w wr)) (fun _ _ => 0)
      case atStart => exact ⟨rfl, HB3⟩
      case round =>
        obtain ⟨rfl, HBW⟩ := hrel
        go_wp2_with fail
        go_ret
        exact ⟨by first | rfl | trivial, HBW.out⟩
    · exact absurd h hok
    · exact absurd h hok
  · rcases hsp2 with ⟨h, _⟩ | ⟨_, _, hq2, A2, c2, rfl⟩ | ⟨_, h, _⟩
    · exact absurd hok h
    · have hqq : q1 = q2 := by rw [hq1, hq2]
      subst hqq
      clear hok hall hq1 hq2
      go_wp2_with fail
      refine (HA.out w2).mono ?_
      rintro e w3 ⟨rfl, hb3⟩
      have HB3 := Lib.hid (HB2.out.trans (hb3.mono HB2.out.size)); clear hb3
      go_wp2_with fail
      go_loopw [9] (fun iv wr => iv = .int .i64 0 ∧ Hid (Below w.heap.size w wr)) (fun _ _ => 0)
      case atStart => exact ⟨rfl, HB3⟩
      case round =>
        obtain ⟨rfl, HBW⟩ := hrel
        go_wp2_with fail
        go_ret
        exact ⟨by first | rfl | trivial, HBW.out⟩
    · exact absurd h hall
  · rcases hsp2 with ⟨h, _⟩ | ⟨_, h, _⟩ | ⟨_, _, rfl, rows2, hr2, hm2, hp2⟩
    · exact absurd hok h
    · exact absurd hall h
    · have hln1 : rows1.length = b.length + 1 := by have := congrArg List.length hm1; simpa [rowsOf] using this
      have hln2 : rows2.length = b.length + 1 := by have := congrArg List.length hm2; simpa [rowsOf] using this
      have hb7 := hok.1
      obtain ⟨A1, c1, rfl, _, hi1⟩ := hr1.at
      obtain ⟨A2, c2, rfl, _, hi2⟩ := hr2.at
      obtain ⟨N, hN⟩ : ∃ N, N = b.length + 1 := ⟨_, rfl⟩
      rw [← hN] at hln1 hln2
      have hN8 : N ≤ 8 := by omega
      have hrow : ∀ i (_ : i < N), ∃ (b1 o1 b2 o2 : Nat) (r1 r2 : Rw), A1 = some ⟨b1, o1, none⟩ ∧ A2 = some ⟨b2, o2, none⟩ ∧ b1 < w2.heap.size ∧ b2 < w2.heap.size ∧ w2.cell? ⟨b1, o1 + i, none⟩ = some r1.v ∧ w2.cell? ⟨b2, o2 + i, none⟩ = some r2.v ∧ r1.l = r2.l ∧ r1.l.length ≤ 4000000000000 ∧ RdC w2 w2.heap.size r1.v r1.l ∧ RdC w2 w2.heap.size r2.v r2.l := fun i hi => by
        have h1 : i < rows1.length := by omega
        have h2 : i < rows2.length := by omega
        have hi9 : i < b.length + 1 := by omega
        obtain ⟨b1, o1, e1, l1, k1⟩ := hi1 i h1
        obtain ⟨b2, o2, e2, l2, k2⟩ := hi2 i h2
        have g1 := rows_get hm1 h1
        have g2 := rows_get hm2 h2
        rw [g1] at g2
        have g3 : rows1[i].l = cutP (pieceB b i) l := by
          have : (rowsOf b l (b.length + 1))[i]? = some (cutP (pieceB b i) l) := by unfold rowsOf; simp [hi9]
          rw [g1] at this
          simpa using this
        refine ⟨b1, o1, b2, o2, rows1[i], rows2[i], e1, e2, l1, l2, k1, k2, by simpa using g2, ?_, hp1 _ (List.getElem_mem h1), hp2 _ (List.getElem_mem h2)⟩
        rw [g3]
        have := cutP_len (pieceB b i) l
        omega
      have HROW := Lib.hid hrow; clear hrow
      have HL1 := Lib.hid hln1
      have HL2 := Lib.hid hln2
      rw [hln1, hln2]
      clear hok hall hr1 hr2 hm1 hm2 hp1 hp2 hi1 hi2 hln1 hln2 hN hb7
      go_wp2_with fail
      refine (HA.out w2).mono ?_
      rintro e w3 ⟨rfl, hb3⟩
      have HB3 := Lib.hid hb3
      have hs23 := hb3.size
      clear hb3
      go_wp2_with fail
      go_loopw [9] (fun iv wr => ∃ i : Nat, i ≤ N ∧ iv = .int .i64 i ∧ Hid (Below w2.heap.size w2 wr)) (fun iv _ => N - (intOf iv).toNat)
      case atStart => exact ⟨0, Nat.zero_le _, rfl, HB3⟩
      case round =>
        obtain ⟨i, hil, rfl, HBW⟩ := hrel
        have hws := HBW.out.size
        by_cases hlt : i < N
        · obtain ⟨b1, o1, b2, o2, r1, r2, rfl, rfl, l1, l2, k1, k2, hrl, hlen, p1, p2⟩ := HROW.out i hlt
          obtain ⟨rA1, rc1, rl1⟩ := r1
          obtain ⟨rA2, rc2, rl2⟩ := r2
          simp only at hrl hlen p1 p2
          subst hrl
          unfold Rw.v at k1 k2 p1 p2
          simp only at k1 k2 p1 p2
          have hk := fun W (hW : Below wr.heap.size wr W) => (show W.cell? ⟨b1, o1 + i, none⟩ = some (.slice rA1 rl1.length rc1) ∧ W.cell? ⟨b2, o2 + i, none⟩ = some (.slice rA2 rl1.length rc2) from
            ⟨((HBW.out.trans (hW.mono hws)).cell (p := ⟨b1, _, none⟩) l1).trans k1, ((HBW.out.trans (hW.mono hws)).cell (p := ⟨b2, _, none⟩) l2).trans k2⟩)
          have hsame := fun W (hW : Below wr.heap.size wr W) => chgs_any rl1 rl1 _ _ W (p1.next (HBW.out.trans (hW.mono hws))) (p2.next (HBW.out.trans (hW.mono hws))) (by omega) (by omega)
          simp only [decide_true] at hsame
          have HK := Lib.hid hk; clear hk k1 k2
          have HSM := Lib.hid hsame; clear hsame p1 p2
          have hi1 : (i : Int) < (N : Int) := by omega
          have hi0 : (0 : Int) ≤ (i : Int) := by omega
          go_wp2_with fail
          have hd : Below wr.heap.size wr wr.drew := (Below.refl _ wr).drew
          refine wp_region_planB [(true, 0), (true, 1), (true, 2), (true, 3), (true, 4), (true, 5), (true, 6), (true, 7), (false, 8), (true, 9)] (by kernel_rfl) (by kernel_rfl) (fun _ _ d _ _ h => by cases d <;> exact h) ?_
          iterate 8 (refine PlanB.take (v := ?_) rfl rfl ?_ ?_; rotate_left; (focus (intro W hW; have m := HK.out W (hd.trans (hW.mono hd.size)); have m0 := m.1; have m1 := m.2; go_simp; (try with_reducible rfl); done)); (try simp only [Act.put, List.setIfInBounds_toArray, List.set_cons_zero, List.set_cons_succ]))
          refine PlanB.step rfl rfl (fun Kk hK => ?_)
          go_simp
          refine (HSM.out _ hd).mono ?_
          rintro e w5 ⟨rfl, hb5⟩
          refine hK.out _ _ hb5 ?_
          clear hK Kk
          (try simp only [Act.put, List.setIfInBounds_toArray, List.set_cons_zero, List.set_cons_succ])
          have HB5 := Lib.hid (HBW.out.trans ((hd.trans (hb5.mono hd.size)).mono hws))
          iterate 1 (refine PlanB.take (v := ?_) rfl rfl ?_ ?_; rotate_left; (focus (intro W hW; go_simp; (try with_reducible rfl); done)); (try simp only [Act.put, List.setIfInBounds_toArray, List.set_cons_zero, List.set_cons_succ]))
          simp only [PlanB]
          clear hb5 hd
          go_wp2_with fail
          go_roundw
          case rel => exact ⟨i + 1, by omega, by go_num, HB5⟩
          case measure => simp [intOf]; omega
        · obtain rfl : i = N := by omega
          go_wp2_with fail
          go_ret
          exact ⟨by first | rfl | trivial, HB2.out.trans (HBW.out.mono HB2.out.size)⟩
end Go.Proofs.Yteelnholmlabmaa

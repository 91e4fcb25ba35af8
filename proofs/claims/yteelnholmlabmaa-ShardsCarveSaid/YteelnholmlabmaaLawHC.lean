/- ShardsCarve's walk. -/
import Derived.Test.YteelnholmlabmaaHAwk
import Derived.Test.YteelnholmlabmaaSmT
namespace Go.Proofs.Yteelnholmlabmaa
open Go.RowKit

theorem trs_get {rows : List Tr} {L : List Txn} (h : rows.map Tr.t = L) {i : Nat} (hi : i < rows.length) : L[i]? = some rows[i].t := by
  rw [← h]
  simp [hi]
set_option maxHeartbeats 4000000 in
set_option maxRecDepth 100000 in
theorem shardsCarve_walk (b : List K) (t : Txn) (hft : fitT t) (hrd : t.read < 9223372036854775808) (vb v1 v2 : Value) (w : World) (hb : RdK w w.heap.size vb b) (hv1 : RdP w w.heap.size v1 t.reads) (hv2 : RdC w w.heap.size v2 t.chgs) (hbl : b.length ≤ 140737488351232) :
    Calls Try.prog 6 #[vb, tval t v1 v2] w fun e w' => e = .returned (.bool true) ∧ Below w.heap.size w w' := by
  obtain ⟨W1, hW1⟩ : ∃ W1, W1 = w.alloc (.cells #[.int .i64 t.read, v1, v2] 45) := ⟨_, rfl⟩
  have hB1 : Below w.heap.size w W1 := by rw [hW1]; exact (Below.refl _ w).alloc (Nat.le_refl _) _
  have hs1 : W1.heap.size = w.heap.size + 1 := by rw [hW1]; simp
  have hx1 : Whole W1 w.heap.size 45 [.int .i64 t.read, v1, v2] := by rw [hW1]; exact Whole.fresh w _ [_, _, _]
  have hbK := fun W (h : Below W1.heap.size W1 W) => (show RdK W W.heap.size vb b from (hb.below (hB1.trans (h.mono (by omega))) (Nat.le_refl _)).mono (by have := h.size; omega))
  have hvP := fun W (h : Below W1.heap.size W1 W) => (show RdP W W.heap.size v1 t.reads from (hv1.below (hB1.trans (h.mono (by omega))) (Nat.le_refl _)).mono (by have := h.size; omega))
  have hvC := fun W (h : Below W1.heap.size W1 W) => (show RdC W W.heap.size v2 t.chgs from (hv2.below (hB1.trans (h.mono (by omega))) (Nat.le_refl _)).mono (by have := h.size; omega))
  have HP := Lib.hid (pcarve_any b t hft hrd vb v1 v2 W1 (hbK W1 (Below.refl _ _)) (hvP W1 (Below.refl _ _)) (hvC W1 (Below.refl _ _)) hbl)
  have HR := Lib.hid (fun W (h : Below W1.heap.size W1 W) => rcarve_any b t hft vb v1 v2 W (hbK W h) (hvP W h) (hvC W h) hbl)
  have HX := Lib.hid (fun W (h : Below W1.heap.size W1 W) => hx1.below h hx1.size)
  have HA := Lib.hid awake_any
  have HB1 := Lib.hid hB1
  obtain ⟨Ab, cb, rfl, _⟩ := hb.at
  obtain ⟨A1, c1, rfl, _⟩ := hv1.at
  obtain ⟨A2, c2, rfl, _⟩ := hv2.at
  clear hb hv1 hv2 hbK hvP hvC hB1
  have k0 := hx1.cell 0 _ rfl
  have k1 := hx1.cell 1 _ rfl
  have k2 := hx1.cell 2 _ rfl
  clear hx1
  unfold tval at HP HR ⊢
  go_enter Try.func6, Try.ntmps6
  go_wp2_with fail
  rw [← hW1]
  go_wp2_with fail
  refine HP.out.mono ?_
  rintro e w1 ⟨v1, q1, rfl, hsp1, hb1⟩
  clear k0 k1 k2
  have hx := HX.out w1 hb1
  have k0 := hx.cell 0 _ rfl
  have k1 := hx.cell 1 _ rfl
  have k2 := hx.cell 2 _ rfl
  clear hx
  have H2 := Lib.hid (HR.out w1 hb1)
  have HD1 := Lib.hid hb1; clear hb1
  have HS1 := Lib.hid hsp1; clear hsp1
  go_wp2_with fail
  refine H2.out.mono ?_
  rintro e w2 ⟨v2, q2, rfl, hsp2, hb2⟩
  clear k0 k1 k2
  have hsp1 := HS1.out.next hb2
  have HD2 := Lib.hid (HD1.out.trans (hb2.mono HD1.out.size)); clear hb2
  have HB2 := Lib.hid (HB1.out.trans (HD2.out.mono (by omega)))
  rcases hsp1 with ⟨hok, rfl, A1, c1, rfl⟩ | ⟨hok, hst, rfl, rows1, hr1, hm1, hp1⟩
  · rcases hsp2 with ⟨_, rfl, A2, c2, rfl⟩ | ⟨h, h', _⟩
    · clear hok
      go_wp2_with fail
      refine (HA.out w2).mono ?_
      rintro e w3 ⟨rfl, hb3⟩
      have HB3 := Lib.hid (HB2.out.trans (hb3.mono HB2.out.size)); clear hb3
      go_wp2_with fail
      go_loopw [9] (fun iv wr => iv = .int .i64 0 ∧ Hid (Below w.heap.size w wr)) (fun _ _ => 0)
      case atStart => exact ⟨rfl, HB3⟩
      case round =>
        obtain ⟨rfl, HBW⟩ := hrel
        go_wp2_with fail
        go_ret
        exact ⟨by first | rfl | trivial, HBW.out⟩
    · exact absurd ⟨h, h'⟩ hok
  · rcases hsp2 with ⟨h, _⟩ | ⟨_, _, rfl, rows2, hr2, hm2, hp2⟩
    · exact absurd ⟨hok, hst⟩ h
    · have hln1 : rows1.length = b.length + 1 := by have := congrArg List.length hm1; simpa [carvesOf] using this
      have hln2 : rows2.length = b.length + 1 := by have := congrArg List.length hm2; simpa [carvesOf] using this
      have hb7 := hok.1
      have ht2 := hst.2.1
      have ht4 := hst.2.2.2.1
      obtain ⟨A1, c1, rfl, _, hi1⟩ := hr1.at
      obtain ⟨A2, c2, rfl, _, hi2⟩ := hr2.at
      obtain ⟨N, hN⟩ : ∃ N, N = b.length + 1 := ⟨_, rfl⟩
      rw [← hN] at hln1 hln2
      have hN8 : N ≤ 8 := by omega
      have hrow : ∀ i (_ : i < N), ∃ (b1 o1 b2 o2 : Nat) (r1 r2 : Tr), A1 = some ⟨b1, o1, none⟩ ∧ A2 = some ⟨b2, o2, none⟩ ∧ b1 < w2.heap.size ∧ b2 < w2.heap.size ∧ (w2.cell? ⟨b1, o1 + i * 3, none⟩ = some (.int .i64 r1.read) ∧ w2.cell? ⟨b1, o1 + i * 3 + 1, none⟩ = some r1.v1 ∧ w2.cell? ⟨b1, o1 + i * 3 + 2, none⟩ = some r1.v2) ∧ (w2.cell? ⟨b2, o2 + i * 3, none⟩ = some (.int .i64 r2.read) ∧ w2.cell? ⟨b2, o2 + i * 3 + 1, none⟩ = some r2.v1 ∧ w2.cell? ⟨b2, o2 + i * 3 + 2, none⟩ = some r2.v2) ∧ r1.t = r2.t ∧ r1.reads.length ≤ 24 ∧ r1.chgs.length ≤ 24 ∧ (RdP w2 w2.heap.size r1.v1 r1.reads ∧ RdC w2 w2.heap.size r1.v2 r1.chgs) ∧ RdP w2 w2.heap.size r2.v1 r2.reads ∧ RdC w2 w2.heap.size r2.v2 r2.chgs := fun i hi => by
        have h1 : i < rows1.length := by omega
        have h2 : i < rows2.length := by omega
        have hi9 : i < b.length + 1 := by omega
        obtain ⟨b1, o1, e1, l1, k1⟩ := hi1 i h1
        obtain ⟨b2, o2, e2, l2, k2⟩ := hi2 i h2
        have g1 := trs_get hm1 h1
        have g2 := trs_get hm2 h2
        rw [g1] at g2
        have g3 : rows1[i].t = carveT b t i := by
          have : (carvesOf b t (b.length + 1))[i]? = some (carveT b t i) := by unfold carvesOf; simp [hi9]
          rw [g1] at this
          simpa using this
        have g4 : rows1[i].reads = meetP (pieceB b i) t.reads := congrArg Txn.reads g3
        have g5 : rows1[i].chgs = cutP (pieceB b i) t.chgs := congrArg Txn.chgs g3
        refine ⟨b1, o1, b2, o2, rows1[i], rows2[i], e1, e2, l1, l2, k1, k2, by simpa using g2, ?_, ?_, hp1 _ (List.getElem_mem h1), hp2 _ (List.getElem_mem h2)⟩
        · rw [g4]
          have := meetP_len (pieceB b i) t.reads
          omega
        · rw [g5]
          have := cutP_len (pieceB b i) t.chgs
          omega
      have HROW := Lib.hid hrow; clear hrow
      rw [hln1, hln2]
      clear hok hst hr1 hr2 hm1 hm2 hp1 hp2 hi1 hi2 hln1 hln2 hN hb7 ht2 ht4
      go_wp2_with fail
      refine (HA.out w2).mono ?_
      rintro e w3 ⟨rfl, hb3⟩
      have HB3 := Lib.hid hb3
      have hs23 := hb3.size
      clear hb3
      go_wp2_with fail
      go_loopw [9] (fun iv wr => ∃ i : Nat, i ≤ N ∧ iv = .int .i64 i ∧ Hid (Below w2.heap.size w2 wr)) (fun iv _ => N - (intOf iv).toNat)
      case atStart => exact ⟨0, Nat.zero_le _, rfl, HB3⟩
      case round =>
        obtain ⟨i, hil, rfl, HBW⟩ := hrel
        have hws := HBW.out.size
        by_cases hlt : i < N
        · obtain ⟨b1, o1, b2, o2, r1, r2, rfl, rfl, l1, l2, k1, k2, hrl, hlen1, hlen2, p1, p2⟩ := HROW.out i hlt
          obtain ⟨rd1, rA1, rc1, rl1, rA2, rc2, rl2⟩ := r1
          obtain ⟨sd1, sA1, sc1, sl1, sA2, sc2, sl2⟩ := r2
          unfold Tr.t at hrl
          simp only [Txn.mk.injEq] at hrl
          obtain ⟨rfl, rfl, rfl⟩ := hrl
          unfold Tr.v1 Tr.v2 at k1 k2 p1 p2
          simp only at k1 k2 p1 p2 hlen1 hlen2
          have hc := fun {p : Addr} (hp : p.block < w2.heap.size) W (hW : Below wr.heap.size wr W) => ((HBW.out.trans (hW.mono hws)).cell (p := p) hp)
          have hk := fun W (hW : Below wr.heap.size wr W) => (show (W.cell? ⟨b1, o1 + i * 3, none⟩ = some (.int .i64 rd1) ∧ W.cell? ⟨b1, o1 + i * 3 + 1, none⟩ = some (.slice rA1 rl1.length rc1) ∧ W.cell? ⟨b1, o1 + i * 3 + 2, none⟩ = some (.slice rA2 rl2.length rc2)) ∧ W.cell? ⟨b2, o2 + i * 3, none⟩ = some (.int .i64 rd1) ∧ W.cell? ⟨b2, o2 + i * 3 + 1, none⟩ = some (.slice sA1 rl1.length sc1) ∧ W.cell? ⟨b2, o2 + i * 3 + 2, none⟩ = some (.slice sA2 rl2.length sc2) from
            ⟨⟨(hc (p := ⟨b1, _, none⟩) l1 W hW).trans k1.1, (hc (p := ⟨b1, _, none⟩) l1 W hW).trans k1.2.1, (hc (p := ⟨b1, _, none⟩) l1 W hW).trans k1.2.2⟩, (hc (p := ⟨b2, _, none⟩) l2 W hW).trans k2.1, (hc (p := ⟨b2, _, none⟩) l2 W hW).trans k2.2.1, (hc (p := ⟨b2, _, none⟩) l2 W hW).trans k2.2.2⟩)
          have hsame := fun W (hW : Below wr.heap.size wr W) => sameT_eq ⟨rd1, rl1, rl2⟩ (by simp only; omega) (by simp only; omega) _ _ _ _ W (p1.1.next (HBW.out.trans (hW.mono hws))) (p1.2.next (HBW.out.trans (hW.mono hws))) (p2.1.next (HBW.out.trans (hW.mono hws))) (p2.2.next (HBW.out.trans (hW.mono hws)))
          unfold tval at hsame
          simp only at hsame
          have HK := Lib.hid hk; clear hk k1 k2 hc
          have HSM := Lib.hid hsame; clear hsame p1 p2
          have hi1 : (i : Int) < (N : Int) := by omega
          have hi0 : (0 : Int) ≤ (i : Int) := by omega
          go_wp2_with fail
          have hd : Below wr.heap.size wr wr.drew := (Below.refl _ wr).drew
          refine wp_region_planB [(true, 0), (true, 1), (true, 2), (true, 3), (true, 4), (true, 5), (true, 6), (true, 7), (false, 8), (true, 9)] (by kernel_rfl) (by kernel_rfl) (fun _ _ d _ _ h => by cases d <;> exact h) ?_
          iterate 8 (refine PlanB.take (v := ?_) rfl rfl ?_ ?_; rotate_left; (focus (intro W hW; have m := HK.out W (hd.trans (hW.mono hd.size)); have m0 := m.1.1; have m1 := m.1.2.1; have m2 := m.1.2.2; have n0 := m.2.1; have n1 := m.2.2.1; have n2 := m.2.2.2; go_simp; (try with_reducible rfl); done)); (try simp only [Act.put, List.setIfInBounds_toArray, List.set_cons_zero, List.set_cons_succ]))
          refine PlanB.step rfl rfl (fun Kk hK => ?_)
          go_simp
          refine (HSM.out _ hd).mono ?_
          rintro e w5 ⟨rfl, hb5⟩
          refine hK.out _ _ hb5 ?_
          clear hK Kk
          (try simp only [Act.put, List.setIfInBounds_toArray, List.set_cons_zero, List.set_cons_succ])
          have HB5 := Lib.hid (HBW.out.trans ((hd.trans (hb5.mono hd.size)).mono hws))
          iterate 1 (refine PlanB.take (v := ?_) rfl rfl ?_ ?_; rotate_left; (focus (intro W hW; go_simp; (try with_reducible rfl); done)); (try simp only [Act.put, List.setIfInBounds_toArray, List.set_cons_zero, List.set_cons_succ]))
          simp only [PlanB]
          clear hb5 hd
          go_wp2_with fail
          go_roundw
          case rel => exact ⟨i + 1, by omega, by go_num, HB5⟩
          case measure => simp [intOf]; omega
        · obtain rfl : i = N := by omega
          go_wp2_with fail
          go_ret
          exact ⟨by first | rfl | trivial, HB2.out.trans (HBW.out.mono HB2.out.size)⟩
end Go.Proofs.Yteelnholmlabmaa

/- ChangeChecks: the walk. -/
import Derived.Test.YtdkdolcocblhkaaWeight
import Derived.Test.YtdkdolcocblhkaaAwk
import Derived.Test.YtdkdolcocblhkaaShut
namespace Go.Proofs.Ytdkdolcocblhkaa
open Go.RowKit
attribute [local go_sem] less_eq same_eq le_eq ge_eq gt_eq

set_option maxHeartbeats 8000000 in
set_option maxRecDepth 100000 in
theorem changeChecks_walk (z : Chg) (hk : z.key.size ≤ 140737488351232) (hv : z.val.size ≤ 140737488351232) (l : List Chg) (hs : ∀ c ∈ l, c.key.size ≤ 140737488351232 ∧ c.val.size ≤ 140737488351232) (v : Value) (w : World) (hvl : RdC w w.heap.size v l) (hlen : l.length < 4611686018427387904) :
    Calls Try.prog 3 #[cval z, v] w fun e w' => e = .returned (.bool true) ∧ Below w.heap.size w w' := by
  obtain ⟨kz, a, b⟩ := z
  have hpc := fun W => pcheck_any ⟨kz, a, b⟩ W (by simp only at hk ⊢; omega) (by simp only at hv ⊢; omega)
  have hrc := fun W => rcheck_any ⟨kz, a, b⟩ W (by simp only at hk ⊢; omega) (by simp only at hv ⊢; omega)
  generalize checkAns ⟨kz, a, b⟩ = Q at hpc hrc
  unfold cval at hpc hrc ⊢
  simp only at hpc hrc hk hv ⊢
  obtain ⟨A, c, rfl, hc, hi⟩ := hvl.at
  have hb0 : Below w.heap.size w (w.alloc (.cells #[.int .i64 kz, .string a, .string b] 23)) := (Below.refl _ w).alloc (Nat.le_refl _) _
  obtain ⟨w1, hw1⟩ : ∃ w1, w1 = w.alloc (.cells #[.int .i64 kz, .string a, .string b] 23) := ⟨_, rfl⟩
  rw [← hw1] at hb0
  have hsz : w1.heap.size = w.heap.size + 1 := by rw [hw1]; simp
  have hsc : ∀ W, Below w1.heap.size w1 W → W.cell? ⟨w.heap.size, 0, none⟩ = some (.int .i64 kz) ∧ W.cell? ⟨w.heap.size, 1, none⟩ = some (.string a) ∧ W.cell? ⟨w.heap.size, 2, none⟩ = some (.string b) := fun W hW => by
    rw [hsz] at hW
    subst hw1
    exact ⟨(hW.cell (p := ⟨w.heap.size, 0, none⟩) (Nat.lt_succ_self _)).trans (World.cell?_alloc_at _ _ _ _ rfl), (hW.cell (p := ⟨w.heap.size, 1, none⟩) (Nat.lt_succ_self _)).trans (World.cell?_alloc_at _ _ _ _ rfl), (hW.cell (p := ⟨w.heap.size, 2, none⟩) (Nat.lt_succ_self _)).trans (World.cell?_alloc_at _ _ _ _ rfl)⟩
  have hend : ∀ W, Below w1.heap.size w1 W → Below w.heap.size w W := fun W hW => hb0.trans (hW.mono hb0.size)
  have hcs : ∀ i (_ : i < l.length), ∃ b o, A = some ⟨b, o, none⟩ ∧ ∀ W, Below w1.heap.size w1 W → W.cell? ⟨b, o + i * 3 + 1, none⟩ = some (.string l[i].key) ∧ W.cell? ⟨b, o + i * 3 + 2, none⟩ = some (.string l[i].val) := fun i h => by
    obtain ⟨b, o, hA, hbB, _, k1, k2⟩ := hi i h
    exact ⟨b, o, hA, fun W hW => ⟨((hend W hW).cell (p := ⟨b, _, none⟩) hbB).trans k1, ((hend W hW).cell (p := ⟨b, _, none⟩) hbB).trans k2⟩⟩
  have hwt : ∀ n (_ : n = 100 ∧ 100 < l.length ∨ n = l.length ∧ l.length ≤ 100) W, Below w1.heap.size w1 W → Calls Try.prog 15 #[.slice A n c] W fun e w' => e = .returned (.int .i64 (wsum (l.take n) : Nat)) ∧ Below W.heap.size W w' := fun n hn W hW => by
    have h1 := (hvl.take n (by omega)).next hb0
    have h2 := h1.next hW
    exact weight_any (l.take n) (fun c h => hs c (List.mem_of_mem_take h)) _ W h2 (by simp; omega)
  have hmono : ∀ i, i ≤ 100 → wsum (l.take i) ≤ 28147497670247200 := fun i h =>
    Nat.le_trans (wsum_le _ (fun c hc => hs c (List.mem_of_mem_take hc))) (by have h2 : (l.take i).length ≤ 100 := by (rw [List.length_take]; omega)
                                                                              exact Nat.le_trans (Nat.mul_le_mul_right _ h2) (by decide))
  have HM := Lib.hid hmono; clear hmono
  have HWTA := Lib.hid hwt; clear hwt
  have HB1 := Lib.hid (Below.refl w1.heap.size w1)
  have HEND := Lib.hid hend; clear hend
  have HSC := Lib.hid hsc; clear hsc hsz
  have HW1 := Lib.hid hw1; clear hw1
  have HCS := Lib.hid hcs; clear hcs hi hvl hb0
  have HS := Lib.hid hs; clear hs hk hv
  have HPC := Lib.hid hpc; clear hpc
  have HRC := Lib.hid hrc; clear hrc
  go_enter Try.func3, Try.ntmps3
  go_wp2_with fail
  go_loopw [5, 6] (fun nv iv wr => ∃ i S : Nat, i ≤ l.length ∧ i ≤ 100 ∧ iv = .int .i64 i ∧ nv = .int .i64 S ∧ Below w1.heap.size w1 wr ∧ Hid (S = wsum (l.take i))) (fun _ iv _ => l.length - (intOf iv).toNat)
  case atStart =>
    rw [← HW1.out]
    exact ⟨0, 0, Nat.zero_le _, Nat.zero_le _, rfl, rfl, HB1.out, Lib.hid (by simp [wsum])⟩
  case round =>
    obtain ⟨i, S, hil, hi100, rfl, rfl, hbw, HSM⟩ := hrel
    have HBW := Lib.hid hbw; clear hbw
    by_cases hlt : i < l.length
    · by_cases hlt2 : i < 100
      · obtain ⟨o1, o, rfl, hcell⟩ := HCS.out i hlt
        have hsm := HS.out l[i] (List.getElem_mem hlt)
        have hst := wsum_take l i hlt
        rw [← HSM.out] at hst
        have hM := HM.out i hi100
        rw [← HSM.out] at hM
        generalize l[i] = y at hcell hsm hst
        obtain ⟨ky, xy, yy⟩ := y
        simp only at hcell hsm hst
        have HBD := Lib.hid HBW.out.drew
        have HC := Lib.hid (fun W (hW : Below wr.drew.heap.size wr.drew W) => hcell W (HBD.out.trans (hW.mono HBD.out.size)))
        have HST := Lib.hid hst; clear hst hcell
        have hx := hsm.1
        have hy := hsm.2
        clear hsm
        have hi1 : (i : Int) < (l.length : Int) := by omega
        have hi0 : (0 : Int) ≤ (i : Int) := by omega
        have hw1 : IntKind.i64.wrap ((xy.size : Int) + (yy.size : Int)) = (xy.size : Int) + (yy.size : Int) := by rw [IntKind.wrap_i64]; omega
        have hw2 : IntKind.i64.wrap ((xy.size : Int) + (yy.size : Int) + 8) = (xy.size : Int) + (yy.size : Int) + 8 := by rw [IntKind.wrap_i64]; omega
        have hw3 : IntKind.i64.wrap ((S : Int) + ((xy.size : Int) + (yy.size : Int) + 8)) = (S : Int) + ((xy.size : Int) + (yy.size : Int) + 8) := by rw [IntKind.wrap_i64]; omega
        go_wp2_with fail
        refine wp_region_planB [(true, 0), (true, 1), (true, 2), (true, 3), (true, 4), (true, 5), (true, 6), (true, 7), (true, 8), (true, 9), (true, 10), (true, 11), (true, 12), (true, 13), (true, 14), (true, 15), (true, 16)] (by kernel_rfl) (by kernel_rfl) (fun _ _ d _ _ h => by cases d <;> exact h) ?_
        repeat (refine PlanB.take (v := ?_) rfl rfl ?_ ?_; rotate_left; (focus (intro W hW; obtain ⟨q0, q1⟩ := HC.out W hW; go_simp; (try with_reducible rfl); done)); (try simp only [Act.put, List.setIfInBounds_toArray, List.set_cons_zero, List.set_cons_succ]))
        simp only [PlanB]
        go_wp2_with fail
        go_roundw
        case rel => exact ⟨i + 1, S + 8 + xy.size + yy.size, by omega, by omega, by go_num, by go_num, HBD.out, Lib.hid HST.out.symm⟩
        case measure => simp [intOf]; omega
      · have he : i = 100 := by omega
        subst he
        have hwt := HWTA.out 100 (.inl ⟨rfl, hlt⟩)
        rw [← HSM.out] at hwt
        have HWT := Lib.hid hwt; clear hwt HWTA HSM HM HS HCS
        go_wp2_with fail
        refine wp_region_planB [(false, 0), (true, 1), (true, 2), (true, 4), (false, 3), (false, 5), (true, 6), (true, 7), (true, 8), (true, 9), (true, 11), (false, 10), (true, 12), (true, 13), (true, 14)] (by kernel_rfl) (by kernel_rfl) (fun _ _ d _ _ h => by cases d <;> exact h) ?_
        have HB2 := Lib.hid HBW.out.drew
        generalize wr.drew = w2 at HB2 ⊢
        clear HBW
        refine PlanB.step rfl rfl (fun Kk hK => ?_)
        go_simp
        refine (awake_any _).mono ?_
        rintro e w3 ⟨rfl, hb⟩
        refine hK.out _ _ hb ?_
        clear hK Kk
        have HB3 := Lib.hid (HB2.out.trans (hb.mono HB2.out.size)); clear hb
        (try simp only [Act.put, List.setIfInBounds_toArray, List.set_cons_zero, List.set_cons_succ])
        repeat (refine PlanB.take (v := ?_) rfl rfl ?_ ?_; rotate_left; (focus (intro W hW; obtain ⟨q0, q1, q2⟩ := HSC.out W (HB3.out.trans (hW.mono HB3.out.size)); go_simp; (try with_reducible rfl); done)); (try simp only [Act.put, List.setIfInBounds_toArray, List.set_cons_zero, List.set_cons_succ]))
        refine PlanB.step rfl rfl (fun Kk hK => ?_)
        go_simp
        refine (HPC.out _).mono ?_
        rintro e w4 ⟨rfl, hb⟩
        refine hK.out _ _ hb ?_
        clear hK Kk
        have HB4 := Lib.hid (HB3.out.trans (hb.mono HB3.out.size)); clear hb
        (try simp only [Act.put, List.setIfInBounds_toArray, List.set_cons_zero, List.set_cons_succ])
        refine PlanB.step rfl rfl (fun Kk hK => ?_)
        go_simp
        refine (HRC.out _).mono ?_
        rintro e w5 ⟨rfl, hb⟩
        refine hK.out _ _ hb ?_
        clear hK Kk
        have HB5 := Lib.hid (HB4.out.trans (hb.mono HB4.out.size)); clear hb
        (try simp only [Act.put, List.setIfInBounds_toArray, List.set_cons_zero, List.set_cons_succ])
        repeat (refine PlanB.take (v := ?_) rfl rfl ?_ ?_; rotate_left; (focus (intro W hW; obtain ⟨q0, q1, q2⟩ := HSC.out W (HB5.out.trans (hW.mono HB5.out.size)); go_simp; (try with_reducible rfl); done)); (try simp only [Act.put, List.setIfInBounds_toArray, List.set_cons_zero, List.set_cons_succ]))
        refine PlanB.step rfl rfl (fun Kk hK => ?_)
        go_simp
        refine (HWT.out _ HB5.out).mono ?_
        rintro e w6 ⟨rfl, hb⟩
        refine hK.out _ _ hb ?_
        clear hK Kk
        have HB6 := Lib.hid (HB5.out.trans (hb.mono HB5.out.size)); clear hb
        (try simp only [Act.put, List.setIfInBounds_toArray, List.set_cons_zero, List.set_cons_succ])
        repeat (refine PlanB.take (v := ?_) rfl rfl ?_ ?_; rotate_left; (focus (intro W hW; obtain ⟨q0, q1, q2⟩ := HSC.out W (HB6.out.trans (hW.mono HB6.out.size)); go_simp; (try with_reducible rfl); done)); (try simp only [Act.put, List.setIfInBounds_toArray, List.set_cons_zero, List.set_cons_succ]))
        simp only [PlanB]
        go_wp2_with fail
        go_ret
        exact ⟨rfl, HEND.out _ HB6.out⟩
    · have he : i = l.length := by omega
      subst he
      have hwt := HWTA.out l.length (.inr ⟨rfl, hi100⟩)
      rw [← HSM.out] at hwt
      have HWT := Lib.hid hwt; clear hwt HWTA HSM HM HS HCS
      go_wp2_with fail
      refine wp_region_planB [(false, 0), (true, 1), (true, 2), (true, 4), (false, 3), (false, 5), (true, 6), (true, 7), (true, 8), (true, 9), (true, 11), (false, 10), (true, 12), (true, 13), (true, 14)] (by kernel_rfl) (by kernel_rfl) (fun _ _ d _ _ h => by cases d <;> exact h) ?_
      have HB2 := Lib.hid HBW.out.drew
      generalize wr.drew = w2 at HB2 ⊢
      clear HBW
      refine PlanB.step rfl rfl (fun Kk hK => ?_)
      go_simp
      refine (awake_any _).mono ?_
      rintro e w3 ⟨rfl, hb⟩
      refine hK.out _ _ hb ?_
      clear hK Kk
      have HB3 := Lib.hid (HB2.out.trans (hb.mono HB2.out.size)); clear hb
      (try simp only [Act.put, List.setIfInBounds_toArray, List.set_cons_zero, List.set_cons_succ])
      repeat (refine PlanB.take (v := ?_) rfl rfl ?_ ?_; rotate_left; (focus (intro W hW; obtain ⟨q0, q1, q2⟩ := HSC.out W (HB3.out.trans (hW.mono HB3.out.size)); go_simp; (try with_reducible rfl); done)); (try simp only [Act.put, List.setIfInBounds_toArray, List.set_cons_zero, List.set_cons_succ]))
      refine PlanB.step rfl rfl (fun Kk hK => ?_)
      go_simp
      refine (HPC.out _).mono ?_
      rintro e w4 ⟨rfl, hb⟩
      refine hK.out _ _ hb ?_
      clear hK Kk
      have HB4 := Lib.hid (HB3.out.trans (hb.mono HB3.out.size)); clear hb
      (try simp only [Act.put, List.setIfInBounds_toArray, List.set_cons_zero, List.set_cons_succ])
      refine PlanB.step rfl rfl (fun Kk hK => ?_)
      go_simp
      refine (HRC.out _).mono ?_
      rintro e w5 ⟨rfl, hb⟩
      refine hK.out _ _ hb ?_
      clear hK Kk
      have HB5 := Lib.hid (HB4.out.trans (hb.mono HB4.out.size)); clear hb
      (try simp only [Act.put, List.setIfInBounds_toArray, List.set_cons_zero, List.set_cons_succ])
      repeat (refine PlanB.take (v := ?_) rfl rfl ?_ ?_; rotate_left; (focus (intro W hW; obtain ⟨q0, q1, q2⟩ := HSC.out W (HB5.out.trans (hW.mono HB5.out.size)); go_simp; (try with_reducible rfl); done)); (try simp only [Act.put, List.setIfInBounds_toArray, List.set_cons_zero, List.set_cons_succ]))
      refine PlanB.step rfl rfl (fun Kk hK => ?_)
      go_simp
      refine (HWT.out _ HB5.out).mono ?_
      rintro e w6 ⟨rfl, hb⟩
      refine hK.out _ _ hb ?_
      clear hK Kk
      have HB6 := Lib.hid (HB5.out.trans (hb.mono HB5.out.size)); clear hb
      (try simp only [Act.put, List.setIfInBounds_toArray, List.set_cons_zero, List.set_cons_succ])
      repeat (refine PlanB.take (v := ?_) rfl rfl ?_ ?_; rotate_left; (focus (intro W hW; obtain ⟨q0, q1, q2⟩ := HSC.out W (HB6.out.trans (hW.mono HB6.out.size)); go_simp; (try with_reducible rfl); done)); (try simp only [Act.put, List.setIfInBounds_toArray, List.set_cons_zero, List.set_cons_succ]))
      simp only [PlanB]
      go_wp2_with fail
      go_ret
      exact ⟨rfl, HEND.out _ HB6.out⟩
end Go.Proofs.Ytdkdolcocblhkaa

/- What the reference's Sound answers. -/
import Derived.Test.YteelnholmlabmaaRAll
namespace Go.Proofs.Yteelnholmlabmaa
open Go.RowKit
attribute [local go_sem] less_eq same_eq le_eq ge_eq gt_eq

/-- are pairs sound, if the last key ahead of them is p? -/
noncomputable def okFrom : Option K → List (K × K) → Bool
  | _, [] => true
  | p, x :: r => open Classical in if x.1.size > 16 ∨ x.2.size > 64 ∨ (∃ q, p = some q ∧ x.1 ≤ q) then false else okFrom (some x.1) r
noncomputable def soundP (l : List (K × K)) : Bool := okFrom none l

set_option maxHeartbeats 8000000 in
set_option maxRecDepth 100000 in
theorem rsound_any (l : List (K × K)) (hs : ∀ p ∈ l, p.1.size < 4611686018427387904 ∧ p.2.size < 4611686018427387904) (v : Value) (w : World) (hv : RdP w w.heap.size v l) (hl : l.length < 4611686018427387904) :
    Calls Try.prog 23 #[v] w fun e w' => e = .returned (.bool (soundP l)) ∧ Below w.heap.size w w' := by
  obtain ⟨A, c, rfl, hc, hi⟩ := hv.at
  obtain ⟨R, hR⟩ : ∃ R, R = soundP l := ⟨_, rfl⟩
  rw [← hR]
  have HR := Lib.hid hR; clear hR
  have HI := Lib.hid hi; clear hi
  have HS := Lib.hid hs; clear hs
  clear hv
  obtain ⟨g, hg⟩ : ∃ g, g = w.heap.size := ⟨_, rfl⟩
  have HG := Lib.hid hg; clear hg
  go_enter Try.func23, Try.ntmps23
  go_wp2_with fail
  go_loopw [3] (fun iv wr => ∃ i : Nat, i ≤ l.length ∧ iv = .int .i64 i ∧ Below g w wr ∧ R = okFrom (match i with | 0 => none | j + 1 => (l[j]?).map (·.1)) (l.drop i)) (fun iv _ => l.length - (intOf iv).toNat)
  case atStart => exact ⟨0, Nat.zero_le _, rfl, Below.refl _ _, HR.out⟩
  case round =>
    obtain ⟨i, hil, rfl, hbw, he⟩ := hrel
    have HBW := Lib.hid hbw; clear hbw
    have HE := Lib.hid he; clear he
    by_cases hlt : i < l.length
    · obtain ⟨b, o, rfl, hbB, k0, k1⟩ := HI.out i hlt
      have hsm := HS.out l[i] (List.getElem_mem hlt)
      have hd := HE.out
      rw [List.drop_eq_getElem_cons hlt, okFrom] at hd
      have hbd : Below w.heap.size w wr.drew := by have h := HBW.out.drew; rwa [HG.out] at h
      have hcell : ∀ W, Below wr.drew.heap.size wr.drew W → W.cell? ⟨b, o + i * 2, none⟩ = some (.string l[i].1) ∧ W.cell? ⟨b, o + i * 2 + 1, none⟩ = some (.string l[i].2) := fun W hW =>
        ⟨((hbd.trans (hW.mono hbd.size)).cell (p := ⟨b, _, none⟩) hbB).trans k0, ((hbd.trans (hW.mono hbd.size)).cell (p := ⟨b, _, none⟩) hbB).trans k1⟩
      have HBD := Lib.hid hbd
      have hi1 : (i : Int) < (l.length : Int) := by omega
      have hi0 : (0 : Int) ≤ (i : Int) := by omega
      have hnx : some l[i].1 = (l[i]?).map (·.1) := by rw [List.getElem?_eq_getElem hlt]; rfl
      rw [hnx] at hd
      generalize l[i] = p at hcell hsm hd
      obtain ⟨x, y⟩ := p
      clear hnx hbd k0 k1 hi1 hi0
      simp only at hd hsm
      have hs1 := hsm.1
      have hs2 := hsm.2
      clear hsm
      rcases i with _ | j
      · simp only [Nat.zero_mul, Nat.add_zero, Nat.zero_add] at hd hcell
        have HC := Lib.hid hcell
        clear hcell
        have hi1 : (0 : Int) < (l.length : Int) := by omega
        by_cases ha : x.size > 16
        · rw [if_pos (.inl ha)] at hd
          have HD := Lib.hid hd; clear hd
          have HA1 := Lib.hid (show (16 : Int) < (x.size : Int) by omega)
          go_wp2_with fail
          refine wp_region_planB [(true, 0), (true, 1), (true, 2), (true, 3), (true, 4), (true, 5), (true, 6), (true, 7), (true, 8), (true, 9), (true, 10), (true, 11), (true, 12), (true, 13), (true, 14), (true, 15), (true, 16), (true, 17), (true, 18), (true, 19), (true, 20), (true, 21), (true, 22), (true, 23), (true, 24), (true, 25), (true, 26), (true, 27), (true, 28), (true, 29), (true, 30), (true, 31), (true, 32), (true, 33)] (by kernel_rfl) (by kernel_rfl) (fun _ _ d _ _ h => by cases d <;> exact h) ?_
          repeat (first | (refine PlanB.take (v := ?_) rfl rfl ?_ ?_; rotate_left; (focus (intro W hW; obtain ⟨k0, k1⟩ := HC.out W hW; (first | (have k3 : (16 : Int) < (x.size : Int) := by omega) | (have k3 : ¬ (16 : Int) < (x.size : Int) := by omega) | skip); (first | (have k4 : (64 : Int) < (y.size : Int) := by omega) | (have k4 : ¬ (64 : Int) < (y.size : Int) := by omega) | skip); (try have k5 := HQ1.out); go_simp; (try with_reducible rfl); done)); (try simp only [Act.put, List.setIfInBounds_toArray, List.set_cons_zero, List.set_cons_succ])) | (refine PlanB.skip rfl rfl ?_; (try simp only [Act.put, List.setIfInBounds_toArray, List.set_cons_zero, List.set_cons_succ])))
          simp only [PlanB]
          go_wp2_with fail
          go_ret
          exact ⟨by rw [HD.out]; rfl, HBD.out⟩
        have HA1 := Lib.hid (show ¬ (16 : Int) < (x.size : Int) by omega)
        by_cases hb : y.size > 64
        · rw [if_pos (.inr (.inl hb))] at hd
          have HD := Lib.hid hd; clear hd
          have HB1 := Lib.hid (show (64 : Int) < (y.size : Int) by omega)
          go_wp2_with fail
          refine wp_region_planB [(true, 0), (true, 1), (true, 2), (true, 3), (true, 4), (true, 5), (true, 6), (true, 7), (true, 8), (true, 9), (true, 10), (true, 11), (true, 12), (true, 13), (true, 14), (true, 15), (true, 16), (true, 17), (true, 18), (true, 19), (true, 20), (true, 21), (true, 22), (true, 23), (true, 24), (true, 25), (true, 26), (true, 27), (true, 28), (true, 29), (true, 30), (true, 31), (true, 32), (true, 33)] (by kernel_rfl) (by kernel_rfl) (fun _ _ d _ _ h => by cases d <;> exact h) ?_
          repeat (first | (refine PlanB.take (v := ?_) rfl rfl ?_ ?_; rotate_left; (focus (intro W hW; obtain ⟨k0, k1⟩ := HC.out W hW; (first | (have k3 : (16 : Int) < (x.size : Int) := by omega) | (have k3 : ¬ (16 : Int) < (x.size : Int) := by omega) | skip); (first | (have k4 : (64 : Int) < (y.size : Int) := by omega) | (have k4 : ¬ (64 : Int) < (y.size : Int) := by omega) | skip); (try have k5 := HQ1.out); go_simp; (try with_reducible rfl); done)); (try simp only [Act.put, List.setIfInBounds_toArray, List.set_cons_zero, List.set_cons_succ])) | (refine PlanB.skip rfl rfl ?_; (try simp only [Act.put, List.setIfInBounds_toArray, List.set_cons_zero, List.set_cons_succ])))
          simp only [PlanB]
          go_wp2_with fail
          go_ret
          exact ⟨by rw [HD.out]; rfl, HBD.out⟩
        have HB1 := Lib.hid (show ¬ (64 : Int) < (y.size : Int) by omega)
        rw [if_neg (fun h => h.elim ha (fun h => h.elim hb (fun ⟨_, h1, _⟩ => by cases h1)))] at hd
        have HD := Lib.hid hd; clear hd
        go_wp2_with fail
        refine wp_region_planB [(true, 0), (true, 1), (true, 2), (true, 3), (true, 4), (true, 5), (true, 6), (true, 7), (true, 8), (true, 9), (true, 10), (true, 11), (true, 12), (true, 13), (true, 14), (true, 15), (true, 16), (true, 17), (true, 18), (true, 19), (true, 20), (true, 21), (true, 22), (true, 23), (true, 24), (true, 25), (true, 26), (true, 27), (true, 28), (true, 29), (true, 30), (true, 31), (true, 32), (true, 33)] (by kernel_rfl) (by kernel_rfl) (fun _ _ d _ _ h => by cases d <;> exact h) ?_
        repeat (first | (refine PlanB.take (v := ?_) rfl rfl ?_ ?_; rotate_left; (focus (intro W hW; obtain ⟨k0, k1⟩ := HC.out W hW; (first | (have k3 : (16 : Int) < (x.size : Int) := by omega) | (have k3 : ¬ (16 : Int) < (x.size : Int) := by omega) | skip); (first | (have k4 : (64 : Int) < (y.size : Int) := by omega) | (have k4 : ¬ (64 : Int) < (y.size : Int) := by omega) | skip); (try have k5 := HQ1.out); go_simp; (try with_reducible rfl); done)); (try simp only [Act.put, List.setIfInBounds_toArray, List.set_cons_zero, List.set_cons_succ])) | (refine PlanB.skip rfl rfl ?_; (try simp only [Act.put, List.setIfInBounds_toArray, List.set_cons_zero, List.set_cons_succ])))
        simp only [PlanB]
        go_wp2_with fail
        go_roundw
        case rel => exact ⟨0 + 1, by omega, by go_num, by have h := HBD.out; rwa [← HG.out] at h, by rw [HD.out]⟩
        case measure => simp [intOf]; omega
      · obtain ⟨b', o', hA', hb', j0, _⟩ := HI.out j (by omega)
        simp only [Option.some.injEq, Addr.mk.injEq, and_true] at hA'
        obtain ⟨rfl, rfl⟩ := hA'
        have hpv : (l[j]?).map (·.1) = some (l[j]'(by omega)).1 := by rw [List.getElem?_eq_getElem (by omega)]; rfl
        simp only [hpv] at hd
        have hp : ∀ W, Below wr.drew.heap.size wr.drew W → W.cell? ⟨b, o + j * 2, none⟩ = some (.string (l[j]'(by omega)).1) := fun W hW => ((HBD.out.trans (hW.mono HBD.out.size)).cell (p := ⟨b, _, none⟩) hb').trans j0
        generalize (l[j]'(by omega)).1 = q at hp hd
        have HP := Lib.hid hp
        have HC := Lib.hid hcell
        clear hp j0 hpv hcell
        have hi1 : (j : Int) + 1 < (l.length : Int) := by omega
        have hi0 : (0 : Int) ≤ (j : Int) + 1 := by omega
        have hj1 : (j : Int) < (l.length : Int) := by omega
        have hw1 : IntKind.i64.wrap ((j : Int) + 1 - 1) = (j : Int) := by rw [IntKind.wrap_i64]; omega
        have htn : ((j : Int) + 1).toNat = j + 1 := by omega
        have hjp : (0 : Int) < (j : Int) + 1 := by omega
        have hw2 : IntKind.i64.wrap (j : Int) = (j : Int) := by rw [IntKind.wrap_i64]; omega
        have hj0 : (0 : Int) ≤ (j : Int) := by omega
        by_cases ha : x.size > 16
        · rw [if_pos (.inl ha)] at hd
          have HD := Lib.hid hd; clear hd
          have HA1 := Lib.hid (show (16 : Int) < (x.size : Int) by omega)
          go_wp2_with fail
          refine wp_region_planB [(true, 0), (true, 1), (true, 2), (true, 3), (true, 4), (true, 5), (true, 6), (true, 7), (true, 8), (true, 9), (true, 10), (true, 11), (true, 12), (true, 13), (true, 14), (true, 15), (true, 16), (true, 17), (true, 18), (true, 19), (true, 20), (true, 21), (true, 22), (true, 23), (true, 24), (true, 25), (true, 26), (true, 27), (true, 28), (true, 29), (true, 30), (true, 31), (true, 32), (true, 33)] (by kernel_rfl) (by kernel_rfl) (fun _ _ d _ _ h => by cases d <;> exact h) ?_
          repeat (first | (refine PlanB.take (v := ?_) rfl rfl ?_ ?_; rotate_left; (focus (intro W hW; obtain ⟨k0, k1⟩ := HC.out W hW; have k2 := HP.out W hW; (first | (have k3 : (16 : Int) < (x.size : Int) := by omega) | (have k3 : ¬ (16 : Int) < (x.size : Int) := by omega) | skip); (first | (have k4 : (64 : Int) < (y.size : Int) := by omega) | (have k4 : ¬ (64 : Int) < (y.size : Int) := by omega) | skip); (try have k5 := HQ1.out); go_simp; (try with_reducible rfl); done)); (try simp only [Act.put, List.setIfInBounds_toArray, List.set_cons_zero, List.set_cons_succ])) | (refine PlanB.skip rfl rfl ?_; (try simp only [Act.put, List.setIfInBounds_toArray, List.set_cons_zero, List.set_cons_succ])))
          simp only [PlanB]
          go_wp2_with fail
          go_ret
          exact ⟨by rw [HD.out]; rfl, HBD.out⟩
        have HA1 := Lib.hid (show ¬ (16 : Int) < (x.size : Int) by omega)
        by_cases hb : y.size > 64
        · rw [if_pos (.inr (.inl hb))] at hd
          have HD := Lib.hid hd; clear hd
          have HB1 := Lib.hid (show (64 : Int) < (y.size : Int) by omega)
          go_wp2_with fail
          refine wp_region_planB [(true, 0), (true, 1), (true, 2), (true, 3), (true, 4), (true, 5), (true, 6), (true, 7), (true, 8), (true, 9), (true, 10), (true, 11), (true, 12), (true, 13), (true, 14), (true, 15), (true, 16), (true, 17), (true, 18), (true, 19), (true, 20), (true, 21), (true, 22), (true, 23), (true, 24), (true, 25), (true, 26), (true, 27), (true, 28), (true, 29), (true, 30), (true, 31), (true, 32), (true, 33)] (by kernel_rfl) (by kernel_rfl) (fun _ _ d _ _ h => by cases d <;> exact h) ?_
          repeat (first | (refine PlanB.take (v := ?_) rfl rfl ?_ ?_; rotate_left; (focus (intro W hW; obtain ⟨k0, k1⟩ := HC.out W hW; have k2 := HP.out W hW; (first | (have k3 : (16 : Int) < (x.size : Int) := by omega) | (have k3 : ¬ (16 : Int) < (x.size : Int) := by omega) | skip); (first | (have k4 : (64 : Int) < (y.size : Int) := by omega) | (have k4 : ¬ (64 : Int) < (y.size : Int) := by omega) | skip); (try have k5 := HQ1.out); go_simp; (try with_reducible rfl); done)); (try simp only [Act.put, List.setIfInBounds_toArray, List.set_cons_zero, List.set_cons_succ])) | (refine PlanB.skip rfl rfl ?_; (try simp only [Act.put, List.setIfInBounds_toArray, List.set_cons_zero, List.set_cons_succ])))
          simp only [PlanB]
          go_wp2_with fail
          go_ret
          exact ⟨by rw [HD.out]; rfl, HBD.out⟩
        have HB1 := Lib.hid (show ¬ (64 : Int) < (y.size : Int) by omega)
        by_cases hq : x ≤ q
        · rw [if_pos (.inr (.inr ⟨q, rfl, hq⟩))] at hd
          have HD := Lib.hid hd; clear hd
          have HQ1 := Lib.hid hq; clear hq
          go_wp2_with fail
          refine wp_region_planB [(true, 0), (true, 1), (true, 2), (true, 3), (true, 4), (true, 5), (true, 6), (true, 7), (true, 8), (true, 9), (true, 10), (true, 11), (true, 12), (true, 13), (true, 14), (true, 15), (true, 16), (true, 17), (true, 18), (true, 19), (true, 20), (true, 21), (true, 22), (true, 23), (true, 24), (true, 25), (true, 26), (true, 27), (true, 28), (true, 29), (true, 30), (true, 31), (true, 32), (true, 33)] (by kernel_rfl) (by kernel_rfl) (fun _ _ d _ _ h => by cases d <;> exact h) ?_
          repeat (first | (refine PlanB.take (v := ?_) rfl rfl ?_ ?_; rotate_left; (focus (intro W hW; obtain ⟨k0, k1⟩ := HC.out W hW; have k2 := HP.out W hW; (first | (have k3 : (16 : Int) < (x.size : Int) := by omega) | (have k3 : ¬ (16 : Int) < (x.size : Int) := by omega) | skip); (first | (have k4 : (64 : Int) < (y.size : Int) := by omega) | (have k4 : ¬ (64 : Int) < (y.size : Int) := by omega) | skip); (try have k5 := HQ1.out); go_simp; (try with_reducible rfl); done)); (try simp only [Act.put, List.setIfInBounds_toArray, List.set_cons_zero, List.set_cons_succ])) | (refine PlanB.skip rfl rfl ?_; (try simp only [Act.put, List.setIfInBounds_toArray, List.set_cons_zero, List.set_cons_succ])))
          simp only [PlanB]
          go_wp2_with fail
          go_ret
          exact ⟨by rw [HD.out]; rfl, HBD.out⟩
        rw [if_neg (fun h => h.elim ha (fun h => h.elim hb (fun ⟨_, h1, h2⟩ => hq (by cases h1; exact h2))))] at hd
        have HD := Lib.hid hd; clear hd
        have HQ1 := Lib.hid hq; clear hq
        go_wp2_with fail
        refine wp_region_planB [(true, 0), (true, 1), (true, 2), (true, 3), (true, 4), (true, 5), (true, 6), (true, 7), (true, 8), (true, 9), (true, 10), (true, 11), (true, 12), (true, 13), (true, 14), (true, 15), (true, 16), (true, 17), (true, 18), (true, 19), (true, 20), (true, 21), (true, 22), (true, 23), (true, 24), (true, 25), (true, 26), (true, 27), (true, 28), (true, 29), (true, 30), (true, 31), (true, 32), (true, 33)] (by kernel_rfl) (by kernel_rfl) (fun _ _ d _ _ h => by cases d <;> exact h) ?_
        repeat (first | (refine PlanB.take (v := ?_) rfl rfl ?_ ?_; rotate_left; (focus (intro W hW; obtain ⟨k0, k1⟩ := HC.out W hW; have k2 := HP.out W hW; (first | (have k3 : (16 : Int) < (x.size : Int) := by omega) | (have k3 : ¬ (16 : Int) < (x.size : Int) := by omega) | skip); (first | (have k4 : (64 : Int) < (y.size : Int) := by omega) | (have k4 : ¬ (64 : Int) < (y.size : Int) := by omega) | skip); (try have k5 := HQ1.out); go_simp; (try with_reducible rfl); done)); (try simp only [Act.put, List.setIfInBounds_toArray, List.set_cons_zero, List.set_cons_succ])) | (refine PlanB.skip rfl rfl ?_; (try simp only [Act.put, List.setIfInBounds_toArray, List.set_cons_zero, List.set_cons_succ])))
        simp only [PlanB]
        go_wp2_with fail
        go_roundw
        case rel => exact ⟨j + 1 + 1, by omega, by go_num, by have h := HBD.out; rwa [← HG.out] at h, by rw [HD.out]⟩
        case measure => simp [intOf]; omega
    · have hd := HE.out
      rw [List.drop_eq_nil_of_le (by omega), okFrom] at hd
      have HD := Lib.hid hd; clear hd
      go_wp2_with fail
      go_ret
      exact ⟨by rw [HD.out]; rfl, by have h := HBW.out; rwa [HG.out] at h⟩
end Go.Proofs.Yteelnholmlabmaa

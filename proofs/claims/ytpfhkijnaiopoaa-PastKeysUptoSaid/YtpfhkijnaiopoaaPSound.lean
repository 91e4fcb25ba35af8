/- What the program's sound answers. -/
import Derived.Test.YtpfhkijnaiopoaaPro
import Derived.Test.YtpfhkijnaiopoaaRSound
namespace Go.Proofs.Ytpfhkijnaiopoaa
open Go.RowKit
attribute [local go_sem] less_eq same_eq le_eq ge_eq gt_eq

set_option maxHeartbeats 8000000 in
set_option maxRecDepth 100000 in
theorem psound_any (l : List (K × K)) (hs : ∀ p ∈ l, p.1.size < 4611686018427387904 ∧ p.2.size < 4611686018427387904) (v : Value) (w : World) (hv : RdP w w.heap.size v l) (hl : l.length < 4611686018427387904) :
    Calls Try.prog 47 #[v] w fun e w' => e = .returned (.bool (soundP l)) ∧ Below w.heap.size w w' := by
  obtain ⟨A, c, rfl, hc, hi⟩ := hv.at
  obtain ⟨R, hR⟩ : ∃ R, R = soundP l := ⟨_, rfl⟩
  rw [← hR]
  have HR := Lib.hid hR; clear hR
  have HI := Lib.hid hi; clear hi
  have HS := Lib.hid hs; clear hs
  clear hv
  obtain ⟨g, hg⟩ : ∃ g, g = w.heap.size := ⟨_, rfl⟩
  have HG := Lib.hid hg; clear hg
  go_enter Try.func47, Try.ntmps47
  go_wp2_with fail
  go_loopw [7] (fun iv wr => ∃ i : Nat, i ≤ l.length ∧ iv = .int .i64 i ∧ Below g w wr ∧ R = okFrom (match i with | 0 => none | j + 1 => (l[j]?).map (·.1)) (l.drop i)) (fun iv _ => l.length - (intOf iv).toNat)
  case atStart => exact ⟨0, Nat.zero_le _, rfl, Below.refl _ _, HR.out⟩
  case round =>
    obtain ⟨i, hil, rfl, hbw, he⟩ := hrel
    have HBW := Lib.hid hbw; clear hbw
    have HE := Lib.hid he; clear he
    by_cases hlt : i < l.length
    · obtain ⟨b, o, rfl, hbB, k0, k1⟩ := HI.out i hlt
      have hsm := HS.out l[i] (List.getElem_mem hlt)
      have hd := HE.out
      rw [List.drop_eq_getElem_cons hlt, okFrom] at hd
      rw [← HBW.out.cell (p := ⟨b, _, none⟩) (by rw [HG.out]; exact hbB)] at k0
      rw [← HBW.out.cell (p := ⟨b, _, none⟩) (by rw [HG.out]; exact hbB)] at k1
      have hnx : some l[i].1 = (l[i]?).map (·.1) := by rw [List.getElem?_eq_getElem hlt]; rfl
      rw [hnx] at hd
      generalize l[i] = p at k0 k1 hsm hd
      obtain ⟨x, y⟩ := p
      clear hnx
      simp only at hd hsm k0 k1
      have hck := fun W => pcheck_any ⟨1, x, y⟩ W (by have := hsm.1; simp only; omega) (by have := hsm.2; simp only; omega)
      unfold cval at hck
      simp only at hck
      have HCP := Lib.hid (fun W => cput_any (x, y) W)
      clear hsm
      rcases i with _ | j
      · simp only [Nat.zero_mul, Nat.add_zero, Nat.zero_add] at hd k0 k1
        have hi1 : (0 : Int) < (l.length : Int) := by omega
        by_cases ha : x.size > 16 ∨ y.size > 64
        · rw [if_pos (by rcases ha with h | h; exact .inl h; exact .inr (.inl h))] at hd
          have HD := Lib.hid hd; clear hd
          have hck2 : checkAns ⟨1, x, y⟩ = 6 := by unfold checkAns; rw [if_pos rfl, if_pos ha]
          rw [hck2] at hck
          have HCK := Lib.hid hck; clear hck hck2
          go_wp2_with fail
          refine wp_region_planB [(true, 0), (false, 1), (false, 2), (true, 3), (true, 4), (true, 5), (true, 6), (true, 7), (true, 8), (true, 9), (true, 10), (true, 11), (true, 12), (true, 13), (true, 14), (true, 15), (true, 16), (true, 17), (true, 18)] (by kernel_rfl) (by kernel_rfl) (fun _ _ d _ _ h => by cases d <;> exact h) ?_
          obtain ⟨w4, hw4⟩ : ∃ w4, w4 = (wr.alloc (.cells #[.string x, .string y] 56)).drew := ⟨_, rfl⟩
          rw [← hw4]
          have hb4 : Below g w w4 := by rw [hw4]; exact (HBW.out.alloc (by rw [HG.out]; exact HBW.out.size) _).drew
          have hG4 : wr.heap.size < w4.heap.size := by rw [hw4]; show _ < (wr.alloc _).heap.size; simp
          have hc4 : ∀ W, Below w4.heap.size w4 W → W.cell? ⟨wr.heap.size, 0, none⟩ = some (.string x) ∧ W.cell? ⟨wr.heap.size, 1, none⟩ = some (.string y) := fun W hW => by
            have e0 : w4.cell? ⟨wr.heap.size, 0, none⟩ = some (.string x) := by rw [hw4]; exact World.cell?_alloc_at _ _ _ _ rfl
            have e1 : w4.cell? ⟨wr.heap.size, 1, none⟩ = some (.string y) := by rw [hw4]; exact World.cell?_alloc_at _ _ _ _ rfl
            exact ⟨(hW.cell (p := ⟨wr.heap.size, 0, none⟩) hG4).trans e0, (hW.cell (p := ⟨wr.heap.size, 1, none⟩) hG4).trans e1⟩
          have HB4 := Lib.hid hb4
          have HC4 := Lib.hid hc4
          clear hb4 hc4 hw4
          obtain ⟨G, hG⟩ : ∃ G, G = wr.heap.size := ⟨_, rfl⟩
          rw [← hG] at HC4 hG4 ⊢
          clear hG
          (refine PlanB.take (v := ?_) rfl rfl ?_ ?_; rotate_left; (focus (intro W hW; obtain ⟨k0, k1⟩ := HC4.out W hW; go_simp; (try with_reducible rfl); done)); (try simp only [Act.put, List.setIfInBounds_toArray, List.set_cons_zero, List.set_cons_succ]))
          refine PlanB.step rfl rfl (fun Kk hK => ?_)
          go_simp
          refine (HCP.out w4).mono ?_
          rintro e w5 ⟨rfl, hb5⟩
          refine hK.out _ _ hb5 ?_
          clear hK Kk
          (try simp only [Act.put, List.setIfInBounds_toArray, List.set_cons_zero, List.set_cons_succ])
          refine PlanB.step rfl rfl (fun Kk hK => ?_)
          go_simp
          refine (HCK.out w5).mono ?_
          rintro e w6 ⟨rfl, hb6⟩
          refine hK.out _ _ hb6 ?_
          clear hK Kk
          (try simp only [Act.put, List.setIfInBounds_toArray, List.set_cons_zero, List.set_cons_succ])
          have HC6 := Lib.hid (fun W (hW : Below w6.heap.size w6 W) => HC4.out W ((hb5.trans (hb6.mono hb5.size)).trans (hW.mono (Nat.le_trans hb5.size hb6.size))))
          have HB6 := Lib.hid (HB4.out.trans ((hb5.trans (hb6.mono hb5.size)).mono (by rw [HG.out]; exact HB4.out.size)))
          clear hb5 hb6 HB4 HC4 hG4
          repeat (first | (refine PlanB.take (v := ?_) rfl rfl ?_ ?_; rotate_left; (focus (intro W hW; obtain ⟨k0, k1⟩ := HC6.out W hW; go_simp; (try with_reducible rfl); done)); (try simp only [Act.put, List.setIfInBounds_toArray, List.set_cons_zero, List.set_cons_succ])) | (refine PlanB.skip rfl rfl ?_; (try simp only [Act.put, List.setIfInBounds_toArray, List.set_cons_zero, List.set_cons_succ])))
          simp only [PlanB]
          go_wp2_with fail
          go_ret
          exact ⟨by rw [HD.out]; rfl, by have h := HB6.out; rwa [HG.out] at h⟩
        have hck2 : checkAns ⟨1, x, y⟩ = 0 := by unfold checkAns; rw [if_pos rfl, if_neg ha]
        rw [hck2] at hck
        have HCK := Lib.hid hck; clear hck hck2
        rw [if_neg (fun h => h.elim (fun h => ha (.inl h)) (fun h => h.elim (fun h => ha (.inr h)) (fun ⟨_, h1, _⟩ => by cases h1)))] at hd
        have HD := Lib.hid hd; clear hd
        clear ha
        go_wp2_with fail
        refine wp_region_planB [(true, 0), (false, 1), (false, 2), (true, 3), (true, 4), (true, 5), (true, 6), (true, 7), (true, 8), (true, 9), (true, 10), (true, 11), (true, 12), (true, 13), (true, 14), (true, 15), (true, 16), (true, 17), (true, 18)] (by kernel_rfl) (by kernel_rfl) (fun _ _ d _ _ h => by cases d <;> exact h) ?_
        obtain ⟨w4, hw4⟩ : ∃ w4, w4 = (wr.alloc (.cells #[.string x, .string y] 56)).drew := ⟨_, rfl⟩
        rw [← hw4]
        have hb4 : Below g w w4 := by rw [hw4]; exact (HBW.out.alloc (by rw [HG.out]; exact HBW.out.size) _).drew
        have hG4 : wr.heap.size < w4.heap.size := by rw [hw4]; show _ < (wr.alloc _).heap.size; simp
        have hc4 : ∀ W, Below w4.heap.size w4 W → W.cell? ⟨wr.heap.size, 0, none⟩ = some (.string x) ∧ W.cell? ⟨wr.heap.size, 1, none⟩ = some (.string y) := fun W hW => by
          have e0 : w4.cell? ⟨wr.heap.size, 0, none⟩ = some (.string x) := by rw [hw4]; exact World.cell?_alloc_at _ _ _ _ rfl
          have e1 : w4.cell? ⟨wr.heap.size, 1, none⟩ = some (.string y) := by rw [hw4]; exact World.cell?_alloc_at _ _ _ _ rfl
          exact ⟨(hW.cell (p := ⟨wr.heap.size, 0, none⟩) hG4).trans e0, (hW.cell (p := ⟨wr.heap.size, 1, none⟩) hG4).trans e1⟩
        have HB4 := Lib.hid hb4
        have HC4 := Lib.hid hc4
        clear hb4 hc4 hw4
        obtain ⟨G, hG⟩ : ∃ G, G = wr.heap.size := ⟨_, rfl⟩
        rw [← hG] at HC4 hG4 ⊢
        clear hG
        (refine PlanB.take (v := ?_) rfl rfl ?_ ?_; rotate_left; (focus (intro W hW; obtain ⟨k0, k1⟩ := HC4.out W hW; go_simp; (try with_reducible rfl); done)); (try simp only [Act.put, List.setIfInBounds_toArray, List.set_cons_zero, List.set_cons_succ]))
        refine PlanB.step rfl rfl (fun Kk hK => ?_)
        go_simp
        refine (HCP.out w4).mono ?_
        rintro e w5 ⟨rfl, hb5⟩
        refine hK.out _ _ hb5 ?_
        clear hK Kk
        (try simp only [Act.put, List.setIfInBounds_toArray, List.set_cons_zero, List.set_cons_succ])
        refine PlanB.step rfl rfl (fun Kk hK => ?_)
        go_simp
        refine (HCK.out w5).mono ?_
        rintro e w6 ⟨rfl, hb6⟩
        refine hK.out _ _ hb6 ?_
        clear hK Kk
        (try simp only [Act.put, List.setIfInBounds_toArray, List.set_cons_zero, List.set_cons_succ])
        have HC6 := Lib.hid (fun W (hW : Below w6.heap.size w6 W) => HC4.out W ((hb5.trans (hb6.mono hb5.size)).trans (hW.mono (Nat.le_trans hb5.size hb6.size))))
        have HB6 := Lib.hid (HB4.out.trans ((hb5.trans (hb6.mono hb5.size)).mono (by rw [HG.out]; exact HB4.out.size)))
        clear hb5 hb6 HB4 HC4 hG4
        repeat (first | (refine PlanB.take (v := ?_) rfl rfl ?_ ?_; rotate_left; (focus (intro W hW; obtain ⟨k0, k1⟩ := HC6.out W hW; go_simp; (try with_reducible rfl); done)); (try simp only [Act.put, List.setIfInBounds_toArray, List.set_cons_zero, List.set_cons_succ])) | (refine PlanB.skip rfl rfl ?_; (try simp only [Act.put, List.setIfInBounds_toArray, List.set_cons_zero, List.set_cons_succ])))
        simp only [PlanB]
        go_wp2_with fail
        go_roundw
        case rel => exact ⟨0 + 1, by omega, by go_num, HB6.out, by rw [HD.out]⟩
        case measure => simp [intOf]; omega
      · obtain ⟨b', o', hA', hb', j0, _⟩ := HI.out j (by omega)
        simp only [Option.some.injEq, Addr.mk.injEq, and_true] at hA'
        obtain ⟨rfl, rfl⟩ := hA'
        have hpv : (l[j]?).map (·.1) = some (l[j]'(by omega)).1 := by rw [List.getElem?_eq_getElem (by omega)]; rfl
        simp only [hpv] at hd
        have hp : ∀ W, Below g w W → W.cell? ⟨b, o + j * 2, none⟩ = some (.string (l[j]'(by omega)).1) := fun W hW => (hW.cell (p := ⟨b, _, none⟩) (by rw [HG.out]; exact hb')).trans j0
        generalize (l[j]'(by omega)).1 = q at hp hd
        have HP := Lib.hid hp
        clear hp j0 hpv
        have hi1 : (j : Int) + 1 < (l.length : Int) := by omega
        have hi0 : (0 : Int) ≤ (j : Int) + 1 := by omega
        have hj1 : (j : Int) < (l.length : Int) := by omega
        have hw1 : IntKind.i64.wrap ((j : Int) + 1 - 1) = (j : Int) := by rw [IntKind.wrap_i64]; omega
        have htn : ((j : Int) + 1).toNat = j + 1 := by omega
        have hjp : (0 : Int) < (j : Int) + 1 := by omega
        have hw2 : IntKind.i64.wrap (j : Int) = (j : Int) := by rw [IntKind.wrap_i64]; omega
        by_cases ha : x.size > 16 ∨ y.size > 64
        · rw [if_pos (by rcases ha with h | h; exact .inl h; exact .inr (.inl h))] at hd
          have HD := Lib.hid hd; clear hd
          have hck2 : checkAns ⟨1, x, y⟩ = 6 := by unfold checkAns; rw [if_pos rfl, if_pos ha]
          rw [hck2] at hck
          have HCK := Lib.hid hck; clear hck hck2
          go_wp2_with fail
          refine wp_region_planB [(true, 0), (false, 1), (false, 2), (true, 3), (true, 4), (true, 5), (true, 6), (true, 7), (true, 8), (true, 9), (true, 10), (true, 11), (true, 12), (true, 13), (true, 14), (true, 15), (true, 16), (true, 17), (true, 18)] (by kernel_rfl) (by kernel_rfl) (fun _ _ d _ _ h => by cases d <;> exact h) ?_
          obtain ⟨w4, hw4⟩ : ∃ w4, w4 = (wr.alloc (.cells #[.string x, .string y] 56)).drew := ⟨_, rfl⟩
          rw [← hw4]
          have hb4 : Below g w w4 := by rw [hw4]; exact (HBW.out.alloc (by rw [HG.out]; exact HBW.out.size) _).drew
          have hG4 : wr.heap.size < w4.heap.size := by rw [hw4]; show _ < (wr.alloc _).heap.size; simp
          have hc4 : ∀ W, Below w4.heap.size w4 W → W.cell? ⟨wr.heap.size, 0, none⟩ = some (.string x) ∧ W.cell? ⟨wr.heap.size, 1, none⟩ = some (.string y) := fun W hW => by
            have e0 : w4.cell? ⟨wr.heap.size, 0, none⟩ = some (.string x) := by rw [hw4]; exact World.cell?_alloc_at _ _ _ _ rfl
            have e1 : w4.cell? ⟨wr.heap.size, 1, none⟩ = some (.string y) := by rw [hw4]; exact World.cell?_alloc_at _ _ _ _ rfl
            exact ⟨(hW.cell (p := ⟨wr.heap.size, 0, none⟩) hG4).trans e0, (hW.cell (p := ⟨wr.heap.size, 1, none⟩) hG4).trans e1⟩
          have HB4 := Lib.hid hb4
          have HC4 := Lib.hid hc4
          clear hb4 hc4 hw4
          obtain ⟨G, hG⟩ : ∃ G, G = wr.heap.size := ⟨_, rfl⟩
          rw [← hG] at HC4 hG4 ⊢
          clear hG
          (refine PlanB.take (v := ?_) rfl rfl ?_ ?_; rotate_left; (focus (intro W hW; obtain ⟨k0, k1⟩ := HC4.out W hW; go_simp; (try with_reducible rfl); done)); (try simp only [Act.put, List.setIfInBounds_toArray, List.set_cons_zero, List.set_cons_succ]))
          refine PlanB.step rfl rfl (fun Kk hK => ?_)
          go_simp
          refine (HCP.out w4).mono ?_
          rintro e w5 ⟨rfl, hb5⟩
          refine hK.out _ _ hb5 ?_
          clear hK Kk
          (try simp only [Act.put, List.setIfInBounds_toArray, List.set_cons_zero, List.set_cons_succ])
          refine PlanB.step rfl rfl (fun Kk hK => ?_)
          go_simp
          refine (HCK.out w5).mono ?_
          rintro e w6 ⟨rfl, hb6⟩
          refine hK.out _ _ hb6 ?_
          clear hK Kk
          (try simp only [Act.put, List.setIfInBounds_toArray, List.set_cons_zero, List.set_cons_succ])
          have HC6 := Lib.hid (fun W (hW : Below w6.heap.size w6 W) => HC4.out W ((hb5.trans (hb6.mono hb5.size)).trans (hW.mono (Nat.le_trans hb5.size hb6.size))))
          have HB6 := Lib.hid (HB4.out.trans ((hb5.trans (hb6.mono hb5.size)).mono (by rw [HG.out]; exact HB4.out.size)))
          have HP6 := Lib.hid (fun W (hW : Below w6.heap.size w6 W) => HP.out W (HB6.out.trans (hW.mono (by rw [HG.out]; exact HB6.out.size))))
          clear hb5 hb6 HB4 HC4 hG4
          repeat (first | (refine PlanB.take (v := ?_) rfl rfl ?_ ?_; rotate_left; (focus (intro W hW; obtain ⟨k0, k1⟩ := HC6.out W hW; go_simp; (try with_reducible rfl); done)); (try simp only [Act.put, List.setIfInBounds_toArray, List.set_cons_zero, List.set_cons_succ])) | (refine PlanB.skip rfl rfl ?_; (try simp only [Act.put, List.setIfInBounds_toArray, List.set_cons_zero, List.set_cons_succ])))
          simp only [PlanB]
          go_wp2_with fail
          go_ret
          exact ⟨by rw [HD.out]; rfl, by have h := HB6.out; rwa [HG.out] at h⟩
        have hck2 : checkAns ⟨1, x, y⟩ = 0 := by unfold checkAns; rw [if_pos rfl, if_neg ha]
        rw [hck2] at hck
        have HCK := Lib.hid hck; clear hck hck2
        by_cases hq : x ≤ q
        · rw [if_pos (.inr (.inr ⟨q, rfl, hq⟩))] at hd
          have HD := Lib.hid hd; clear hd
          have HQ1 := Lib.hid hq; clear hq
          go_wp2_with fail
          refine wp_region_planB [(true, 0), (false, 1), (false, 2), (true, 3), (true, 4), (true, 5), (true, 6), (true, 7), (true, 8), (true, 9), (true, 10), (true, 11), (true, 12), (true, 13), (true, 14), (true, 15), (true, 16), (true, 17), (true, 18)] (by kernel_rfl) (by kernel_rfl) (fun _ _ d _ _ h => by cases d <;> exact h) ?_
          obtain ⟨w4, hw4⟩ : ∃ w4, w4 = (wr.alloc (.cells #[.string x, .string y] 56)).drew := ⟨_, rfl⟩
          rw [← hw4]
          have hb4 : Below g w w4 := by rw [hw4]; exact (HBW.out.alloc (by rw [HG.out]; exact HBW.out.size) _).drew
          have hG4 : wr.heap.size < w4.heap.size := by rw [hw4]; show _ < (wr.alloc _).heap.size; simp
          have hc4 : ∀ W, Below w4.heap.size w4 W → W.cell? ⟨wr.heap.size, 0, none⟩ = some (.string x) ∧ W.cell? ⟨wr.heap.size, 1, none⟩ = some (.string y) := fun W hW => by
            have e0 : w4.cell? ⟨wr.heap.size, 0, none⟩ = some (.string x) := by rw [hw4]; exact World.cell?_alloc_at _ _ _ _ rfl
            have e1 : w4.cell? ⟨wr.heap.size, 1, none⟩ = some (.string y) := by rw [hw4]; exact World.cell?_alloc_at _ _ _ _ rfl
            exact ⟨(hW.cell (p := ⟨wr.heap.size, 0, none⟩) hG4).trans e0, (hW.cell (p := ⟨wr.heap.size, 1, none⟩) hG4).trans e1⟩
          have HB4 := Lib.hid hb4
          have HC4 := Lib.hid hc4
          clear hb4 hc4 hw4
          obtain ⟨G, hG⟩ : ∃ G, G = wr.heap.size := ⟨_, rfl⟩
          rw [← hG] at HC4 hG4 ⊢
          clear hG
          (refine PlanB.take (v := ?_) rfl rfl ?_ ?_; rotate_left; (focus (intro W hW; obtain ⟨k0, k1⟩ := HC4.out W hW; go_simp; (try with_reducible rfl); done)); (try simp only [Act.put, List.setIfInBounds_toArray, List.set_cons_zero, List.set_cons_succ]))
          refine PlanB.step rfl rfl (fun Kk hK => ?_)
          go_simp
          refine (HCP.out w4).mono ?_
          rintro e w5 ⟨rfl, hb5⟩
          refine hK.out _ _ hb5 ?_
          clear hK Kk
          (try simp only [Act.put, List.setIfInBounds_toArray, List.set_cons_zero, List.set_cons_succ])
          refine PlanB.step rfl rfl (fun Kk hK => ?_)
          go_simp
          refine (HCK.out w5).mono ?_
          rintro e w6 ⟨rfl, hb6⟩
          refine hK.out _ _ hb6 ?_
          clear hK Kk
          (try simp only [Act.put, List.setIfInBounds_toArray, List.set_cons_zero, List.set_cons_succ])
          have HC6 := Lib.hid (fun W (hW : Below w6.heap.size w6 W) => HC4.out W ((hb5.trans (hb6.mono hb5.size)).trans (hW.mono (Nat.le_trans hb5.size hb6.size))))
          have HB6 := Lib.hid (HB4.out.trans ((hb5.trans (hb6.mono hb5.size)).mono (by rw [HG.out]; exact HB4.out.size)))
          have HP6 := Lib.hid (fun W (hW : Below w6.heap.size w6 W) => HP.out W (HB6.out.trans (hW.mono (by rw [HG.out]; exact HB6.out.size))))
          clear hb5 hb6 HB4 HC4 hG4
          repeat (first | (refine PlanB.take (v := ?_) rfl rfl ?_ ?_; rotate_left; (focus (intro W hW; obtain ⟨k0, k1⟩ := HC6.out W hW; have k2 := HP6.out W hW; have k5 := HQ1.out; go_simp; (try with_reducible rfl); done)); (try simp only [Act.put, List.setIfInBounds_toArray, List.set_cons_zero, List.set_cons_succ])) | (refine PlanB.skip rfl rfl ?_; (try simp only [Act.put, List.setIfInBounds_toArray, List.set_cons_zero, List.set_cons_succ])))
          simp only [PlanB]
          go_wp2_with fail
          go_ret
          exact ⟨by rw [HD.out]; rfl, by have h := HB6.out; rwa [HG.out] at h⟩
        rw [if_neg (fun h => h.elim (fun h => ha (.inl h)) (fun h => h.elim (fun h => ha (.inr h)) (fun ⟨_, h1, h2⟩ => hq (by cases h1; exact h2))))] at hd
        have HD := Lib.hid hd; clear hd
        have HQ1 := Lib.hid hq; clear hq
        clear ha
        go_wp2_with fail
        refine wp_region_planB [(true, 0), (false, 1), (false, 2), (true, 3), (true, 4), (true, 5), (true, 6), (true, 7), (true, 8), (true, 9), (true, 10), (true, 11), (true, 12), (true, 13), (true, 14), (true, 15), (true, 16), (true, 17), (true, 18)] (by kernel_rfl) (by kernel_rfl) (fun _ _ d _ _ h => by cases d <;> exact h) ?_
        obtain ⟨w4, hw4⟩ : ∃ w4, w4 = (wr.alloc (.cells #[.string x, .string y] 56)).drew := ⟨_, rfl⟩
        rw [← hw4]
        have hb4 : Below g w w4 := by rw [hw4]; exact (HBW.out.alloc (by rw [HG.out]; exact HBW.out.size) _).drew
        have hG4 : wr.heap.size < w4.heap.size := by rw [hw4]; show _ < (wr.alloc _).heap.size; simp
        have hc4 : ∀ W, Below w4.heap.size w4 W → W.cell? ⟨wr.heap.size, 0, none⟩ = some (.string x) ∧ W.cell? ⟨wr.heap.size, 1, none⟩ = some (.string y) := fun W hW => by
          have e0 : w4.cell? ⟨wr.heap.size, 0, none⟩ = some (.string x) := by rw [hw4]; exact World.cell?_alloc_at _ _ _ _ rfl
          have e1 : w4.cell? ⟨wr.heap.size, 1, none⟩ = some (.string y) := by rw [hw4]; exact World.cell?_alloc_at _ _ _ _ rfl
          exact ⟨(hW.cell (p := ⟨wr.heap.size, 0, none⟩) hG4).trans e0, (hW.cell (p := ⟨wr.heap.size, 1, none⟩) hG4).trans e1⟩
        have HB4 := Lib.hid hb4
        have HC4 := Lib.hid hc4
        clear hb4 hc4 hw4
        obtain ⟨G, hG⟩ : ∃ G, G = wr.heap.size := ⟨_, rfl⟩
        rw [← hG] at HC4 hG4 ⊢
        clear hG
        (refine PlanB.take (v := ?_) rfl rfl ?_ ?_; rotate_left; (focus (intro W hW; obtain ⟨k0, k1⟩ := HC4.out W hW; go_simp; (try with_reducible rfl); done)); (try simp only [Act.put, List.setIfInBounds_toArray, List.set_cons_zero, List.set_cons_succ]))
        refine PlanB.step rfl rfl (fun Kk hK => ?_)
        go_simp
        refine (HCP.out w4).mono ?_
        rintro e w5 ⟨rfl, hb5⟩
        refine hK.out _ _ hb5 ?_
        clear hK Kk
        (try simp only [Act.put, List.setIfInBounds_toArray, List.set_cons_zero, List.set_cons_succ])
        refine PlanB.step rfl rfl (fun Kk hK => ?_)
        go_simp
        refine (HCK.out w5).mono ?_
        rintro e w6 ⟨rfl, hb6⟩
        refine hK.out _ _ hb6 ?_
        clear hK Kk
        (try simp only [Act.put, List.setIfInBounds_toArray, List.set_cons_zero, List.set_cons_succ])
        have HC6 := Lib.hid (fun W (hW : Below w6.heap.size w6 W) => HC4.out W ((hb5.trans (hb6.mono hb5.size)).trans (hW.mono (Nat.le_trans hb5.size hb6.size))))
        have HB6 := Lib.hid (HB4.out.trans ((hb5.trans (hb6.mono hb5.size)).mono (by rw [HG.out]; exact HB4.out.size)))
        have HP6 := Lib.hid (fun W (hW : Below w6.heap.size w6 W) => HP.out W (HB6.out.trans (hW.mono (by rw [HG.out]; exact HB6.out.size))))
        clear hb5 hb6 HB4 HC4 hG4
        repeat (first | (refine PlanB.take (v := ?_) rfl rfl ?_ ?_; rotate_left; (focus (intro W hW; obtain ⟨k0, k1⟩ := HC6.out W hW; have k2 := HP6.out W hW; have k5 := HQ1.out; go_simp; (try with_reducible rfl); done)); (try simp only [Act.put, List.setIfInBounds_toArray, List.set_cons_zero, List.set_cons_succ])) | (refine PlanB.skip rfl rfl ?_; (try simp only [Act.put, List.setIfInBounds_toArray, List.set_cons_zero, List.set_cons_succ])))
        simp only [PlanB]
        go_wp2_with fail
        go_roundw
        case rel => exact ⟨j + 1 + 1, by omega, by go_num, HB6.out, by rw [HD.out]⟩
        case measure => simp [intOf]; omega
    · have hd := HE.out
      rw [List.drop_eq_nil_of_le (by omega), okFrom] at hd
      have HD := Lib.hid hd; clear hd
      go_wp2_with fail
      go_ret
      exact ⟨by rw [HD.out]; rfl, by have h := HBW.out; rwa [HG.out] at h⟩
end Go.Proofs.Ytpfhkijnaiopoaa

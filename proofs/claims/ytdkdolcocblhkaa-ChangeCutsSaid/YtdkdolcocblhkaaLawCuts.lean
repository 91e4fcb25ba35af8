/- ChangeCuts: the walk. -/
import Derived.Test.YtdkdolcocblhkaaCut
import Derived.Test.YtdkdolcocblhkaaRCut
import Derived.Test.YtdkdolcocblhkaaLawApp
namespace Go.Proofs.Ytdkdolcocblhkaa
open Go.RowKit
attribute [local go_sem] less_eq same_eq le_eq ge_eq gt_eq

theorem pcut_good (s : K × K) (l : List Chg) (hs : ∀ c ∈ l, smallC c) (v : Value) (w : World) (hv : RdC w w.heap.size v l) (hl : l.length ≤ 5629499532000) (h0 : allAns l = 0) (hb : ¬ (s.1.size > 17 ∨ s.2.size > 17)) :
    Calls Try.prog 26 #[spv s, v] w fun e w' => ∃ A R c, e = .returned (.tuple #[.slice A R.length c, .int .i64 0]) ∧ RdC w' w'.heap.size (.slice A R.length c) R ∧ Below w.heap.size w w' ∧ R = cutP s l ∧ R.length < 4611686018427387904 :=
  (pcut_any s l hs v w hv hl).mono fun e w' h => by
    obtain ⟨v', q, rfl, hb', h⟩ := h
    rcases h with ⟨h1, h2, rfl⟩ | ⟨_, h, _⟩ | ⟨_, _, rfl, ho⟩
    · exact absurd (h1.trans h0) h2
    · exact absurd h hb
    · have hr := ho.rd encC_len
      have hlen := cutP_len s l
      obtain ⟨A, c, rfl, _⟩ := Own.slice ho
      exact ⟨A, _, c, rfl, hr, hb', rfl, by omega⟩
theorem pcut_bad (s : K × K) (l : List Chg) (hs : ∀ c ∈ l, smallC c) (v : Value) (w : World) (hv : RdC w w.heap.size v l) (hl : l.length ≤ 5629499532000) (h0 : allAns l ≠ 0) :
    Calls Try.prog 26 #[spv s, v] w fun e w' => e = .returned (.tuple #[.slice none 0 0, .int .i64 (allAns l)]) ∧ Below w.heap.size w w' :=
  (pcut_any s l hs v w hv hl).mono fun e w' h => by
    obtain ⟨v', q, rfl, hb, h⟩ := h
    rcases h with ⟨rfl, h2, rfl⟩ | ⟨h1, _⟩ | ⟨h1, _⟩
    · exact ⟨rfl, hb⟩
    · exact absurd h1 h0
    · exact absurd h1 h0
theorem pcut_big (s : K × K) (l : List Chg) (hs : ∀ c ∈ l, smallC c) (v : Value) (w : World) (hv : RdC w w.heap.size v l) (hl : l.length ≤ 5629499532000) (h0 : allAns l = 0) (hb : s.1.size > 17 ∨ s.2.size > 17) :
    Calls Try.prog 26 #[spv s, v] w fun e w' => e = .returned (.tuple #[.slice none 0 0, .int .i64 6]) ∧ Below w.heap.size w w' :=
  (pcut_any s l hs v w hv hl).mono fun e w' h => by
    obtain ⟨v', q, rfl, hb', h⟩ := h
    rcases h with ⟨h1, h2, rfl⟩ | ⟨_, h, rfl, rfl⟩ | ⟨_, h, _⟩
    · exact absurd (h1.trans h0) h2
    · exact ⟨rfl, hb'⟩
    · exact absurd hb h
theorem rcut_good (s : K × K) (l : List Chg) (hs : ∀ c ∈ l, smallC c) (v : Value) (w : World) (hv : RdC w w.heap.size v l) (hl : l.length ≤ 5629499532000) :
    Calls Try.prog 27 #[spv s, v] w fun e w' => ∃ A R c, e = .returned (.slice A R.length c) ∧ RdC w' w'.heap.size (.slice A R.length c) R ∧ Below w.heap.size w w' ∧ R = cutP s l :=
  (rcut_any s l hs v w hv hl).mono fun e w' h => by
    obtain ⟨v', rfl, ho, hb⟩ := h
    have hr := ho.rd encC_len
    obtain ⟨A, c, rfl, _⟩ := Own.slice ho
    exact ⟨A, _, c, rfl, hr, hb, rfl⟩

set_option maxHeartbeats 8000000 in
set_option maxRecDepth 100000 in
theorem changeCuts_walk (s : K × K) (l : List Chg) (hk : s.1.size ≤ 140737488351232) (hk2 : s.2.size ≤ 140737488351232) (hs : ∀ c ∈ l, smallC c) (v : Value) (w : World) (hv : RdC w w.heap.size v l) (hlen : l.length ≤ 5629499532000) :
    Calls Try.prog 7 #[spv s, v] w fun e w' => e = .returned (.bool true) ∧ Below w.heap.size w w' := by
  obtain ⟨a, b⟩ := s
  have hb0 : Below w.heap.size w (w.alloc (.cells #[.string a, .string b] 48)) := (Below.refl _ w).alloc (Nat.le_refl _) _
  obtain ⟨w1, hw1⟩ : ∃ w1, w1 = w.alloc (.cells #[.string a, .string b] 48) := ⟨_, rfl⟩
  rw [← hw1] at hb0
  have hsz : w1.heap.size = w.heap.size + 1 := by rw [hw1]; simp
  have hsc : ∀ W, Below w1.heap.size w1 W → W.cell? ⟨w.heap.size, 0, none⟩ = some (.string a) ∧ W.cell? ⟨w.heap.size, 1, none⟩ = some (.string b) := fun W hW => by
    have hlt : w.heap.size < w1.heap.size := by omega
    rw [hsz] at hW
    subst hw1
    exact ⟨(hW.cell (p := ⟨w.heap.size, 0, none⟩) (Nat.lt_succ_self _)).trans (World.cell?_alloc_at _ _ _ _ rfl), (hW.cell (p := ⟨w.heap.size, 1, none⟩) (Nat.lt_succ_self _)).trans (World.cell?_alloc_at _ _ _ _ rfl)⟩
  have hend : ∀ W, Below w1.heap.size w1 W → Below w.heap.size w W := fun W hW => hb0.trans (hW.mono hb0.size)
  have HV := Lib.hid (hv.next hb0); clear hv hb0
  have HB1 := Lib.hid (Below.refl w1.heap.size w1)
  have HEND := Lib.hid hend; clear hend
  have HSC := Lib.hid hsc; clear hsc hsz
  have HW1 := Lib.hid hw1; clear hw1
  have HA := Lib.hid fun v W h => rall_any l hs v W h (by omega)
  by_cases h0 : allAns l = 0
  · rw [h0] at HA
    by_cases h1 : a.size > 17
    · have HP := Lib.hid fun v W h => pcut_big (a, b) l hs v W h hlen h0 (.inl h1)
      clear h0 hs
      unfold spv at HP ⊢
      simp only at HP ⊢
      go_enter Try.func7, Try.ntmps7
      go_wp2_with fail
      rw [← HW1.out]
      refine (HP.out _ _ HV.out).mono ?_
      rintro e w2 ⟨rfl, hb2⟩
      have HV2 := Lib.hid (HV.out.next hb2)
      have HB2 := Lib.hid (HB1.out.trans (hb2.mono HB1.out.size)); clear hb2
      go_wp2_with fail
      refine (HA.out _ _ HV2.out).mono ?_
      rintro e w3 ⟨rfl, hb3⟩
      have HB3 := Lib.hid (HB2.out.trans (hb3.mono HB2.out.size)); clear hb3
      obtain ⟨k30, k31⟩ := HSC.out w3 HB3.out
      go_wp2_with fail
      refine (awake_any _).mono ?_
      rintro e w4 ⟨rfl, hb4⟩
      have HB4 := Lib.hid (HB3.out.trans (hb4.mono HB3.out.size)); clear hb4
      go_wp2_with fail
      go_ret
      exact ⟨rfl, HEND.out _ HB4.out⟩
    · by_cases h2 : b.size > 17
      · have HP := Lib.hid fun v W h => pcut_big (a, b) l hs v W h hlen h0 (.inr h2)
        clear h0 hs
        unfold spv at HP ⊢
        simp only at HP ⊢
        go_enter Try.func7, Try.ntmps7
        go_wp2_with fail
        rw [← HW1.out]
        refine (HP.out _ _ HV.out).mono ?_
        rintro e w2 ⟨rfl, hb2⟩
        have HV2 := Lib.hid (HV.out.next hb2)
        have HB2 := Lib.hid (HB1.out.trans (hb2.mono HB1.out.size)); clear hb2
        go_wp2_with fail
        refine (HA.out _ _ HV2.out).mono ?_
        rintro e w3 ⟨rfl, hb3⟩
        have HB3 := Lib.hid (HB2.out.trans (hb3.mono HB2.out.size)); clear hb3
        obtain ⟨k30, k31⟩ := HSC.out w3 HB3.out
        go_wp2_with fail
        refine (awake_any _).mono ?_
        rintro e w4 ⟨rfl, hb4⟩
        have HB4 := Lib.hid (HB3.out.trans (hb4.mono HB3.out.size)); clear hb4
        go_wp2_with fail
        go_ret
        exact ⟨rfl, HEND.out _ HB4.out⟩
      · have HP := Lib.hid fun v W h => pcut_good (a, b) l hs v W h hlen h0 (by rintro (h | h); exact h1 h; exact h2 h)
        have HR := Lib.hid fun v W h => rcut_good (a, b) l hs v W h hlen
        clear h0 hs
        unfold spv at HP HR ⊢
        simp only at HP HR ⊢
        go_enter Try.func7, Try.ntmps7
        go_wp2_with fail
        rw [← HW1.out]
        refine (HP.out _ _ HV.out).mono ?_
        rintro e w2 ⟨A2, R2, c2, rfl, hr2, hb2, hq2, hn2⟩
        have HR2 := Lib.hid hr2; clear hr2
        have HQ2 := Lib.hid hq2; clear hq2
        have HN2 := Lib.hid hn2; clear hn2
        have HV2 := Lib.hid (HV.out.next hb2)
        have HB2 := Lib.hid (HB1.out.trans (hb2.mono HB1.out.size)); clear hb2
        go_wp2_with fail
        refine (HA.out _ _ HV2.out).mono ?_
        rintro e w3 ⟨rfl, hb3⟩
        have HR3 := Lib.hid (HR2.out.next hb3)
        have HV3 := Lib.hid (HV2.out.next hb3)
        have HB3 := Lib.hid (HB2.out.trans (hb3.mono HB2.out.size)); clear hb3
        obtain ⟨k30, k31⟩ := HSC.out w3 HB3.out
        go_wp2_with fail
        refine (awake_any _).mono ?_
        rintro e w4 ⟨rfl, hb4⟩
        have HR4 := Lib.hid (HR3.out.next hb4)
        have HV4 := Lib.hid (HV3.out.next hb4)
        have HB4 := Lib.hid (HB3.out.trans (hb4.mono HB3.out.size)); clear hb4
        obtain ⟨k40, k41⟩ := HSC.out w4 HB4.out
        go_wp2_with fail
        refine (HR.out _ _ HV4.out).mono ?_
        rintro e w5 ⟨A5, R5, c5, rfl, hr5, hb5, hq5⟩
        have hpt := chgs_true R2 R5 (HQ2.out.trans hq5.symm) _ _ w5 (HR4.out.next hb5) hr5 HN2.out
        have HPT := Lib.hid hpt; clear hpt hr5 hq5
        have HB5 := Lib.hid (HB4.out.trans (hb5.mono HB4.out.size)); clear hb5
        go_wp2_with fail
        refine HPT.out.mono ?_
        rintro e w6 ⟨rfl, hb6⟩
        have HB6 := Lib.hid (HB5.out.trans (hb6.mono HB5.out.size)); clear hb6
        go_wp2_with fail
        go_ret
        exact ⟨rfl, HEND.out _ HB6.out⟩
  · have HP := Lib.hid fun v W h => pcut_bad (a, b) l hs v W h hlen h0
    generalize allAns l = q at HP HA h0
    have H0 := Lib.hid h0
    unfold spv at HP ⊢
    simp only at HP ⊢
    clear hs
    go_enter Try.func7, Try.ntmps7
    go_wp2_with fail
    rw [← HW1.out]
    refine (HP.out _ _ HV.out).mono ?_
    rintro e w2 ⟨rfl, hb2⟩
    have HV2 := Lib.hid (HV.out.next hb2)
    have HB2 := Lib.hid (HB1.out.trans (hb2.mono HB1.out.size)); clear hb2
    go_wp2_with fail
    refine (HA.out _ _ HV2.out).mono ?_
    rintro e w3 ⟨rfl, hb3⟩
    have HB3 := Lib.hid (HB2.out.trans (hb3.mono HB2.out.size)); clear hb3
    go_wp2_with fail
    refine (awake_any _).mono ?_
    rintro e w4 ⟨rfl, hb4⟩
    have HB4 := Lib.hid (HB3.out.trans (hb4.mono HB3.out.size)); clear hb4
    go_wp2_with fail
    go_ret
    exact ⟨rfl, HEND.out _ HB4.out⟩
end Go.Proofs.Ytdkdolcocblhkaa

/- ChangeParts: the walk. -/
import Derived.Test.YtdkdolcocblhkaaSameM
import Derived.Test.YtdkdolcocblhkaaLawApp
import Derived.Test.YtdkdolcocblhkaaRCut
namespace Go.Proofs.Ytdkdolcocblhkaa
open Go.RowKit
attribute [local go_sem] less_eq same_eq le_eq ge_eq gt_eq

theorem small_res {l : List (K × K)} {cs : List Chg} : ∀ p ∈ applyRes l cs, p.1.size < 4611686018427387904 ∧ p.2.size < 4611686018427387904 := by
  unfold applyRes
  by_cases h : applyErr l cs = 0
  · rw [if_pos h]
    obtain ⟨h1, h2⟩ := applyErr_zero.1 h
    intro p hp
    have := (soundP_spec (sound_apply h2 h1)).2 p hp
    omega
  · rw [if_neg h]; simp
theorem err_parts {l : List (K × K)} {a b : List Chg} (h : applyErr l (a ++ b) = 0) : applyErr l a = 0 ∧ applyErr (applyRes l a) b = 0 ∧ applyRes (applyRes l a) b = applyRes l (a ++ b) := by
  obtain ⟨h1, h2⟩ := applyErr_zero.1 h
  have h3 := allAns_zero.1 h1
  have ha : allAns a = 0 := allAns_zero.2 fun c hc => h3 c (by simp [hc])
  have hb : allAns b = 0 := allAns_zero.2 fun c hc => h3 c (by simp [hc])
  have e1 : applyErr l a = 0 := applyErr_zero.2 ⟨ha, h2⟩
  have e2 : applyRes l a = applyP l a := by unfold applyRes; rw [if_pos e1]
  have e3 : applyErr (applyP l a) b = 0 := applyErr_zero.2 ⟨hb, sound_apply h2 ha⟩
  rw [e2]
  refine ⟨e1, e3, ?_⟩
  unfold applyRes
  rw [if_pos e3, if_pos h, applyP_append]
theorem res_swap {l : List (K × K)} {x y : Chg} (hm : ¬ (meet (cspan x) (cspan y)).1 < (meet (cspan x) (cspan y)).2) (h1 : applyErr l [x, y] = 0) (h2 : applyErr l [y, x] = 0) : applyRes l [x, y] = applyRes l [y, x] := by
  unfold applyRes
  rw [if_pos h1, if_pos h2]
  refine swap_apply (soundP_spec (applyErr_zero.1 h1).2).1 x y fun k hx hy => hm ?_
  have hlt : mx (cspan x).1 (cspan y).1 < mn (cspan x).2 (cspan y).2 := by
    obtain ⟨a1, a2⟩ := hx
    obtain ⟨b1, b2⟩ := hy
    have h1 : mx (cspan x).1 (cspan y).1 ≤ k := by rcases mx_cases (cspan x).1 (cspan y).1 with ⟨_, h⟩ | ⟨_, h⟩ <;> rw [h] <;> assumption
    have h2 : k < mn (cspan x).2 (cspan y).2 := by rcases mn_cases (cspan x).2 (cspan y).2 with ⟨_, h⟩ | ⟨_, h⟩ <;> rw [h] <;> assumption
    grind
  unfold meet
  rw [if_neg (by grind)]
  exact hlt

set_option maxHeartbeats 16000000 in
set_option maxRecDepth 100000 in
theorem changeParts_walk (l : List (K × K)) (a b : List Chg) (x y : Chg) (hs : ∀ p ∈ l, p.1.size < 4611686018427387904 ∧ p.2.size < 4611686018427387904) (ha : ∀ c ∈ a, smallC c) (hb : ∀ c ∈ b, smallC c) (hx : smallC x) (hy : smallC y) (v va vb : Value) (w : World) (hv : RdP w w.heap.size v l) (hva : RdC w w.heap.size va a) (hvb : RdC w w.heap.size vb b) (hl : l.length + a.length + b.length ≤ 1048600) :
    Calls Try.prog 9 #[v, va, vb, cval x, cval y] w fun e w' => e = .returned (.bool true) ∧ Below w.heap.size w w' := by
  have h1 := fun va' W h1 h2 => papply_rd l (a ++ b) hs (fun c h => (List.mem_append.1 h).elim (ha c) (hb c)) v va' W h1 h2 (by rw [List.length_append]; omega)
  have h2 := fun W h1 h2 => papply_rd l a hs ha v va W h1 h2 (by omega)
  have h3 := fun vp W h1 h2 => papply_rd (applyRes l a) b small_res hb vp vb W h1 h2 (by have := applyRes_len l a; omega)
  have hxy : ∀ c ∈ [x, y], smallC c := by intro c hc; simp at hc; rcases hc with rfl | rfl <;> assumption
  have hyx : ∀ c ∈ [y, x], smallC c := by intro c hc; simp at hc; rcases hc with rfl | rfl <;> assumption
  have h4 := fun vl W h1 h2 => papply_rd l [x, y] hs hxy v vl W h1 h2 (by simp; omega)
  have h5 := fun vl W h1 h2 => papply_rd l [y, x] hs hyx v vl W h1 h2 (by simp; omega)
  have hgood := err_parts (l := l) (a := a) (b := b)
  have hsw := fun hm => res_swap (l := l) (x := x) (y := y) hm
  have hsx := fun W => rspan_any x W hx.1
  have hsy := fun W => rspan_any y W hy.1
  have hmt := fun W => rmeet_any (cspan x) (cspan y) W
  have hl0 := applyRes_len l (a ++ b)
  have hl4 := applyRes_len l [x, y]
  generalize cspan x = sx at hsx hmt hsw
  generalize cspan y = sy at hsy hmt hsw
  generalize meet sx sy = m at hmt hsw
  generalize applyRes (applyRes l a) b = X2 at h3 hgood
  generalize applyErr (applyRes l a) b = e2 at h3 hgood
  generalize applyRes l a = X1 at h2 h3
  generalize applyErr l a = e1 at h2 hgood
  generalize applyRes l (a ++ b) = X0 at h1 hgood hl0
  generalize applyErr l (a ++ b) = e0 at h1 hgood
  generalize applyRes l [x, y] = P4 at h4 hsw hl4
  generalize applyErr l [x, y] = h4__ at h4 hsw
  generalize applyRes l [y, x] = Q4 at h5 hsw
  generalize applyErr l [y, x] = i4 at h5 hsw
  obtain ⟨kx, ax, bx⟩ := x
  obtain ⟨ky, ay, by_⟩ := y
  obtain ⟨sx1, sx2⟩ := sx
  obtain ⟨sy1, sy2⟩ := sy
  obtain ⟨m1, m2⟩ := m
  unfold cval at hsx hsy ⊢
  unfold spv at hsx hsy hmt
  simp only at hsx hsy hmt hsw ⊢
  obtain ⟨w2, hw2⟩ : ∃ w2, w2 = (w.alloc (.cells #[.int .i64 kx, .string ax, .string bx] 23)).alloc (.cells #[.int .i64 ky, .string ay, .string by_] 23) := ⟨_, rfl⟩
  have hb0 : Below w.heap.size w w2 := by rw [hw2]; exact ((Below.refl _ w).alloc (Nat.le_refl _) _).alloc (by simp) _
  have hsz : w2.heap.size = w.heap.size + 1 + 1 := by rw [hw2]; simp
  have hw2x : Whole w2 w.heap.size 23 [.int .i64 kx, .string ax, .string bx] := by rw [hw2]; exact (Whole.fresh w _ _).alloc _
  have hw2y : Whole w2 (w.heap.size + 1) 23 [.int .i64 ky, .string ay, .string by_] := by
    have h := Whole.fresh (w.alloc (.cells #[.int .i64 kx, .string ax, .string bx] 23)) 23 [.int .i64 ky, .string ay, .string by_]
    rw [World.size_alloc] at h
    rw [hw2]; exact h
  have hsc : ∀ W, Below w2.heap.size w2 W → W.cell? ⟨w.heap.size, 0, none⟩ = some (.int .i64 kx) ∧ W.cell? ⟨w.heap.size, 1, none⟩ = some (.string ax) ∧ W.cell? ⟨w.heap.size, 2, none⟩ = some (.string bx) ∧ W.cell? ⟨w.heap.size + 1, 0, none⟩ = some (.int .i64 ky) ∧ W.cell? ⟨w.heap.size + 1, 1, none⟩ = some (.string ay) ∧ W.cell? ⟨w.heap.size + 1, 2, none⟩ = some (.string by_) := fun W hW => by
    have e1 := hw2x.below hW hw2x.size
    have e2 := hw2y.below hW hw2y.size
    exact ⟨e1.cell 0 _ rfl, e1.cell 1 _ rfl, e1.cell 2 _ rfl, e2.cell 0 _ rfl, e2.cell 1 _ rfl, e2.cell 2 _ rfl⟩
  have hend : ∀ W, Below w2.heap.size w2 W → Below w.heap.size w W := fun W hW => hb0.trans (hW.mono hb0.size)
  have hp : ∀ W, Below w2.heap.size w2 W → RdP W W.heap.size v l := fun W hW => (hv.next hb0).next hW
  have HVA := Lib.hid (fun W (hW : Below w2.heap.size w2 W) => (hva.next hb0).next hW)
  have HVB := Lib.hid (fun W (hW : Below w2.heap.size w2 W) => (hvb.next hb0).next hW)
  have HP := Lib.hid hp; clear hp
  have HEND := Lib.hid hend; clear hend
  have HSC := Lib.hid hsc; clear hsc hw2x hw2y
  have HSZ := Lib.hid hsz; clear hsz
  have HW2 := Lib.hid hw2; clear hw2
  have H1 := Lib.hid h1; clear h1
  have H2 := Lib.hid h2; clear h2
  have H3 := Lib.hid h3; clear h3
  have H4 := Lib.hid h4; clear h4
  have H5 := Lib.hid h5; clear h5
  have HGOOD := Lib.hid hgood; clear hgood
  have HSW := Lib.hid hsw; clear hsw
  have HSX := Lib.hid hsx; clear hsx
  have HSY := Lib.hid hsy; clear hsy
  have HMT := Lib.hid hmt; clear hmt
  have HPL := Lib.hid (show P4.length < 4611686018427387904 by simp at hl4; omega); clear hl4
  have HXL := Lib.hid (show X0.length < 4611686018427387904 by rw [List.length_append] at hl0; omega); clear hl0
  clear hv hva hvb hb0 hs ha hb hx hy hxy hyx
  obtain ⟨Aa, ca, rfl, -⟩ : ∃ A c, va = .slice A a.length c ∧ True := by
    obtain ⟨A, c, h, _⟩ := RdC.at (HVA.out w2 (Below.refl _ _))
    exact ⟨A, c, h, trivial⟩
  obtain ⟨Ab, cb, rfl, -⟩ : ∃ A c, vb = .slice A b.length c ∧ True := by
    obtain ⟨A, c, h, _⟩ := RdC.at (HVB.out w2 (Below.refl _ _))
    exact ⟨A, c, h, trivial⟩
  go_enter Try.func9, Try.ntmps9
  go_wp2_with (at_builtin; go_must (refine wpList_addC rfl _ _ rfl w2.heap.size (.slice (some ⟨w.heap.size + 1 + 1, 0, none⟩) 0 0) [] rfl ?Q1 w2.heap.size (.slice Aa a.length ca) a rfl ?Q2 (by simp; omega) ?Q3 w2.heap.size w2 ?Q4 (Nat.le_refl _) ?Q5))
  case Q1 =>
    rw [← HW2.out]
    have h := Own.empty (enc := encC) (k := 3) (e := 23) w2 w2.heap.size (Nat.le_refl _)
    have e := HSZ.out
    rw [show (⟨w2.heap.size, 0, none⟩ : Addr) = ⟨w.heap.size + 1 + 1, 0, none⟩ by rw [e]] at h
    exact h
  case Q2 =>
    rw [← HW2.out]
    exact (HVA.out w2 (Below.refl _ _)).below ((Below.refl w2.heap.size w2).alloc (Nat.le_refl _) _) (Nat.le_refl _)
  case Q3 => rw [← HW2.out, World.size_alloc]; omega
  case Q4 => rw [← HW2.out]; exact (Below.refl _ _).alloc (Nat.le_refl _) _
  intro A3 c3 w3 ho3 hb3 hz3
  try rw [List.nil_append] at ho3
  try simp only [List.nil_append]
  go_wp2_with (at_builtin; go_must (refine wpList_addC rfl _ _ rfl w2.heap.size (.slice A3 a.length c3) a rfl ?R1 w3.heap.size (.slice Ab b.length cb) b rfl ?R2 (by omega) ?R3 w2.heap.size w2 ?R4 (Nat.le_refl _) ?R5))
  case R1 => exact ho3.out
  case R2 => exact HVB.out w3 hb3.out
  case R3 => exact hz3.out
  case R4 => exact hb3.out
  intro A4 c4 w4 ho4 hb4 hz4
  have hk4 := hb4.out
  have hr4 := ho4.out.rd encC_len
  clear ho3 hb3 hz3 ho4 hb4 hz4
  have HR4 := Lib.hid hr4; clear hr4
  try simp only [List.length_append] at HR4
  try simp only [List.length_append]
  go_wp2_with fail
  refine (H1.out _ _ (HP.out _ hk4) HR4.out).mono ?_
  rintro e w5 ⟨A5, c5, rfl, hr5, hb5⟩
  have hk5 : Below w2.heap.size w2 w5 := hk4.trans (hb5.mono hk4.size)
  have HX5 := Lib.hid hr5; clear hr5 hb5
  go_wp2_with fail
  refine (H2.out _ (HP.out _ hk5) (HVA.out _ hk5)).mono ?_
  rintro e w6 ⟨A6, c6, rfl, hr6, hb6⟩
  have hk6 : Below w2.heap.size w2 w6 := hk5.trans (hb6.mono hk5.size)
  have HX6 := Lib.hid (HX5.out.next hb6)
  have HY6 := Lib.hid hr6; clear hr6 hb6
  go_wp2_with fail
  refine (H3.out _ _ HY6.out (HVB.out _ hk6)).mono ?_
  rintro e w7 ⟨A7, c7, rfl, hr7, hb7⟩
  have hk7 : Below w2.heap.size w2 w7 := hk6.trans (hb7.mono hk6.size)
  have HX7 := Lib.hid (HX6.out.next hb7)
  have HZ7 := Lib.hid hr7; clear hr7 hb7
  go_wp2_with fail
  refine (awake_any _).mono ?_
  rintro e w8 ⟨rfl, hb8⟩
  have hk8 : Below w2.heap.size w2 w8 := hk7.trans (hb8.mono hk7.size)
  have HX8 := Lib.hid (HX7.out.next hb8)
  have HZ8 := Lib.hid (HZ7.out.next hb8)
  clear hb8 hk4 hk5 hk6 hk7 HX5 HX6 HX7 HY6 HZ7
  by_cases h0 : e0 = 0
  · obtain ⟨hf, hg, hxx⟩ := HGOOD.out h0
    have hpt := pairs_true X2 X0 hxx _ _ w8 HZ8.out HX8.out (by rw [hxx]; exact HXL.out)
    have HPT := Lib.hid hpt; clear hpt hxx
    subst h0 hf hg
    clear HGOOD
    go_wp2_with fail
    refine HPT.out.mono ?_
    rintro e wz ⟨rfl, hbz⟩
    have hkz : Below w2.heap.size w2 wz := hk8.trans (hbz.mono hk8.size)
    clear hbz hk8 HX8 HZ8 HPT
    go_wp2_with fail
    refine wp_region_planT (fun W => Below w2.heap.size w2 W) (.take 0 (.take 2 (.fork 1 (.fork 3 (.fork 4 (.step 5 (.step 6 .done)) 5 (.step 4 (.step 6 .done))) 5 (.step 3 (.step 4 (.step 6 .done)))) 5 (.step 1 (.step 3 (.step 4 (.step 6 .done))))))) (by kernel_rfl) (by kernel_rfl) (fun _ _ d _ _ h => by cases d <;> exact h) (hkz.drew) ?_
    have hkwd : Below w2.heap.size w2 wz.drew := hkz.drew
    have hswd : w2.heap.size ≤ wz.drew.heap.size := hkwd.size
    generalize wz.drew = wd at hkwd hswd ⊢
    refine PlanT.takeI (v := ?_) rfl rfl ?_ ?_; rotate_left; (focus (intro W hW; obtain ⟨q0, q1, q2, q3, q4, q5⟩ := HSC.out W hW; go_simp; (try with_reducible rfl); done)); (try simp only [Act.put, List.setIfInBounds_toArray, List.set_cons_zero, List.set_cons_succ])
    refine PlanT.takeI (v := ?_) rfl rfl ?_ ?_; rotate_left; (focus (intro W hW; obtain ⟨q0, q1, q2, q3, q4, q5⟩ := HSC.out W hW; go_simp; (try with_reducible rfl); done)); (try simp only [Act.put, List.setIfInBounds_toArray, List.set_cons_zero, List.set_cons_succ])
    refine ⟨?_, ?_⟩
    · refine wpOp_stepT rfl rfl (fun Kk hK => ?_)
      go_simp
      go_at_call 29
      refine (HSX.out _).mono ?_
      rintro e wa ⟨rfl, hb⟩
      have hkwa : Below w2.heap.size w2 wa := hkwd.trans (hb.mono hswd)
      have hswa : w2.heap.size ≤ wa.heap.size := Nat.le_trans hswd hb.size
      refine hK.out _ _ hkwa ?_
      clear hK Kk
      refine ⟨?_, ?_⟩
      · refine wpOp_stepT rfl rfl (fun Kk hK => ?_)
        go_simp
        go_at_call 29
        refine (HSY.out _).mono ?_
        rintro e wb ⟨rfl, hb⟩
        have hkwb : Below w2.heap.size w2 wb := hkwa.trans (hb.mono hswa)
        have hswb : w2.heap.size ≤ wb.heap.size := Nat.le_trans hswa hb.size
        refine hK.out _ _ hkwb ?_
        clear hK Kk
        refine ⟨?_, ?_⟩
        · refine wpOp_stepT rfl rfl (fun Kk hK => ?_)
          go_simp
          go_at_call 28
          refine (HMT.out _).mono ?_
          rintro e wc ⟨rfl, hb⟩
          have hkwc : Below w2.heap.size w2 wc := hkwb.trans (hb.mono hswb)
          have hswc : w2.heap.size ≤ wc.heap.size := Nat.le_trans hswb hb.size
          refine hK.out _ _ hkwc ?_
          clear hK Kk
          refine wpOp_stepT rfl rfl (fun Kk hK => ?_)
          go_simp
          obtain ⟨w8, hw8⟩ : ∃ w8, w8 = wc.alloc (.cells #[.string ⟨#[]⟩, .string ⟨#[]⟩] 48) := ⟨_, rfl⟩
          obtain ⟨G, hG⟩ : ∃ G, G = wc.heap.size := ⟨_, rfl⟩
          have hkw8 : Below w2.heap.size w2 w8 := by rw [hw8]; exact hkwc.alloc hswc _
          have hsw8 : w2.heap.size ≤ w8.heap.size := by rw [hw8]; simp; omega
          rw [← hw8, ← hG]
          have hc0 : w8.cell? ⟨G, 0, none⟩ = some (.string ⟨#[]⟩) := by subst hw8; subst hG; exact World.cell?_alloc_at _ _ _ _ rfl
          have hc1 : w8.cell? ⟨G, 1, none⟩ = some (.string ⟨#[]⟩) := by subst hw8; subst hG; exact World.cell?_alloc_at _ _ _ _ rfl
          have hGlt : G < w8.heap.size := by subst hw8; subst hG; simp
          have hGge : w2.heap.size ≤ G := by subst hG; exact hswc
          have hG_ : ∀ W, Below w8.heap.size w8 W → W.cell? ⟨G, 0, none⟩ = some (.string ⟨#[]⟩) ∧ W.cell? ⟨G, 1, none⟩ = some (.string ⟨#[]⟩) ∧ W.frozen? ⟨G, 0, none⟩ = false ∧ W.frozen? ⟨G, 1, none⟩ = false := fun W hW => ⟨(hW.cell (p := ⟨G, 0, none⟩) hGlt).trans hc0, (hW.cell (p := ⟨G, 1, none⟩) hGlt).trans hc1, (hW.frozen (p := ⟨G, 0, none⟩) hGlt).trans (by subst hw8; subst hG; exact frozen_new _ _ _ _), (hW.frozen (p := ⟨G, 1, none⟩) hGlt).trans (by subst hw8; subst hG; exact frozen_new _ _ _ _)⟩
          have hgw8 : Below w8.heap.size w8 w8 := Below.refl _ _
          clear hw8 hG hc0 hc1
          refine hK.out _ _ hkw8 ?_
          clear hK Kk
          refine wpOp_stepT rfl rfl (fun Kk hK => ?_)
          obtain ⟨c0, c1, z0, z1⟩ := hG_ w8 hgw8
          obtain ⟨d0, d1, d2, d3⟩ := two_put w8 G (.string m1) (.string m2) c0 c1 z0 z1
          go_simp
          obtain ⟨w9, hw9⟩ : ∃ w9, w9 = (w8.setCell ⟨G, 0, none⟩ (.string m1)).setCell ⟨G, 1, none⟩ (.string m2) := ⟨_, rfl⟩
          have hk9 : Below w2.heap.size w2 w9 := by rw [hw9]; exact (hkw8.setCell hGge _).setCell hGge _
          have hs9 : w2.heap.size ≤ w9.heap.size := hk9.size
          rw [← hw9] at d2 d3 ⊢
          clear hw9 c0 c1 z0 z1 d0 d1
          refine hK.out _ _ hk9 ?_
          clear hK Kk
          simp only [PlanT]
          have HK9 := Lib.hid hk9
          obtain ⟨x90, x91, x92, y90, y91, y92⟩ := HSC.out w9 hk9
          by_cases hm : m1 < m2
          · go_wp2_with fail
            go_ret
            exact ⟨rfl, HEND.out _ HK9.out⟩
          · have hsw2 := HSW.out hm
            have HSW2 := Lib.hid hsw2; clear hsw2
            go_wp2_with fail
            refine (H4.out _ _ (HP.out _ (hk9.alloc hs9 _)) ?T1).mono ?_
            case T1 =>
              have h := Whole.rd (enc := encC) (k := 3) encC_len (l := [⟨kx, ax, bx⟩, ⟨ky, ay, by_⟩]) (Whole.fresh w9 23 (flatG encC [⟨kx, ax, bx⟩, ⟨ky, ay, by_⟩]))
              rw [World.size_alloc]
              exact h
            rintro e w10 ⟨A10, c10, rfl, hr10, hb10⟩
            have hk10 : Below w2.heap.size w2 w10 := (hk9.alloc hs9 _).trans (hb10.mono (by rw [World.size_alloc]; omega))
            have hs10 : w2.heap.size ≤ w10.heap.size := hk10.size
            obtain ⟨x100, x101, x102, y100, y101, y102⟩ := HSC.out w10 hk10
            clear x90 x91 x92 y90 y91 y92 d2 d3
            have HR10 := Lib.hid hr10; clear hr10
            go_wp2_with fail
            refine (H5.out _ _ (HP.out _ (hk10.alloc hs10 _)) ?T2).mono ?_
            case T2 =>
              have h := Whole.rd (enc := encC) (k := 3) encC_len (l := [⟨ky, ay, by_⟩, ⟨kx, ax, bx⟩]) (Whole.fresh w10 23 (flatG encC [⟨ky, ay, by_⟩, ⟨kx, ax, bx⟩]))
              rw [World.size_alloc]
              exact h
            rintro e w11 ⟨A11, c11, rfl, hr11, hb11⟩
            have hb10' : Below w10.heap.size w10 w11 := ((Below.refl _ w10).alloc (Nat.le_refl _) _).trans (hb11.mono (by rw [World.size_alloc]; omega))
            have hk11 : Below w2.heap.size w2 w11 := hk10.trans (hb10'.mono hs10)
            have HR10' := Lib.hid (HR10.out.next hb10')
            have HR11 := Lib.hid hr11; clear hr11
            have HK11 := Lib.hid hk11
            clear x100 x101 x102 y100 y101 y102
            by_cases hh : h4__ = 0
            · by_cases hi : i4 = 0
              · have hpt := pairs_true P4 Q4 (HSW2.out hh hi) _ _ w11 HR10'.out HR11.out HPL.out
                have HPT := Lib.hid hpt; clear hpt
                subst hh hi
                go_wp2_with fail
                refine HPT.out.mono ?_
                rintro e w12 ⟨rfl, hb12⟩
                have HK12 := Lib.hid (HK11.out.trans (hb12.mono hk11.size)); clear hb12
                go_wp2_with fail
                go_ret
                exact ⟨rfl, HEND.out _ HK12.out⟩
              · have HI := Lib.hid hi
                subst hh
                go_wp2_with fail
                go_ret
                exact ⟨rfl, HEND.out _ HK11.out⟩
            · have HH := Lib.hid hh
              go_wp2_with fail
              go_ret
              exact ⟨rfl, HEND.out _ HK11.out⟩
        · refine wpOp_stepT rfl rfl (fun Kk hK => ?_)
          go_simp
          obtain ⟨wc, hwc⟩ : ∃ wc, wc = wb.alloc (.cells #[.string ⟨#[]⟩, .string ⟨#[]⟩] 48) := ⟨_, rfl⟩
          obtain ⟨G, hG⟩ : ∃ G, G = wb.heap.size := ⟨_, rfl⟩
          have hkwc : Below w2.heap.size w2 wc := by rw [hwc]; exact hkwb.alloc hswb _
          have hswc : w2.heap.size ≤ wc.heap.size := by rw [hwc]; simp; omega
          rw [← hwc, ← hG]
          have hc0 : wc.cell? ⟨G, 0, none⟩ = some (.string ⟨#[]⟩) := by subst hwc; subst hG; exact World.cell?_alloc_at _ _ _ _ rfl
          have hc1 : wc.cell? ⟨G, 1, none⟩ = some (.string ⟨#[]⟩) := by subst hwc; subst hG; exact World.cell?_alloc_at _ _ _ _ rfl
          have hGlt : G < wc.heap.size := by subst hwc; subst hG; simp
          have hGge : w2.heap.size ≤ G := by subst hG; exact hswb
          have hG_ : ∀ W, Below wc.heap.size wc W → W.cell? ⟨G, 0, none⟩ = some (.string ⟨#[]⟩) ∧ W.cell? ⟨G, 1, none⟩ = some (.string ⟨#[]⟩) ∧ W.frozen? ⟨G, 0, none⟩ = false ∧ W.frozen? ⟨G, 1, none⟩ = false := fun W hW => ⟨(hW.cell (p := ⟨G, 0, none⟩) hGlt).trans hc0, (hW.cell (p := ⟨G, 1, none⟩) hGlt).trans hc1, (hW.frozen (p := ⟨G, 0, none⟩) hGlt).trans (by subst hwc; subst hG; exact frozen_new _ _ _ _), (hW.frozen (p := ⟨G, 1, none⟩) hGlt).trans (by subst hwc; subst hG; exact frozen_new _ _ _ _)⟩
          have hgwc : Below wc.heap.size wc wc := Below.refl _ _
          clear hwc hG hc0 hc1
          refine hK.out _ _ hkwc ?_
          clear hK Kk
          refine wpOp_stepT rfl rfl (fun Kk hK => ?_)
          go_simp
          go_at_call 28
          refine (HMT.out _).mono ?_
          rintro e w8 ⟨rfl, hb⟩
          have hkw8 : Below w2.heap.size w2 w8 := hkwc.trans (hb.mono hswc)
          have hsw8 : w2.heap.size ≤ w8.heap.size := Nat.le_trans hswc hb.size
          have hgw8 : Below wc.heap.size wc w8 := hgwc.trans (hb.mono hgwc.size)
          refine hK.out _ _ hkw8 ?_
          clear hK Kk
          refine wpOp_stepT rfl rfl (fun Kk hK => ?_)
          obtain ⟨c0, c1, z0, z1⟩ := hG_ w8 hgw8
          obtain ⟨d0, d1, d2, d3⟩ := two_put w8 G (.string m1) (.string m2) c0 c1 z0 z1
          go_simp
          obtain ⟨w9, hw9⟩ : ∃ w9, w9 = (w8.setCell ⟨G, 0, none⟩ (.string m1)).setCell ⟨G, 1, none⟩ (.string m2) := ⟨_, rfl⟩
          have hk9 : Below w2.heap.size w2 w9 := by rw [hw9]; exact (hkw8.setCell hGge _).setCell hGge _
          have hs9 : w2.heap.size ≤ w9.heap.size := hk9.size
          rw [← hw9] at d2 d3 ⊢
          clear hw9 c0 c1 z0 z1 d0 d1
          refine hK.out _ _ hk9 ?_
          clear hK Kk
          simp only [PlanT]
          have HK9 := Lib.hid hk9
          obtain ⟨x90, x91, x92, y90, y91, y92⟩ := HSC.out w9 hk9
          by_cases hm : m1 < m2
          · go_wp2_with fail
            go_ret
            exact ⟨rfl, HEND.out _ HK9.out⟩
          · have hsw2 := HSW.out hm
            have HSW2 := Lib.hid hsw2; clear hsw2
            go_wp2_with fail
            refine (H4.out _ _ (HP.out _ (hk9.alloc hs9 _)) ?T1).mono ?_
            case T1 =>
              have h := Whole.rd (enc := encC) (k := 3) encC_len (l := [⟨kx, ax, bx⟩, ⟨ky, ay, by_⟩]) (Whole.fresh w9 23 (flatG encC [⟨kx, ax, bx⟩, ⟨ky, ay, by_⟩]))
              rw [World.size_alloc]
              exact h
            rintro e w10 ⟨A10, c10, rfl, hr10, hb10⟩
            have hk10 : Below w2.heap.size w2 w10 := (hk9.alloc hs9 _).trans (hb10.mono (by rw [World.size_alloc]; omega))
            have hs10 : w2.heap.size ≤ w10.heap.size := hk10.size
            obtain ⟨x100, x101, x102, y100, y101, y102⟩ := HSC.out w10 hk10
            clear x90 x91 x92 y90 y91 y92 d2 d3
            have HR10 := Lib.hid hr10; clear hr10
            go_wp2_with fail
            refine (H5.out _ _ (HP.out _ (hk10.alloc hs10 _)) ?T2).mono ?_
            case T2 =>
              have h := Whole.rd (enc := encC) (k := 3) encC_len (l := [⟨ky, ay, by_⟩, ⟨kx, ax, bx⟩]) (Whole.fresh w10 23 (flatG encC [⟨ky, ay, by_⟩, ⟨kx, ax, bx⟩]))
              rw [World.size_alloc]
              exact h
            rintro e w11 ⟨A11, c11, rfl, hr11, hb11⟩
            have hb10' : Below w10.heap.size w10 w11 := ((Below.refl _ w10).alloc (Nat.le_refl _) _).trans (hb11.mono (by rw [World.size_alloc]; omega))
            have hk11 : Below w2.heap.size w2 w11 := hk10.trans (hb10'.mono hs10)
            have HR10' := Lib.hid (HR10.out.next hb10')
            have HR11 := Lib.hid hr11; clear hr11
            have HK11 := Lib.hid hk11
            clear x100 x101 x102 y100 y101 y102
            by_cases hh : h4__ = 0
            · by_cases hi : i4 = 0
              · have hpt := pairs_true P4 Q4 (HSW2.out hh hi) _ _ w11 HR10'.out HR11.out HPL.out
                have HPT := Lib.hid hpt; clear hpt
                subst hh hi
                go_wp2_with fail
                refine HPT.out.mono ?_
                rintro e w12 ⟨rfl, hb12⟩
                have HK12 := Lib.hid (HK11.out.trans (hb12.mono hk11.size)); clear hb12
                go_wp2_with fail
                go_ret
                exact ⟨rfl, HEND.out _ HK12.out⟩
              · have HI := Lib.hid hi
                subst hh
                go_wp2_with fail
                go_ret
                exact ⟨rfl, HEND.out _ HK11.out⟩
            · have HH := Lib.hid hh
              go_wp2_with fail
              go_ret
              exact ⟨rfl, HEND.out _ HK11.out⟩
      · refine wpOp_stepT rfl rfl (fun Kk hK => ?_)
        go_simp
        obtain ⟨wb, hwb⟩ : ∃ wb, wb = wa.alloc (.cells #[.string ⟨#[]⟩, .string ⟨#[]⟩] 48) := ⟨_, rfl⟩
        obtain ⟨G, hG⟩ : ∃ G, G = wa.heap.size := ⟨_, rfl⟩
        have hkwb : Below w2.heap.size w2 wb := by rw [hwb]; exact hkwa.alloc hswa _
        have hswb : w2.heap.size ≤ wb.heap.size := by rw [hwb]; simp; omega
        rw [← hwb, ← hG]
        have hc0 : wb.cell? ⟨G, 0, none⟩ = some (.string ⟨#[]⟩) := by subst hwb; subst hG; exact World.cell?_alloc_at _ _ _ _ rfl
        have hc1 : wb.cell? ⟨G, 1, none⟩ = some (.string ⟨#[]⟩) := by subst hwb; subst hG; exact World.cell?_alloc_at _ _ _ _ rfl
        have hGlt : G < wb.heap.size := by subst hwb; subst hG; simp
        have hGge : w2.heap.size ≤ G := by subst hG; exact hswa
        have hG_ : ∀ W, Below wb.heap.size wb W → W.cell? ⟨G, 0, none⟩ = some (.string ⟨#[]⟩) ∧ W.cell? ⟨G, 1, none⟩ = some (.string ⟨#[]⟩) ∧ W.frozen? ⟨G, 0, none⟩ = false ∧ W.frozen? ⟨G, 1, none⟩ = false := fun W hW => ⟨(hW.cell (p := ⟨G, 0, none⟩) hGlt).trans hc0, (hW.cell (p := ⟨G, 1, none⟩) hGlt).trans hc1, (hW.frozen (p := ⟨G, 0, none⟩) hGlt).trans (by subst hwb; subst hG; exact frozen_new _ _ _ _), (hW.frozen (p := ⟨G, 1, none⟩) hGlt).trans (by subst hwb; subst hG; exact frozen_new _ _ _ _)⟩
        have hgwb : Below wb.heap.size wb wb := Below.refl _ _
        clear hwb hG hc0 hc1
        refine hK.out _ _ hkwb ?_
        clear hK Kk
        refine wpOp_stepT rfl rfl (fun Kk hK => ?_)
        go_simp
        go_at_call 29
        refine (HSY.out _).mono ?_
        rintro e wc ⟨rfl, hb⟩
        have hkwc : Below w2.heap.size w2 wc := hkwb.trans (hb.mono hswb)
        have hswc : w2.heap.size ≤ wc.heap.size := Nat.le_trans hswb hb.size
        have hgwc : Below wb.heap.size wb wc := hgwb.trans (hb.mono hgwb.size)
        refine hK.out _ _ hkwc ?_
        clear hK Kk
        refine wpOp_stepT rfl rfl (fun Kk hK => ?_)
        go_simp
        go_at_call 28
        refine (HMT.out _).mono ?_
        rintro e w8 ⟨rfl, hb⟩
        have hkw8 : Below w2.heap.size w2 w8 := hkwc.trans (hb.mono hswc)
        have hsw8 : w2.heap.size ≤ w8.heap.size := Nat.le_trans hswc hb.size
        have hgw8 : Below wb.heap.size wb w8 := hgwc.trans (hb.mono hgwc.size)
        refine hK.out _ _ hkw8 ?_
        clear hK Kk
        refine wpOp_stepT rfl rfl (fun Kk hK => ?_)
        obtain ⟨c0, c1, z0, z1⟩ := hG_ w8 hgw8
        obtain ⟨d0, d1, d2, d3⟩ := two_put w8 G (.string m1) (.string m2) c0 c1 z0 z1
        go_simp
        obtain ⟨w9, hw9⟩ : ∃ w9, w9 = (w8.setCell ⟨G, 0, none⟩ (.string m1)).setCell ⟨G, 1, none⟩ (.string m2) := ⟨_, rfl⟩
        have hk9 : Below w2.heap.size w2 w9 := by rw [hw9]; exact (hkw8.setCell hGge _).setCell hGge _
        have hs9 : w2.heap.size ≤ w9.heap.size := hk9.size
        rw [← hw9] at d2 d3 ⊢
        clear hw9 c0 c1 z0 z1 d0 d1
        refine hK.out _ _ hk9 ?_
        clear hK Kk
        simp only [PlanT]
        have HK9 := Lib.hid hk9
        obtain ⟨x90, x91, x92, y90, y91, y92⟩ := HSC.out w9 hk9
        by_cases hm : m1 < m2
        · go_wp2_with fail
          go_ret
          exact ⟨rfl, HEND.out _ HK9.out⟩
        · have hsw2 := HSW.out hm
          have HSW2 := Lib.hid hsw2; clear hsw2
          go_wp2_with fail
          refine (H4.out _ _ (HP.out _ (hk9.alloc hs9 _)) ?T1).mono ?_
          case T1 =>
            have h := Whole.rd (enc := encC) (k := 3) encC_len (l := [⟨kx, ax, bx⟩, ⟨ky, ay, by_⟩]) (Whole.fresh w9 23 (flatG encC [⟨kx, ax, bx⟩, ⟨ky, ay, by_⟩]))
            rw [World.size_alloc]
            exact h
          rintro e w10 ⟨A10, c10, rfl, hr10, hb10⟩
          have hk10 : Below w2.heap.size w2 w10 := (hk9.alloc hs9 _).trans (hb10.mono (by rw [World.size_alloc]; omega))
          have hs10 : w2.heap.size ≤ w10.heap.size := hk10.size
          obtain ⟨x100, x101, x102, y100, y101, y102⟩ := HSC.out w10 hk10
          clear x90 x91 x92 y90 y91 y92 d2 d3
          have HR10 := Lib.hid hr10; clear hr10
          go_wp2_with fail
          refine (H5.out _ _ (HP.out _ (hk10.alloc hs10 _)) ?T2).mono ?_
          case T2 =>
            have h := Whole.rd (enc := encC) (k := 3) encC_len (l := [⟨ky, ay, by_⟩, ⟨kx, ax, bx⟩]) (Whole.fresh w10 23 (flatG encC [⟨ky, ay, by_⟩, ⟨kx, ax, bx⟩]))
            rw [World.size_alloc]
            exact h
          rintro e w11 ⟨A11, c11, rfl, hr11, hb11⟩
          have hb10' : Below w10.heap.size w10 w11 := ((Below.refl _ w10).alloc (Nat.le_refl _) _).trans (hb11.mono (by rw [World.size_alloc]; omega))
          have hk11 : Below w2.heap.size w2 w11 := hk10.trans (hb10'.mono hs10)
          have HR10' := Lib.hid (HR10.out.next hb10')
          have HR11 := Lib.hid hr11; clear hr11
          have HK11 := Lib.hid hk11
          clear x100 x101 x102 y100 y101 y102
          by_cases hh : h4__ = 0
          · by_cases hi : i4 = 0
            · have hpt := pairs_true P4 Q4 (HSW2.out hh hi) _ _ w11 HR10'.out HR11.out HPL.out
              have HPT := Lib.hid hpt; clear hpt
              subst hh hi
              go_wp2_with fail
              refine HPT.out.mono ?_
              rintro e w12 ⟨rfl, hb12⟩
              have HK12 := Lib.hid (HK11.out.trans (hb12.mono hk11.size)); clear hb12
              go_wp2_with fail
              go_ret
              exact ⟨rfl, HEND.out _ HK12.out⟩
            · have HI := Lib.hid hi
              subst hh
              go_wp2_with fail
              go_ret
              exact ⟨rfl, HEND.out _ HK11.out⟩
          · have HH := Lib.hid hh
            go_wp2_with fail
            go_ret
            exact ⟨rfl, HEND.out _ HK11.out⟩
    · refine wpOp_stepT rfl rfl (fun Kk hK => ?_)
      go_simp
      obtain ⟨wa, hwa⟩ : ∃ wa, wa = wd.alloc (.cells #[.string ⟨#[]⟩, .string ⟨#[]⟩] 48) := ⟨_, rfl⟩
      obtain ⟨G, hG⟩ : ∃ G, G = wd.heap.size := ⟨_, rfl⟩
      have hkwa : Below w2.heap.size w2 wa := by rw [hwa]; exact hkwd.alloc hswd _
      have hswa : w2.heap.size ≤ wa.heap.size := by rw [hwa]; simp; omega
      rw [← hwa, ← hG]
      have hc0 : wa.cell? ⟨G, 0, none⟩ = some (.string ⟨#[]⟩) := by subst hwa; subst hG; exact World.cell?_alloc_at _ _ _ _ rfl
      have hc1 : wa.cell? ⟨G, 1, none⟩ = some (.string ⟨#[]⟩) := by subst hwa; subst hG; exact World.cell?_alloc_at _ _ _ _ rfl
      have hGlt : G < wa.heap.size := by subst hwa; subst hG; simp
      have hGge : w2.heap.size ≤ G := by subst hG; exact hswd
      have hG_ : ∀ W, Below wa.heap.size wa W → W.cell? ⟨G, 0, none⟩ = some (.string ⟨#[]⟩) ∧ W.cell? ⟨G, 1, none⟩ = some (.string ⟨#[]⟩) ∧ W.frozen? ⟨G, 0, none⟩ = false ∧ W.frozen? ⟨G, 1, none⟩ = false := fun W hW => ⟨(hW.cell (p := ⟨G, 0, none⟩) hGlt).trans hc0, (hW.cell (p := ⟨G, 1, none⟩) hGlt).trans hc1, (hW.frozen (p := ⟨G, 0, none⟩) hGlt).trans (by subst hwa; subst hG; exact frozen_new _ _ _ _), (hW.frozen (p := ⟨G, 1, none⟩) hGlt).trans (by subst hwa; subst hG; exact frozen_new _ _ _ _)⟩
      have hgwa : Below wa.heap.size wa wa := Below.refl _ _
      clear hwa hG hc0 hc1
      refine hK.out _ _ hkwa ?_
      clear hK Kk
      refine wpOp_stepT rfl rfl (fun Kk hK => ?_)
      go_simp
      go_at_call 29
      refine (HSX.out _).mono ?_
      rintro e wb ⟨rfl, hb⟩
      have hkwb : Below w2.heap.size w2 wb := hkwa.trans (hb.mono hswa)
      have hswb : w2.heap.size ≤ wb.heap.size := Nat.le_trans hswa hb.size
      have hgwb : Below wa.heap.size wa wb := hgwa.trans (hb.mono hgwa.size)
      refine hK.out _ _ hkwb ?_
      clear hK Kk
      refine wpOp_stepT rfl rfl (fun Kk hK => ?_)
      go_simp
      go_at_call 29
      refine (HSY.out _).mono ?_
      rintro e wc ⟨rfl, hb⟩
      have hkwc : Below w2.heap.size w2 wc := hkwb.trans (hb.mono hswb)
      have hswc : w2.heap.size ≤ wc.heap.size := Nat.le_trans hswb hb.size
      have hgwc : Below wa.heap.size wa wc := hgwb.trans (hb.mono hgwb.size)
      refine hK.out _ _ hkwc ?_
      clear hK Kk
      refine wpOp_stepT rfl rfl (fun Kk hK => ?_)
      go_simp
      go_at_call 28
      refine (HMT.out _).mono ?_
      rintro e w8 ⟨rfl, hb⟩
      have hkw8 : Below w2.heap.size w2 w8 := hkwc.trans (hb.mono hswc)
      have hsw8 : w2.heap.size ≤ w8.heap.size := Nat.le_trans hswc hb.size
      have hgw8 : Below wa.heap.size wa w8 := hgwc.trans (hb.mono hgwc.size)
      refine hK.out _ _ hkw8 ?_
      clear hK Kk
      refine wpOp_stepT rfl rfl (fun Kk hK => ?_)
      obtain ⟨c0, c1, z0, z1⟩ := hG_ w8 hgw8
      obtain ⟨d0, d1, d2, d3⟩ := two_put w8 G (.string m1) (.string m2) c0 c1 z0 z1
      go_simp
      obtain ⟨w9, hw9⟩ : ∃ w9, w9 = (w8.setCell ⟨G, 0, none⟩ (.string m1)).setCell ⟨G, 1, none⟩ (.string m2) := ⟨_, rfl⟩
      have hk9 : Below w2.heap.size w2 w9 := by rw [hw9]; exact (hkw8.setCell hGge _).setCell hGge _
      have hs9 : w2.heap.size ≤ w9.heap.size := hk9.size
      rw [← hw9] at d2 d3 ⊢
      clear hw9 c0 c1 z0 z1 d0 d1
      refine hK.out _ _ hk9 ?_
      clear hK Kk
      simp only [PlanT]
      have HK9 := Lib.hid hk9
      obtain ⟨x90, x91, x92, y90, y91, y92⟩ := HSC.out w9 hk9
      by_cases hm : m1 < m2
      · go_wp2_with fail
        go_ret
        exact ⟨rfl, HEND.out _ HK9.out⟩
      · have hsw2 := HSW.out hm
        have HSW2 := Lib.hid hsw2; clear hsw2
        go_wp2_with fail
        refine (H4.out _ _ (HP.out _ (hk9.alloc hs9 _)) ?T1).mono ?_
        case T1 =>
          have h := Whole.rd (enc := encC) (k := 3) encC_len (l := [⟨kx, ax, bx⟩, ⟨ky, ay, by_⟩]) (Whole.fresh w9 23 (flatG encC [⟨kx, ax, bx⟩, ⟨ky, ay, by_⟩]))
          rw [World.size_alloc]
          exact h
        rintro e w10 ⟨A10, c10, rfl, hr10, hb10⟩
        have hk10 : Below w2.heap.size w2 w10 := (hk9.alloc hs9 _).trans (hb10.mono (by rw [World.size_alloc]; omega))
        have hs10 : w2.heap.size ≤ w10.heap.size := hk10.size
        obtain ⟨x100, x101, x102, y100, y101, y102⟩ := HSC.out w10 hk10
        clear x90 x91 x92 y90 y91 y92 d2 d3
        have HR10 := Lib.hid hr10; clear hr10
        go_wp2_with fail
        refine (H5.out _ _ (HP.out _ (hk10.alloc hs10 _)) ?T2).mono ?_
        case T2 =>
          have h := Whole.rd (enc := encC) (k := 3) encC_len (l := [⟨ky, ay, by_⟩, ⟨kx, ax, bx⟩]) (Whole.fresh w10 23 (flatG encC [⟨ky, ay, by_⟩, ⟨kx, ax, bx⟩]))
          rw [World.size_alloc]
          exact h
        rintro e w11 ⟨A11, c11, rfl, hr11, hb11⟩
        have hb10' : Below w10.heap.size w10 w11 := ((Below.refl _ w10).alloc (Nat.le_refl _) _).trans (hb11.mono (by rw [World.size_alloc]; omega))
        have hk11 : Below w2.heap.size w2 w11 := hk10.trans (hb10'.mono hs10)
        have HR10' := Lib.hid (HR10.out.next hb10')
        have HR11 := Lib.hid hr11; clear hr11
        have HK11 := Lib.hid hk11
        clear x100 x101 x102 y100 y101 y102
        by_cases hh : h4__ = 0
        · by_cases hi : i4 = 0
          · have hpt := pairs_true P4 Q4 (HSW2.out hh hi) _ _ w11 HR10'.out HR11.out HPL.out
            have HPT := Lib.hid hpt; clear hpt
            subst hh hi
            go_wp2_with fail
            refine HPT.out.mono ?_
            rintro e w12 ⟨rfl, hb12⟩
            have HK12 := Lib.hid (HK11.out.trans (hb12.mono hk11.size)); clear hb12
            go_wp2_with fail
            go_ret
            exact ⟨rfl, HEND.out _ HK12.out⟩
          · have HI := Lib.hid hi
            subst hh
            go_wp2_with fail
            go_ret
            exact ⟨rfl, HEND.out _ HK11.out⟩
        · have HH := Lib.hid hh
          go_wp2_with fail
          go_ret
          exact ⟨rfl, HEND.out _ HK11.out⟩
  · have H0 := Lib.hid h0
    clear HX8 HZ8 HGOOD
    go_wp2_with fail
    refine wp_region_planT (fun W => Below w2.heap.size w2 W) (.take 0 (.take 2 (.fork 1 (.fork 3 (.fork 4 (.step 5 (.step 6 .done)) 5 (.step 4 (.step 6 .done))) 5 (.step 3 (.step 4 (.step 6 .done)))) 5 (.step 1 (.step 3 (.step 4 (.step 6 .done))))))) (by kernel_rfl) (by kernel_rfl) (fun _ _ d _ _ h => by cases d <;> exact h) (hk8.drew) ?_
    have hkwd : Below w2.heap.size w2 w8.drew := hk8.drew
    have hswd : w2.heap.size ≤ w8.drew.heap.size := hkwd.size
    generalize w8.drew = wd at hkwd hswd ⊢
    refine PlanT.takeI (v := ?_) rfl rfl ?_ ?_; rotate_left; (focus (intro W hW; obtain ⟨q0, q1, q2, q3, q4, q5⟩ := HSC.out W hW; go_simp; (try with_reducible rfl); done)); (try simp only [Act.put, List.setIfInBounds_toArray, List.set_cons_zero, List.set_cons_succ])
    refine PlanT.takeI (v := ?_) rfl rfl ?_ ?_; rotate_left; (focus (intro W hW; obtain ⟨q0, q1, q2, q3, q4, q5⟩ := HSC.out W hW; go_simp; (try with_reducible rfl); done)); (try simp only [Act.put, List.setIfInBounds_toArray, List.set_cons_zero, List.set_cons_succ])
    refine ⟨?_, ?_⟩
    · refine wpOp_stepT rfl rfl (fun Kk hK => ?_)
      go_simp
      go_at_call 29
      refine (HSX.out _).mono ?_
      rintro e wa ⟨rfl, hb⟩
      have hkwa : Below w2.heap.size w2 wa := hkwd.trans (hb.mono hswd)
      have hswa : w2.heap.size ≤ wa.heap.size := Nat.le_trans hswd hb.size
      refine hK.out _ _ hkwa ?_
      clear hK Kk
      refine ⟨?_, ?_⟩
      · refine wpOp_stepT rfl rfl (fun Kk hK => ?_)
        go_simp
        go_at_call 29
        refine (HSY.out _).mono ?_
        rintro e wb ⟨rfl, hb⟩
        have hkwb : Below w2.heap.size w2 wb := hkwa.trans (hb.mono hswa)
        have hswb : w2.heap.size ≤ wb.heap.size := Nat.le_trans hswa hb.size
        refine hK.out _ _ hkwb ?_
        clear hK Kk
        refine ⟨?_, ?_⟩
        · refine wpOp_stepT rfl rfl (fun Kk hK => ?_)
          go_simp
          go_at_call 28
          refine (HMT.out _).mono ?_
          rintro e wc ⟨rfl, hb⟩
          have hkwc : Below w2.heap.size w2 wc := hkwb.trans (hb.mono hswb)
          have hswc : w2.heap.size ≤ wc.heap.size := Nat.le_trans hswb hb.size
          refine hK.out _ _ hkwc ?_
          clear hK Kk
          refine wpOp_stepT rfl rfl (fun Kk hK => ?_)
          go_simp
          obtain ⟨w8, hw8⟩ : ∃ w8, w8 = wc.alloc (.cells #[.string ⟨#[]⟩, .string ⟨#[]⟩] 48) := ⟨_, rfl⟩
          obtain ⟨G, hG⟩ : ∃ G, G = wc.heap.size := ⟨_, rfl⟩
          have hkw8 : Below w2.heap.size w2 w8 := by rw [hw8]; exact hkwc.alloc hswc _
          have hsw8 : w2.heap.size ≤ w8.heap.size := by rw [hw8]; simp; omega
          rw [← hw8, ← hG]
          have hc0 : w8.cell? ⟨G, 0, none⟩ = some (.string ⟨#[]⟩) := by subst hw8; subst hG; exact World.cell?_alloc_at _ _ _ _ rfl
          have hc1 : w8.cell? ⟨G, 1, none⟩ = some (.string ⟨#[]⟩) := by subst hw8; subst hG; exact World.cell?_alloc_at _ _ _ _ rfl
          have hGlt : G < w8.heap.size := by subst hw8; subst hG; simp
          have hGge : w2.heap.size ≤ G := by subst hG; exact hswc
          have hG_ : ∀ W, Below w8.heap.size w8 W → W.cell? ⟨G, 0, none⟩ = some (.string ⟨#[]⟩) ∧ W.cell? ⟨G, 1, none⟩ = some (.string ⟨#[]⟩) ∧ W.frozen? ⟨G, 0, none⟩ = false ∧ W.frozen? ⟨G, 1, none⟩ = false := fun W hW => ⟨(hW.cell (p := ⟨G, 0, none⟩) hGlt).trans hc0, (hW.cell (p := ⟨G, 1, none⟩) hGlt).trans hc1, (hW.frozen (p := ⟨G, 0, none⟩) hGlt).trans (by subst hw8; subst hG; exact frozen_new _ _ _ _), (hW.frozen (p := ⟨G, 1, none⟩) hGlt).trans (by subst hw8; subst hG; exact frozen_new _ _ _ _)⟩
          have hgw8 : Below w8.heap.size w8 w8 := Below.refl _ _
          clear hw8 hG hc0 hc1
          refine hK.out _ _ hkw8 ?_
          clear hK Kk
          refine wpOp_stepT rfl rfl (fun Kk hK => ?_)
          obtain ⟨c0, c1, z0, z1⟩ := hG_ w8 hgw8
          obtain ⟨d0, d1, d2, d3⟩ := two_put w8 G (.string m1) (.string m2) c0 c1 z0 z1
          go_simp
          obtain ⟨w9, hw9⟩ : ∃ w9, w9 = (w8.setCell ⟨G, 0, none⟩ (.string m1)).setCell ⟨G, 1, none⟩ (.string m2) := ⟨_, rfl⟩
          have hk9 : Below w2.heap.size w2 w9 := by rw [hw9]; exact (hkw8.setCell hGge _).setCell hGge _
          have hs9 : w2.heap.size ≤ w9.heap.size := hk9.size
          rw [← hw9] at d2 d3 ⊢
          clear hw9 c0 c1 z0 z1 d0 d1
          refine hK.out _ _ hk9 ?_
          clear hK Kk
          simp only [PlanT]
          have HK9 := Lib.hid hk9
          obtain ⟨x90, x91, x92, y90, y91, y92⟩ := HSC.out w9 hk9
          by_cases hm : m1 < m2
          · go_wp2_with fail
            go_ret
            exact ⟨rfl, HEND.out _ HK9.out⟩
          · have hsw2 := HSW.out hm
            have HSW2 := Lib.hid hsw2; clear hsw2
            go_wp2_with fail
            refine (H4.out _ _ (HP.out _ (hk9.alloc hs9 _)) ?T1).mono ?_
            case T1 =>
              have h := Whole.rd (enc := encC) (k := 3) encC_len (l := [⟨kx, ax, bx⟩, ⟨ky, ay, by_⟩]) (Whole.fresh w9 23 (flatG encC [⟨kx, ax, bx⟩, ⟨ky, ay, by_⟩]))
              rw [World.size_alloc]
              exact h
            rintro e w10 ⟨A10, c10, rfl, hr10, hb10⟩
            have hk10 : Below w2.heap.size w2 w10 := (hk9.alloc hs9 _).trans (hb10.mono (by rw [World.size_alloc]; omega))
            have hs10 : w2.heap.size ≤ w10.heap.size := hk10.size
            obtain ⟨x100, x101, x102, y100, y101, y102⟩ := HSC.out w10 hk10
            clear x90 x91 x92 y90 y91 y92 d2 d3
            have HR10 := Lib.hid hr10; clear hr10
            go_wp2_with fail
            refine (H5.out _ _ (HP.out _ (hk10.alloc hs10 _)) ?T2).mono ?_
            case T2 =>
              have h := Whole.rd (enc := encC) (k := 3) encC_len (l := [⟨ky, ay, by_⟩, ⟨kx, ax, bx⟩]) (Whole.fresh w10 23 (flatG encC [⟨ky, ay, by_⟩, ⟨kx, ax, bx⟩]))
              rw [World.size_alloc]
              exact h
            rintro e w11 ⟨A11, c11, rfl, hr11, hb11⟩
            have hb10' : Below w10.heap.size w10 w11 := ((Below.refl _ w10).alloc (Nat.le_refl _) _).trans (hb11.mono (by rw [World.size_alloc]; omega))
            have hk11 : Below w2.heap.size w2 w11 := hk10.trans (hb10'.mono hs10)
            have HR10' := Lib.hid (HR10.out.next hb10')
            have HR11 := Lib.hid hr11; clear hr11
            have HK11 := Lib.hid hk11
            clear x100 x101 x102 y100 y101 y102
            by_cases hh : h4__ = 0
            · by_cases hi : i4 = 0
              · have hpt := pairs_true P4 Q4 (HSW2.out hh hi) _ _ w11 HR10'.out HR11.out HPL.out
                have HPT := Lib.hid hpt; clear hpt
                subst hh hi
                go_wp2_with fail
                refine HPT.out.mono ?_
                rintro e w12 ⟨rfl, hb12⟩
                have HK12 := Lib.hid (HK11.out.trans (hb12.mono hk11.size)); clear hb12
                go_wp2_with fail
                go_ret
                exact ⟨rfl, HEND.out _ HK12.out⟩
              · have HI := Lib.hid hi
                subst hh
                go_wp2_with fail
                go_ret
                exact ⟨rfl, HEND.out _ HK11.out⟩
            · have HH := Lib.hid hh
              go_wp2_with fail
              go_ret
              exact ⟨rfl, HEND.out _ HK11.out⟩
        · refine wpOp_stepT rfl rfl (fun Kk hK => ?_)
          go_simp
          obtain ⟨wc, hwc⟩ : ∃ wc, wc = wb.alloc (.cells #[.string ⟨#[]⟩, .string ⟨#[]⟩] 48) := ⟨_, rfl⟩
          obtain ⟨G, hG⟩ : ∃ G, G = wb.heap.size := ⟨_, rfl⟩
          have hkwc : Below w2.heap.size w2 wc := by rw [hwc]; exact hkwb.alloc hswb _
          have hswc : w2.heap.size ≤ wc.heap.size := by rw [hwc]; simp; omega
          rw [← hwc, ← hG]
          have hc0 : wc.cell? ⟨G, 0, none⟩ = some (.string ⟨#[]⟩) := by subst hwc; subst hG; exact World.cell?_alloc_at _ _ _ _ rfl
          have hc1 : wc.cell? ⟨G, 1, none⟩ = some (.string ⟨#[]⟩) := by subst hwc; subst hG; exact World.cell?_alloc_at _ _ _ _ rfl
          have hGlt : G < wc.heap.size := by subst hwc; subst hG; simp
          have hGge : w2.heap.size ≤ G := by subst hG; exact hswb
          have hG_ : ∀ W, Below wc.heap.size wc W → W.cell? ⟨G, 0, none⟩ = some (.string ⟨#[]⟩) ∧ W.cell? ⟨G, 1, none⟩ = some (.string ⟨#[]⟩) ∧ W.frozen? ⟨G, 0, none⟩ = false ∧ W.frozen? ⟨G, 1, none⟩ = false := fun W hW => ⟨(hW.cell (p := ⟨G, 0, none⟩) hGlt).trans hc0, (hW.cell (p := ⟨G, 1, none⟩) hGlt).trans hc1, (hW.frozen (p := ⟨G, 0, none⟩) hGlt).trans (by subst hwc; subst hG; exact frozen_new _ _ _ _), (hW.frozen (p := ⟨G, 1, none⟩) hGlt).trans (by subst hwc; subst hG; exact frozen_new _ _ _ _)⟩
          have hgwc : Below wc.heap.size wc wc := Below.refl _ _
          clear hwc hG hc0 hc1
          refine hK.out _ _ hkwc ?_
          clear hK Kk
          refine wpOp_stepT rfl rfl (fun Kk hK => ?_)
          go_simp
          go_at_call 28
          refine (HMT.out _).mono ?_
          rintro e w8 ⟨rfl, hb⟩
          have hkw8 : Below w2.heap.size w2 w8 := hkwc.trans (hb.mono hswc)
          have hsw8 : w2.heap.size ≤ w8.heap.size := Nat.le_trans hswc hb.size
          have hgw8 : Below wc.heap.size wc w8 := hgwc.trans (hb.mono hgwc.size)
          refine hK.out _ _ hkw8 ?_
          clear hK Kk
          refine wpOp_stepT rfl rfl (fun Kk hK => ?_)
          obtain ⟨c0, c1, z0, z1⟩ := hG_ w8 hgw8
          obtain ⟨d0, d1, d2, d3⟩ := two_put w8 G (.string m1) (.string m2) c0 c1 z0 z1
          go_simp
          obtain ⟨w9, hw9⟩ : ∃ w9, w9 = (w8.setCell ⟨G, 0, none⟩ (.string m1)).setCell ⟨G, 1, none⟩ (.string m2) := ⟨_, rfl⟩
          have hk9 : Below w2.heap.size w2 w9 := by rw [hw9]; exact (hkw8.setCell hGge _).setCell hGge _
          have hs9 : w2.heap.size ≤ w9.heap.size := hk9.size
          rw [← hw9] at d2 d3 ⊢
          clear hw9 c0 c1 z0 z1 d0 d1
          refine hK.out _ _ hk9 ?_
          clear hK Kk
          simp only [PlanT]
          have HK9 := Lib.hid hk9
          obtain ⟨x90, x91, x92, y90, y91, y92⟩ := HSC.out w9 hk9
          by_cases hm : m1 < m2
          · go_wp2_with fail
            go_ret
            exact ⟨rfl, HEND.out _ HK9.out⟩
          · have hsw2 := HSW.out hm
            have HSW2 := Lib.hid hsw2; clear hsw2
            go_wp2_with fail
            refine (H4.out _ _ (HP.out _ (hk9.alloc hs9 _)) ?T1).mono ?_
            case T1 =>
              have h := Whole.rd (enc := encC) (k := 3) encC_len (l := [⟨kx, ax, bx⟩, ⟨ky, ay, by_⟩]) (Whole.fresh w9 23 (flatG encC [⟨kx, ax, bx⟩, ⟨ky, ay, by_⟩]))
              rw [World.size_alloc]
              exact h
            rintro e w10 ⟨A10, c10, rfl, hr10, hb10⟩
            have hk10 : Below w2.heap.size w2 w10 := (hk9.alloc hs9 _).trans (hb10.mono (by rw [World.size_alloc]; omega))
            have hs10 : w2.heap.size ≤ w10.heap.size := hk10.size
            obtain ⟨x100, x101, x102, y100, y101, y102⟩ := HSC.out w10 hk10
            clear x90 x91 x92 y90 y91 y92 d2 d3
            have HR10 := Lib.hid hr10; clear hr10
            go_wp2_with fail
            refine (H5.out _ _ (HP.out _ (hk10.alloc hs10 _)) ?T2).mono ?_
            case T2 =>
              have h := Whole.rd (enc := encC) (k := 3) encC_len (l := [⟨ky, ay, by_⟩, ⟨kx, ax, bx⟩]) (Whole.fresh w10 23 (flatG encC [⟨ky, ay, by_⟩, ⟨kx, ax, bx⟩]))
              rw [World.size_alloc]
              exact h
            rintro e w11 ⟨A11, c11, rfl, hr11, hb11⟩
            have hb10' : Below w10.heap.size w10 w11 := ((Below.refl _ w10).alloc (Nat.le_refl _) _).trans (hb11.mono (by rw [World.size_alloc]; omega))
            have hk11 : Below w2.heap.size w2 w11 := hk10.trans (hb10'.mono hs10)
            have HR10' := Lib.hid (HR10.out.next hb10')
            have HR11 := Lib.hid hr11; clear hr11
            have HK11 := Lib.hid hk11
            clear x100 x101 x102 y100 y101 y102
            by_cases hh : h4__ = 0
            · by_cases hi : i4 = 0
              · have hpt := pairs_true P4 Q4 (HSW2.out hh hi) _ _ w11 HR10'.out HR11.out HPL.out
                have HPT := Lib.hid hpt; clear hpt
                subst hh hi
                go_wp2_with fail
                refine HPT.out.mono ?_
                rintro e w12 ⟨rfl, hb12⟩
                have HK12 := Lib.hid (HK11.out.trans (hb12.mono hk11.size)); clear hb12
                go_wp2_with fail
                go_ret
                exact ⟨rfl, HEND.out _ HK12.out⟩
              · have HI := Lib.hid hi
                subst hh
                go_wp2_with fail
                go_ret
                exact ⟨rfl, HEND.out _ HK11.out⟩
            · have HH := Lib.hid hh
              go_wp2_with fail
              go_ret
              exact ⟨rfl, HEND.out _ HK11.out⟩
      · refine wpOp_stepT rfl rfl (fun Kk hK => ?_)
        go_simp
        obtain ⟨wb, hwb⟩ : ∃ wb, wb = wa.alloc (.cells #[.string ⟨#[]⟩, .string ⟨#[]⟩] 48) := ⟨_, rfl⟩
        obtain ⟨G, hG⟩ : ∃ G, G = wa.heap.size := ⟨_, rfl⟩
        have hkwb : Below w2.heap.size w2 wb := by rw [hwb]; exact hkwa.alloc hswa _
        have hswb : w2.heap.size ≤ wb.heap.size := by rw [hwb]; simp; omega
        rw [← hwb, ← hG]
        have hc0 : wb.cell? ⟨G, 0, none⟩ = some (.string ⟨#[]⟩) := by subst hwb; subst hG; exact World.cell?_alloc_at _ _ _ _ rfl
        have hc1 : wb.cell? ⟨G, 1, none⟩ = some (.string ⟨#[]⟩) := by subst hwb; subst hG; exact World.cell?_alloc_at _ _ _ _ rfl
        have hGlt : G < wb.heap.size := by subst hwb; subst hG; simp
        have hGge : w2.heap.size ≤ G := by subst hG; exact hswa
        have hG_ : ∀ W, Below wb.heap.size wb W → W.cell? ⟨G, 0, none⟩ = some (.string ⟨#[]⟩) ∧ W.cell? ⟨G, 1, none⟩ = some (.string ⟨#[]⟩) ∧ W.frozen? ⟨G, 0, none⟩ = false ∧ W.frozen? ⟨G, 1, none⟩ = false := fun W hW => ⟨(hW.cell (p := ⟨G, 0, none⟩) hGlt).trans hc0, (hW.cell (p := ⟨G, 1, none⟩) hGlt).trans hc1, (hW.frozen (p := ⟨G, 0, none⟩) hGlt).trans (by subst hwb; subst hG; exact frozen_new _ _ _ _), (hW.frozen (p := ⟨G, 1, none⟩) hGlt).trans (by subst hwb; subst hG; exact frozen_new _ _ _ _)⟩
        have hgwb : Below wb.heap.size wb wb := Below.refl _ _
        clear hwb hG hc0 hc1
        refine hK.out _ _ hkwb ?_
        clear hK Kk
        refine wpOp_stepT rfl rfl (fun Kk hK => ?_)
        go_simp
        go_at_call 29
        refine (HSY.out _).mono ?_
        rintro e wc ⟨rfl, hb⟩
        have hkwc : Below w2.heap.size w2 wc := hkwb.trans (hb.mono hswb)
        have hswc : w2.heap.size ≤ wc.heap.size := Nat.le_trans hswb hb.size
        have hgwc : Below wb.heap.size wb wc := hgwb.trans (hb.mono hgwb.size)
        refine hK.out _ _ hkwc ?_
        clear hK Kk
        refine wpOp_stepT rfl rfl (fun Kk hK => ?_)
        go_simp
        go_at_call 28
        refine (HMT.out _).mono ?_
        rintro e w8 ⟨rfl, hb⟩
        have hkw8 : Below w2.heap.size w2 w8 := hkwc.trans (hb.mono hswc)
        have hsw8 : w2.heap.size ≤ w8.heap.size := Nat.le_trans hswc hb.size
        have hgw8 : Below wb.heap.size wb w8 := hgwc.trans (hb.mono hgwc.size)
        refine hK.out _ _ hkw8 ?_
        clear hK Kk
        refine wpOp_stepT rfl rfl (fun Kk hK => ?_)
        obtain ⟨c0, c1, z0, z1⟩ := hG_ w8 hgw8
        obtain ⟨d0, d1, d2, d3⟩ := two_put w8 G (.string m1) (.string m2) c0 c1 z0 z1
        go_simp
        obtain ⟨w9, hw9⟩ : ∃ w9, w9 = (w8.setCell ⟨G, 0, none⟩ (.string m1)).setCell ⟨G, 1, none⟩ (.string m2) := ⟨_, rfl⟩
        have hk9 : Below w2.heap.size w2 w9 := by rw [hw9]; exact (hkw8.setCell hGge _).setCell hGge _
        have hs9 : w2.heap.size ≤ w9.heap.size := hk9.size
        rw [← hw9] at d2 d3 ⊢
        clear hw9 c0 c1 z0 z1 d0 d1
        refine hK.out _ _ hk9 ?_
        clear hK Kk
        simp only [PlanT]
        have HK9 := Lib.hid hk9
        obtain ⟨x90, x91, x92, y90, y91, y92⟩ := HSC.out w9 hk9
        by_cases hm : m1 < m2
        · go_wp2_with fail
          go_ret
          exact ⟨rfl, HEND.out _ HK9.out⟩
        · have hsw2 := HSW.out hm
          have HSW2 := Lib.hid hsw2; clear hsw2
          go_wp2_with fail
          refine (H4.out _ _ (HP.out _ (hk9.alloc hs9 _)) ?T1).mono ?_
          case T1 =>
            have h := Whole.rd (enc := encC) (k := 3) encC_len (l := [⟨kx, ax, bx⟩, ⟨ky, ay, by_⟩]) (Whole.fresh w9 23 (flatG encC [⟨kx, ax, bx⟩, ⟨ky, ay, by_⟩]))
            rw [World.size_alloc]
            exact h
          rintro e w10 ⟨A10, c10, rfl, hr10, hb10⟩
          have hk10 : Below w2.heap.size w2 w10 := (hk9.alloc hs9 _).trans (hb10.mono (by rw [World.size_alloc]; omega))
          have hs10 : w2.heap.size ≤ w10.heap.size := hk10.size
          obtain ⟨x100, x101, x102, y100, y101, y102⟩ := HSC.out w10 hk10
          clear x90 x91 x92 y90 y91 y92 d2 d3
          have HR10 := Lib.hid hr10; clear hr10
          go_wp2_with fail
          refine (H5.out _ _ (HP.out _ (hk10.alloc hs10 _)) ?T2).mono ?_
          case T2 =>
            have h := Whole.rd (enc := encC) (k := 3) encC_len (l := [⟨ky, ay, by_⟩, ⟨kx, ax, bx⟩]) (Whole.fresh w10 23 (flatG encC [⟨ky, ay, by_⟩, ⟨kx, ax, bx⟩]))
            rw [World.size_alloc]
            exact h
          rintro e w11 ⟨A11, c11, rfl, hr11, hb11⟩
          have hb10' : Below w10.heap.size w10 w11 := ((Below.refl _ w10).alloc (Nat.le_refl _) _).trans (hb11.mono (by rw [World.size_alloc]; omega))
          have hk11 : Below w2.heap.size w2 w11 := hk10.trans (hb10'.mono hs10)
          have HR10' := Lib.hid (HR10.out.next hb10')
          have HR11 := Lib.hid hr11; clear hr11
          have HK11 := Lib.hid hk11
          clear x100 x101 x102 y100 y101 y102
          by_cases hh : h4__ = 0
          · by_cases hi : i4 = 0
            · have hpt := pairs_true P4 Q4 (HSW2.out hh hi) _ _ w11 HR10'.out HR11.out HPL.out
              have HPT := Lib.hid hpt; clear hpt
              subst hh hi
              go_wp2_with fail
              refine HPT.out.mono ?_
              rintro e w12 ⟨rfl, hb12⟩
              have HK12 := Lib.hid (HK11.out.trans (hb12.mono hk11.size)); clear hb12
              go_wp2_with fail
              go_ret
              exact ⟨rfl, HEND.out _ HK12.out⟩
            · have HI := Lib.hid hi
              subst hh
              go_wp2_with fail
              go_ret
              exact ⟨rfl, HEND.out _ HK11.out⟩
          · have HH := Lib.hid hh
            go_wp2_with fail
            go_ret
            exact ⟨rfl, HEND.out _ HK11.out⟩
    · refine wpOp_stepT rfl rfl (fun Kk hK => ?_)
      go_simp
      obtain ⟨wa, hwa⟩ : ∃ wa, wa = wd.alloc (.cells #[.string ⟨#[]⟩, .string ⟨#[]⟩] 48) := ⟨_, rfl⟩
      obtain ⟨G, hG⟩ : ∃ G, G = wd.heap.size := ⟨_, rfl⟩
      have hkwa : Below w2.heap.size w2 wa := by rw [hwa]; exact hkwd.alloc hswd _
      have hswa : w2.heap.size ≤ wa.heap.size := by rw [hwa]; simp; omega
      rw [← hwa, ← hG]
      have hc0 : wa.cell? ⟨G, 0, none⟩ = some (.string ⟨#[]⟩) := by subst hwa; subst hG; exact World.cell?_alloc_at _ _ _ _ rfl
      have hc1 : wa.cell? ⟨G, 1, none⟩ = some (.string ⟨#[]⟩) := by subst hwa; subst hG; exact World.cell?_alloc_at _ _ _ _ rfl
      have hGlt : G < wa.heap.size := by subst hwa; subst hG; simp
      have hGge : w2.heap.size ≤ G := by subst hG; exact hswd
      have hG_ : ∀ W, Below wa.heap.size wa W → W.cell? ⟨G, 0, none⟩ = some (.string ⟨#[]⟩) ∧ W.cell? ⟨G, 1, none⟩ = some (.string ⟨#[]⟩) ∧ W.frozen? ⟨G, 0, none⟩ = false ∧ W.frozen? ⟨G, 1, none⟩ = false := fun W hW => ⟨(hW.cell (p := ⟨G, 0, none⟩) hGlt).trans hc0, (hW.cell (p := ⟨G, 1, none⟩) hGlt).trans hc1, (hW.frozen (p := ⟨G, 0, none⟩) hGlt).trans (by subst hwa; subst hG; exact frozen_new _ _ _ _), (hW.frozen (p := ⟨G, 1, none⟩) hGlt).trans (by subst hwa; subst hG; exact frozen_new _ _ _ _)⟩
      have hgwa : Below wa.heap.size wa wa := Below.refl _ _
      clear hwa hG hc0 hc1
      refine hK.out _ _ hkwa ?_
      clear hK Kk
      refine wpOp_stepT rfl rfl (fun Kk hK => ?_)
      go_simp
      go_at_call 29
      refine (HSX.out _).mono ?_
      rintro e wb ⟨rfl, hb⟩
      have hkwb : Below w2.heap.size w2 wb := hkwa.trans (hb.mono hswa)
      have hswb : w2.heap.size ≤ wb.heap.size := Nat.le_trans hswa hb.size
      have hgwb : Below wa.heap.size wa wb := hgwa.trans (hb.mono hgwa.size)
      refine hK.out _ _ hkwb ?_
      clear hK Kk
      refine wpOp_stepT rfl rfl (fun Kk hK => ?_)
      go_simp
      go_at_call 29
      refine (HSY.out _).mono ?_
      rintro e wc ⟨rfl, hb⟩
      have hkwc : Below w2.heap.size w2 wc := hkwb.trans (hb.mono hswb)
      have hswc : w2.heap.size ≤ wc.heap.size := Nat.le_trans hswb hb.size
      have hgwc : Below wa.heap.size wa wc := hgwb.trans (hb.mono hgwb.size)
      refine hK.out _ _ hkwc ?_
      clear hK Kk
      refine wpOp_stepT rfl rfl (fun Kk hK => ?_)
      go_simp
      go_at_call 28
      refine (HMT.out _).mono ?_
      rintro e w8 ⟨rfl, hb⟩
      have hkw8 : Below w2.heap.size w2 w8 := hkwc.trans (hb.mono hswc)
      have hsw8 : w2.heap.size ≤ w8.heap.size := Nat.le_trans hswc hb.size
      have hgw8 : Below wa.heap.size wa w8 := hgwc.trans (hb.mono hgwc.size)
      refine hK.out _ _ hkw8 ?_
      clear hK Kk
      refine wpOp_stepT rfl rfl (fun Kk hK => ?_)
      obtain ⟨c0, c1, z0, z1⟩ := hG_ w8 hgw8
      obtain ⟨d0, d1, d2, d3⟩ := two_put w8 G (.string m1) (.string m2) c0 c1 z0 z1
      go_simp
      obtain ⟨w9, hw9⟩ : ∃ w9, w9 = (w8.setCell ⟨G, 0, none⟩ (.string m1)).setCell ⟨G, 1, none⟩ (.string m2) := ⟨_, rfl⟩
      have hk9 : Below w2.heap.size w2 w9 := by rw [hw9]; exact (hkw8.setCell hGge _).setCell hGge _
      have hs9 : w2.heap.size ≤ w9.heap.size := hk9.size
      rw [← hw9] at d2 d3 ⊢
      clear hw9 c0 c1 z0 z1 d0 d1
      refine hK.out _ _ hk9 ?_
      clear hK Kk
      simp only [PlanT]
      have HK9 := Lib.hid hk9
      obtain ⟨x90, x91, x92, y90, y91, y92⟩ := HSC.out w9 hk9
      by_cases hm : m1 < m2
      · go_wp2_with fail
        go_ret
        exact ⟨rfl, HEND.out _ HK9.out⟩
      · have hsw2 := HSW.out hm
        have HSW2 := Lib.hid hsw2; clear hsw2
        go_wp2_with fail
        refine (H4.out _ _ (HP.out _ (hk9.alloc hs9 _)) ?T1).mono ?_
        case T1 =>
          have h := Whole.rd (enc := encC) (k := 3) encC_len (l := [⟨kx, ax, bx⟩, ⟨ky, ay, by_⟩]) (Whole.fresh w9 23 (flatG encC [⟨kx, ax, bx⟩, ⟨ky, ay, by_⟩]))
          rw [World.size_alloc]
          exact h
        rintro e w10 ⟨A10, c10, rfl, hr10, hb10⟩
        have hk10 : Below w2.heap.size w2 w10 := (hk9.alloc hs9 _).trans (hb10.mono (by rw [World.size_alloc]; omega))
        have hs10 : w2.heap.size ≤ w10.heap.size := hk10.size
        obtain ⟨x100, x101, x102, y100, y101, y102⟩ := HSC.out w10 hk10
        clear x90 x91 x92 y90 y91 y92 d2 d3
        have HR10 := Lib.hid hr10; clear hr10
        go_wp2_with fail
        refine (H5.out _ _ (HP.out _ (hk10.alloc hs10 _)) ?T2).mono ?_
        case T2 =>
          have h := Whole.rd (enc := encC) (k := 3) encC_len (l := [⟨ky, ay, by_⟩, ⟨kx, ax, bx⟩]) (Whole.fresh w10 23 (flatG encC [⟨ky, ay, by_⟩, ⟨kx, ax, bx⟩]))
          rw [World.size_alloc]
          exact h
        rintro e w11 ⟨A11, c11, rfl, hr11, hb11⟩
        have hb10' : Below w10.heap.size w10 w11 := ((Below.refl _ w10).alloc (Nat.le_refl _) _).trans (hb11.mono (by rw [World.size_alloc]; omega))
        have hk11 : Below w2.heap.size w2 w11 := hk10.trans (hb10'.mono hs10)
        have HR10' := Lib.hid (HR10.out.next hb10')
        have HR11 := Lib.hid hr11; clear hr11
        have HK11 := Lib.hid hk11
        clear x100 x101 x102 y100 y101 y102
        by_cases hh : h4__ = 0
        · by_cases hi : i4 = 0
          · have hpt := pairs_true P4 Q4 (HSW2.out hh hi) _ _ w11 HR10'.out HR11.out HPL.out
            have HPT := Lib.hid hpt; clear hpt
            subst hh hi
            go_wp2_with fail
            refine HPT.out.mono ?_
            rintro e w12 ⟨rfl, hb12⟩
            have HK12 := Lib.hid (HK11.out.trans (hb12.mono hk11.size)); clear hb12
            go_wp2_with fail
            go_ret
            exact ⟨rfl, HEND.out _ HK12.out⟩
          · have HI := Lib.hid hi
            subst hh
            go_wp2_with fail
            go_ret
            exact ⟨rfl, HEND.out _ HK11.out⟩
        · have HH := Lib.hid hh
          go_wp2_with fail
          go_ret
          exact ⟨rfl, HEND.out _ HK11.out⟩
end Go.Proofs.Ytdkdolcocblhkaa

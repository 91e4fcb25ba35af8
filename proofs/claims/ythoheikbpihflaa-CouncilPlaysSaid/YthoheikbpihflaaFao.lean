/- The council's Accept. What the program's councils answer. The simplest facts, which each statement of the council layer asks first. The reference of ballots: Promise. The reference of ballots: Take. -/
import Derived.Test.YthoheikbpihflaaFan
import Derived.Test.YthoheikbpihflaaFak
import Derived.Test.YthoheikbpihflaaFah
import Derived.Test.YthoheikbpihflaaFam
namespace Go.Proofs.Ythoheikbpihflaa
open Go.RowKit
attribute [local go_sem] less_eq same_eq le_eq ge_eq gt_eq

theorem step_take {c : Co} {b : Bal} {s : Sta} (hd : c.dead = false) (hn : ¬ (b.1 < 0 ∨ b.2 < 0)) (hs : soundS s) : c.step 2 b s = if (!lessB b c.v.prom) = false then (0, false, c) else ((c.keep (takeV c.v b s)).1, decide ((c.keep (takeV c.v b s)).1 = 0), (c.keep (takeV c.v b s)).2) := by
  have e : nextV c.v 2 b s = (takeV c.v b s, !lessB b c.v.prom, 0) := by unfold nextV; rw [if_neg hn, if_neg (by decide), if_pos hs]
  unfold Co.step
  rw [e, if_neg (by rw [hd]; decide)]
  simp only
  rw [if_neg (by decide)]
theorem step_bad {c : Co} {b : Bal} {s : Sta} (hd : c.dead = false) (hn : ¬ (b.1 < 0 ∨ b.2 < 0)) (hs : ¬ soundS s) : c.step 2 b s = (2, false, c) := by
  have e : nextV c.v 2 b s = (c.v, false, 2) := by unfold nextV; rw [if_neg hn, if_neg (by decide), if_neg hs]
  unfold Co.step
  rw [e, if_neg (by rw [hd]; decide)]
  simp only
  rw [if_pos (by decide)]

set_option maxHeartbeats 16000000 in
set_option maxRecDepth 100000 in
theorem cacc_any (base q p : Nat) (G : Nat → Prop) (c : Co) (b : Bal) (s : Sta) (u : Value) (h1 : b.1 < 9223372036854775808) (h2 : b.2 < 9223372036854775808) (hs : s.small) (hl : s.chests.length ≤ 17592186043904) (w : World) (h : CoAt w base q p G c) (hu : RdI w w.heap.size u s.chests) :
    Calls Try.prog 15 #[.pointer (some ⟨q, 0, none⟩), blv b, sval s u] w fun e w' => ∃ G', e = .returned (.tuple #[.bool (c.step 2 b s).2.1, .int .i64 (c.step 2 b s).1]) ∧
      CoAt w' base q p G' (c.step 2 b s).2.2 ∧ (∀ i, G' i → G i ∨ w.heap.size ≤ i) ∧ Mv G w w' := by
  obtain ⟨qb, Gb, A, n, h⟩ := h
  have hxl := sound_len h.ok.sound
  obtain ⟨D, d, rfl, -, -⟩ := hu.at
  obtain ⟨S, hS⟩ : ∃ S, S = c.step 2 b s := ⟨_, rfl⟩
  rw [← hS]
  have hmay := step_may (c := c) (b := b) (s := s) (what := 2)
  rw [← hS] at hmay
  obtain ⟨b1, b2⟩ := b
  obtain ⟨sg, se, sr, l⟩ := s
  have hcm := fun W h9 hq => cmay_any q c.dead (b1, b2) W h9 hq
  have hzero := may_zero (c := c) (b := (b1, b2))
  obtain ⟨M, hM⟩ : ∃ M, M = mayC c.dead (b1, b2) := ⟨_, rfl⟩
  rw [← hM] at hmay hzero
  unfold sval
  simp only at hl hu ⊢
  obtain ⟨w2, hw2⟩ : ∃ w2, w2 = (w.alloc (.cells #[.int .i64 b1, .int .i64 b2] 32)).alloc (.cells #[.int .i64 sg, .int .i64 se, .int .i64 sr, .slice D l.length d] 35) := ⟨_, rfl⟩
  have hb2 : Below w.heap.size w w2 := by rw [hw2]; exact ((Below.refl _ w).alloc (Nat.le_refl _) _).alloc (by simp) _
  have hs2 : w2.heap.size = w.heap.size + 1 + 1 := by rw [hw2]; simp
  have hT2 : Whole w2 (w.heap.size + 1) 35 [.int .i64 sg, .int .i64 se, .int .i64 sr, .slice D l.length d] := by
    have h := Whole.fresh (w.alloc (.cells #[.int .i64 b1, .int .i64 b2] 32)) 35 [.int .i64 sg, .int .i64 se, .int .i64 sr, .slice D l.length d]
    rw [World.size_alloc] at h
    rw [hw2]; exact h
  have hY2 : Whole w2 w.heap.size 32 [.int .i64 b1, .int .i64 b2] := by rw [hw2]; exact (Whole.fresh w _ [_, _]).alloc _
  have hi2 := h.mv (Mv.of_new hb2 (fun _ => False)) (fun _ _ h => h)
  have hcm2 := hcm w2 (hi2.at_.cell 9 _ rfl) hi2.at_.size
  rw [← hM] at hcm2
  unfold blv at hcm2 ⊢
  simp only at hcm2 h1 h2
  have HCM := Lib.hid hcm2
  have HI2 := Lib.hid hi2
  have HT2 := Lib.hid hT2
  have HY2 := Lib.hid hY2
  have HB2 := Lib.hid hb2
  have HU2 := Lib.hid (hu.next hb2)
  have HMAY := Lib.hid hmay
  have HZERO := Lib.hid hzero
  have HS := Lib.hid hS
  have HGL := Lib.hid (fun i (hi : G i) => (h.low.2 i hi).2)
  have HSM := Lib.hid hs
  have hbs := h.low.1
  have hqs : q < w.heap.size := h.at_.size
  clear hcm hcm2 hi2 hT2 hY2 hb2 hmay hzero hS h hM hu hs
  go_enter Try.func15, Try.ntmps15
  go_wp2_with fail
  rw [← hw2]
  clear hw2
  refine HCM.out.mono ?_
  rintro e w3 ⟨rfl, hb3⟩
  have HB3 := Lib.hid (HB2.out.trans (hb3.mono HB2.out.size))
  have HT3 := Lib.hid (HT2.out.below hb3 HT2.out.size)
  have HY3 := Lib.hid (HY2.out.below hb3 HY2.out.size)
  have HU3 := Lib.hid (HU2.out.next hb3)
  have HI3 := Lib.hid (HI2.out.mv (Mv.of_new hb3 (fun _ => False)) (fun _ _ h => h))
  have hs3 : w.heap.size + 1 + 1 ≤ w3.heap.size := by have := hb3.size; omega
  by_cases hM0 : M ≠ 0
  · have hSe := HMAY.out hM0
    subst hSe
    have hM1 : (M == 0) = false := by simpa using hM0
    clear hb3 hM0
    go_wp2_with fail
    exact bodyPost_ret (v := .tuple #[.bool false, .int .i64 M]) (by simp [results, Try.results15, go_sem]) rfl ⟨rfl, G, CoAt.mv ⟨qb, Gb, A, n, HI3.out⟩ (Mv.refl (fun _ => False) _) (fun _ _ h => h), fun i hi => .inl hi, Mv.of_new HB3.out G⟩
  have hM0' : M = 0 := by simpa using hM0
  subst hM0'
  obtain ⟨hd, hneg⟩ := HZERO.out rfl
  have hput := cunsound_any ⟨sg, se, sr, l⟩ HSM.out (by simp only; omega) _ w3 HU3.out
  obtain ⟨K, hK⟩ : ∃ K, K = decide (¬ soundS ⟨sg, se, sr, l⟩) := ⟨_, rfl⟩
  have hKs : soundS ⟨sg, se, sr, l⟩ ∧ K = false ∨ ¬ soundS ⟨sg, se, sr, l⟩ ∧ K = true := by
    rw [hK]
    by_cases hs : soundS ⟨sg, se, sr, l⟩
    · exact .inl ⟨hs, by simpa using hs⟩
    · exact .inr ⟨hs, by simpa using hs⟩
  rw [← hK] at hput
  unfold sval at hput
  simp only at hput
  have HPUT := Lib.hid hput
  clear hput hK hM0
  have hT3 := HT3.out
  have z0 := hT3.cell 0 _ rfl
  have z1 := hT3.cell 1 _ rfl
  have z2 := hT3.cell 2 _ rfl
  have z3 := hT3.cell 3 _ rfl
  have f0 := hT3.frozen 0
  have f1 := hT3.frozen 1
  have f2 := hT3.frozen 2
  have f3 := hT3.frozen 3
  clear hT3 hb3
  go_wp2_with fail
  refine HPUT.out.mono ?_
  rintro e w4 ⟨rfl, hb4⟩
  have HB4 := Lib.hid (HB3.out.trans (hb4.mono (by omega)))
  have HT4 := Lib.hid (HT3.out.below hb4 HT3.out.size)
  have HY4 := Lib.hid (HY3.out.below hb4 HY3.out.size)
  have HU4 := Lib.hid (HU3.out.next hb4)
  have HI4 := Lib.hid (HI3.out.mv (Mv.of_new hb4 (fun _ => False)) (fun _ _ h => h))
  have hs4 : w.heap.size + 1 + 1 ≤ w4.heap.size := by have := hb4.size; omega
  clear hb4
  rcases hKs with ⟨hss, rfl⟩ | ⟨hss, rfl⟩
  case inr =>
    have hSe := HS.out.trans (step_bad hd hneg hss)
    subst hSe
    go_wp2_with fail
    exact bodyPost_ret (v := .tuple #[.bool false, .int .i64 2]) (by simp [results, Try.results15, go_sem]) rfl ⟨rfl, G, CoAt.mv ⟨qb, Gb, A, n, HI4.out⟩ (Mv.refl (fun _ => False) _) (fun _ _ h => h), fun i hi => .inl hi, Mv.of_new HB4.out G⟩
  obtain ⟨X, hX⟩ : ∃ X, X = takeV c.v (b1, b2) ⟨sg, se, sr, l⟩ := ⟨_, rfl⟩
  obtain ⟨O, hO⟩ : ∃ O, O = !lessB (b1, b2) c.v.prom := ⟨_, rfl⟩
  have HPR := Lib.hid (fun W (hW : Below w4.heap.size w4 W) =>
    show Calls Try.prog 30 #[.agg #[.int .i64 c.v.prom.1, .int .i64 c.v.prom.2, .int .i64 c.v.at'.1, .int .i64 c.v.at'.2, .int .i64 c.v.took.gen, .int .i64 c.v.took.epoch, .int .i64 c.v.took.recd, .slice A c.v.took.chests.length n], .agg #[.int .i64 b1, .int .i64 b2], .agg #[.int .i64 sg, .int .i64 se, .int .i64 sr, .slice D l.length d]] W fun e w' => ∃ B m, e = .returned (.tuple #[.agg #[.int .i64 X.prom.1, .int .i64 X.prom.2, .int .i64 X.at'.1, .int .i64 X.at'.2, .int .i64 X.took.gen, .int .i64 X.took.epoch, .int .i64 X.took.recd, .slice B X.took.chests.length m], .bool O]) ∧ OwnI w' W.heap.size (.slice B X.took.chests.length m) X.took.chests ∧ Below W.heap.size W w' from by
      have h := ptakeO_any c.v (b1, b2) ⟨sg, se, sr, l⟩ _ _ W ((OwnI.rdI HI4.out.own).next hW) (HU4.out.next hW) (by omega) hl
      unfold vwv blv sval at h
      refine h.mono ?_
      rintro e w' ⟨v', rfl, ho, hb⟩
      obtain ⟨B, m, rfl, -, -⟩ := (OwnI.rdI ho).at
      rw [← hX] at ho ⊢
      rw [← hO]
      exact ⟨B, m, rfl, ho, hb⟩)
  have HCE := Lib.hid (fun W (hW : Below w4.heap.size w4 W) => (And.intro ((HI4.out.at_.below hW HI4.out.at_.size).cell 1 _ rfl) (And.intro ((HI4.out.at_.below hW HI4.out.at_.size).cell 2 _ rfl) (And.intro ((HI4.out.at_.below hW HI4.out.at_.size).cell 3 _ rfl) (And.intro ((HI4.out.at_.below hW HI4.out.at_.size).cell 4 _ rfl) (And.intro ((HI4.out.at_.below hW HI4.out.at_.size).cell 5 _ rfl) (And.intro ((HI4.out.at_.below hW HI4.out.at_.size).cell 6 _ rfl) (And.intro ((HI4.out.at_.below hW HI4.out.at_.size).cell 7 _ rfl) (And.intro ((HI4.out.at_.below hW HI4.out.at_.size).cell 8 _ rfl) (And.intro ((HY4.out.below hW HY4.out.size).cell 0 _ rfl) (And.intro ((HY4.out.below hW HY4.out.size).cell 1 _ rfl) (And.intro ((HT4.out.below hW HT4.out.size).cell 0 _ rfl) (And.intro ((HT4.out.below hW HT4.out.size).cell 1 _ rfl) (And.intro ((HT4.out.below hW HT4.out.size).cell 2 _ rfl) ((HT4.out.below hW HT4.out.size).cell 3 _ rfl)))))))))))))))
  have HX := Lib.hid hX
  have HO := Lib.hid hO
  have hXs : soundV X := by rw [hX]; exact takeV_sound HI4.out.ok.sound (by simp only; omega) (by simp only; omega) hss
  have hXf : X.fits := by
    have h := nextV_fits (what := 2) (s := ⟨sg, se, sr, l⟩) (b := (b1, b2)) HI4.out.ok.fits h1 h2 HSM.out
    have e : nextV c.v 2 (b1, b2) ⟨sg, se, sr, l⟩ = (takeV c.v (b1, b2) ⟨sg, se, sr, l⟩, !lessB (b1, b2) c.v.prom, 0) := by unfold nextV; rw [if_neg hneg, if_neg (by decide), if_pos hss]
    rw [e] at h; rw [hX]; exact h
  have HXS := Lib.hid (And.intro hXs hXf)
  have hxX := sound_len hXs
  have HSP := Lib.hid (HS.out.trans (step_take hd hneg hss))
  clear hX hO hXs hXf hss
  go_wp2_with fail
  refine wp_region_mid (fun a0 a' w' => ∃ (B : Option Addr) (m gx : Nat), a' = ((((((((((((a0.put (some 21) (.pointer (some ⟨q, 0, none⟩))).put (some 22) (.pointer (some ⟨q, 0, none⟩))).put (some 23) (.pointer (some ⟨q, 1, none⟩))).put (some 24) (.agg #[.int .i64 c.v.prom.1, .int .i64 c.v.prom.2, .int .i64 c.v.at'.1, .int .i64 c.v.at'.2, .int .i64 c.v.took.gen, .int .i64 c.v.took.epoch, .int .i64 c.v.took.recd, .slice A c.v.took.chests.length n])).put (some 25) (.agg #[.int .i64 b1, .int .i64 b2])).put (some 26) (.agg #[.int .i64 sg, .int .i64 se, .int .i64 sr, .slice D l.length d])).put (some 27) (.tuple #[.agg #[.int .i64 X.prom.1, .int .i64 X.prom.2, .int .i64 X.at'.1, .int .i64 X.at'.2, .int .i64 X.took.gen, .int .i64 X.took.epoch, .int .i64 X.took.recd, .slice B X.took.chests.length m], .bool O])).put (some 20) (.tuple #[.agg #[.int .i64 X.prom.1, .int .i64 X.prom.2, .int .i64 X.at'.1, .int .i64 X.at'.2, .int .i64 X.took.gen, .int .i64 X.took.epoch, .int .i64 X.took.recd, .slice B X.took.chests.length m], .bool O])).put (some 28) (.agg #[.int .i64 X.prom.1, .int .i64 X.prom.2, .int .i64 X.at'.1, .int .i64 X.at'.2, .int .i64 X.took.gen, .int .i64 X.took.epoch, .int .i64 X.took.recd, .slice B X.took.chests.length m])).put (some 29) (.bool O)).put (some 9) (.pointer (some ⟨gx, 0, none⟩))).put (some 10) (.bool O)) ∧ OwnI w' w4.heap.size (.slice B X.took.chests.length m) X.took.chests ∧ Below w4.heap.size w4 w' ∧ Whole w' gx 37 [.int .i64 X.prom.1, .int .i64 X.prom.2, .int .i64 X.at'.1, .int .i64 X.at'.2, .int .i64 X.took.gen, .int .i64 X.took.epoch, .int .i64 X.took.recd, .slice B X.took.chests.length m] ∧ w4.heap.size ≤ gx) ?mr ?mk
  case mr =>
    have hd0 : Below w4.heap.size w4 w4.drew := (Below.refl _ _).drew
    refine wp_region_planT (fun W => Below w4.heap.size w4 W) (.take 0 (.take 1 (.take 2 (.take 3 (.take 4 (.take 5 (.fork 6 (.take 7 (.take 8 (.take 9 (.step 10 (.step 11 (.take 12 .done)))))) 10 (.step 6 (.take 7 (.take 8 (.take 9 (.step 11 (.take 12 .done))))))))))))) (by kernel_rfl) (by kernel_rfl) (fun _ _ _ _ _ h => by cases h.1) hd0 ?_
    obtain ⟨wd, hwd⟩ : ∃ wd, wd = w4.drew := ⟨_, rfl⟩
    rw [← hwd] at hd0 ⊢
    clear hwd
    iterate 6 (refine PlanT.takeI (v := ?_) rfl rfl ?_ ?_; rotate_left; (focus (intro W hW; obtain ⟨q1, q2, q3, q4, q5, q6, q7, q8, y0, y1, t0, t1, t2, t3⟩ := HCE.out W hW; go_simp; (try with_reducible rfl); done)); (try simp only [Act.put, List.setIfInBounds_toArray, List.set_cons_zero, List.set_cons_succ]))
    refine ⟨?_, ?_⟩
    · skip
      refine wpOp_stepT rfl rfl (fun Kk hK => ?_)
      go_simp
      refine (HPR.out wd hd0).mono ?_
      rintro e wa ⟨B, m, rfl, ho, hb⟩
      have hd0'' := hd0.trans (hb.mono hd0.size)
      refine hK.out _ _ hd0'' ?_
      clear hK Kk
      (try simp only [Act.put, List.setIfInBounds_toArray, List.set_cons_zero, List.set_cons_succ])
      iterate 3 (refine PlanT.takeI (v := ?_) rfl rfl ?_ ?_; rotate_left; (focus (intro W hW; go_simp; (try with_reducible rfl); done)); (try simp only [Act.put, List.setIfInBounds_toArray, List.set_cons_zero, List.set_cons_succ]))
      refine wpOp_stepT rfl rfl (fun Kk hK => ?_)
      go_simp
      obtain ⟨wb, hE⟩ : ∃ V, V = wa.alloc (.cells #[.int .i64 0, .int .i64 0, .int .i64 0, .int .i64 0, .int .i64 0, .int .i64 0, .int .i64 0, .slice none 0 0] 37) := ⟨_, rfl⟩
      have hmA : Mv (fun _ => False) wa wb := by rw [hE]; exact (Mv.refl _ _).alloc _
      have hd0''' : Below w4.heap.size w4 wb := by rw [hE]; exact hd0''.alloc hd0''.size _
      have hx : Whole wb wa.heap.size 37 [.int .i64 0, .int .i64 0, .int .i64 0, .int .i64 0, .int .i64 0, .int .i64 0, .int .i64 0, .slice none 0 0] := by rw [hE]; exact Whole.fresh wa _ [_, _, _, _, _, _, _, _]
      have hg : w4.heap.size ≤ wa.heap.size := hd0''.size
      have hgs : wb.heap.size = wa.heap.size + 1 := by rw [hE]; simp
      rw [← hE]
      obtain ⟨gx, hgx⟩ : ∃ X, X = wa.heap.size := ⟨_, rfl⟩
      rw [← hgx] at hx hg hgs ⊢
      have HGX := Lib.hid hgx
      have HGS := Lib.hid hgs
      clear hE hgx hgs
      refine hK.out _ _ hd0''' ?_
      clear hK Kk
      (try simp only [Act.put, List.setIfInBounds_toArray, List.set_cons_zero, List.set_cons_succ])
      refine wpOp_stepT rfl rfl (fun Kk hK => ?_)
      have c0 := hx.cell 0 _ rfl
      have c1 := hx.cell 1 _ rfl
      have c2 := hx.cell 2 _ rfl
      have c3 := hx.cell 3 _ rfl
      have c4 := hx.cell 4 _ rfl
      have c5 := hx.cell 5 _ rfl
      have c6 := hx.cell 6 _ rfl
      have c7 := hx.cell 7 _ rfl
      have f0 := hx.frozen 0
      have f1 := hx.frozen 1
      have f2 := hx.frozen 2
      have f3 := hx.frozen 3
      have f4 := hx.frozen 4
      have f5 := hx.frozen 5
      have f6 := hx.frozen 6
      have f7 := hx.frozen 7
      go_simp
      have hmx := (((((((((Mv.refl (fun i => i = gx) wb).one 0 (.int .i64 X.prom.1)).one 1 (.int .i64 X.prom.2)).one 2 (.int .i64 X.at'.1)).one 3 (.int .i64 X.at'.2)).one 4 (.int .i64 X.took.gen)).one 5 (.int .i64 X.took.epoch)).one 6 (.int .i64 X.took.recd)).one 7 (.slice B X.took.chests.length m))
      have hx2 := ((((((((hx.put 0 (.int .i64 X.prom.1)).put 1 (.int .i64 X.prom.2)).put 2 (.int .i64 X.at'.1)).put 3 (.int .i64 X.at'.2)).put 4 (.int .i64 X.took.gen)).put 5 (.int .i64 X.took.epoch)).put 6 (.int .i64 X.took.recd)).put 7 (.slice B X.took.chests.length m))
      simp only [List.set] at hx2
      have hd8 := hd0'''.trans ((hmx.below (B := w4.heap.size) hd0'''.size (fun i e => by omega)))
      clear c0 f0 c1 f1 c2 f2 c3 f3 c4 f4 c5 f5 c6 f6 c7 f7
      refine hK.out _ _ hd8 ?_
      clear hK Kk
      (try simp only [Act.put, List.setIfInBounds_toArray, List.set_cons_zero, List.set_cons_succ])
      iterate 1 (refine PlanT.takeI (v := ?_) rfl rfl ?_ ?_; rotate_left; (focus (intro W hW; go_simp; (try with_reducible rfl); done)); (try simp only [Act.put, List.setIfInBounds_toArray, List.set_cons_zero, List.set_cons_succ]))
      simp only [PlanT]
      exact ⟨(by first | rfl | trivial), B, m, gx, (by first | rfl | (simp only [Act.put, List.setIfInBounds_toArray, List.set_cons_zero, List.set_cons_succ])), OwnI.mv (OwnI.mv (Own.lower ho (by have := hd0.size; omega)) hmA (fun _ _ h => h)) hmx (fun g hg2 e => by have := (OwnI.low ho hg2).2; have := HGX.out; omega), hd8, hx2, hg⟩
    · skip
      refine wpOp_stepT rfl rfl (fun Kk hK => ?_)
      go_simp
      obtain ⟨wa, hE⟩ : ∃ V, V = wd.alloc (.cells #[.int .i64 0, .int .i64 0, .int .i64 0, .int .i64 0, .int .i64 0, .int .i64 0, .int .i64 0, .slice none 0 0] 37) := ⟨_, rfl⟩
      have hmA : Mv (fun _ => False) wd wa := by rw [hE]; exact (Mv.refl _ _).alloc _
      have hd0' : Below w4.heap.size w4 wa := by rw [hE]; exact hd0.alloc hd0.size _
      have hx : Whole wa wd.heap.size 37 [.int .i64 0, .int .i64 0, .int .i64 0, .int .i64 0, .int .i64 0, .int .i64 0, .int .i64 0, .slice none 0 0] := by rw [hE]; exact Whole.fresh wd _ [_, _, _, _, _, _, _, _]
      have hg : w4.heap.size ≤ wd.heap.size := hd0.size
      have hgs : wa.heap.size = wd.heap.size + 1 := by rw [hE]; simp
      rw [← hE]
      obtain ⟨gx, hgx⟩ : ∃ X, X = wd.heap.size := ⟨_, rfl⟩
      rw [← hgx] at hx hg hgs ⊢
      have HGX := Lib.hid hgx
      have HGS := Lib.hid hgs
      clear hE hgx hgs
      refine hK.out _ _ hd0' ?_
      clear hK Kk
      (try simp only [Act.put, List.setIfInBounds_toArray, List.set_cons_zero, List.set_cons_succ])
      refine wpOp_stepT rfl rfl (fun Kk hK => ?_)
      go_simp
      refine (HPR.out wa hd0').mono ?_
      rintro e wb ⟨B, m, rfl, ho, hb⟩
      have hd0''' := hd0'.trans (hb.mono hd0'.size)
      replace hx := hx.below hb hx.size
      refine hK.out _ _ hd0''' ?_
      clear hK Kk
      (try simp only [Act.put, List.setIfInBounds_toArray, List.set_cons_zero, List.set_cons_succ])
      iterate 3 (refine PlanT.takeI (v := ?_) rfl rfl ?_ ?_; rotate_left; (focus (intro W hW; go_simp; (try with_reducible rfl); done)); (try simp only [Act.put, List.setIfInBounds_toArray, List.set_cons_zero, List.set_cons_succ]))
      refine wpOp_stepT rfl rfl (fun Kk hK => ?_)
      have c0 := hx.cell 0 _ rfl
      have c1 := hx.cell 1 _ rfl
      have c2 := hx.cell 2 _ rfl
      have c3 := hx.cell 3 _ rfl
      have c4 := hx.cell 4 _ rfl
      have c5 := hx.cell 5 _ rfl
      have c6 := hx.cell 6 _ rfl
      have c7 := hx.cell 7 _ rfl
      have f0 := hx.frozen 0
      have f1 := hx.frozen 1
      have f2 := hx.frozen 2
      have f3 := hx.frozen 3
      have f4 := hx.frozen 4
      have f5 := hx.frozen 5
      have f6 := hx.frozen 6
      have f7 := hx.frozen 7
      go_simp
      have hmx := (((((((((Mv.refl (fun i => i = gx) wb).one 0 (.int .i64 X.prom.1)).one 1 (.int .i64 X.prom.2)).one 2 (.int .i64 X.at'.1)).one 3 (.int .i64 X.at'.2)).one 4 (.int .i64 X.took.gen)).one 5 (.int .i64 X.took.epoch)).one 6 (.int .i64 X.took.recd)).one 7 (.slice B X.took.chests.length m))
      have hx2 := ((((((((hx.put 0 (.int .i64 X.prom.1)).put 1 (.int .i64 X.prom.2)).put 2 (.int .i64 X.at'.1)).put 3 (.int .i64 X.at'.2)).put 4 (.int .i64 X.took.gen)).put 5 (.int .i64 X.took.epoch)).put 6 (.int .i64 X.took.recd)).put 7 (.slice B X.took.chests.length m))
      simp only [List.set] at hx2
      have hd8 := hd0'''.trans ((hmx.below (B := w4.heap.size) hd0'''.size (fun i e => by omega)))
      clear c0 f0 c1 f1 c2 f2 c3 f3 c4 f4 c5 f5 c6 f6 c7 f7
      refine hK.out _ _ hd8 ?_
      clear hK Kk
      (try simp only [Act.put, List.setIfInBounds_toArray, List.set_cons_zero, List.set_cons_succ])
      iterate 1 (refine PlanT.takeI (v := ?_) rfl rfl ?_ ?_; rotate_left; (focus (intro W hW; go_simp; (try with_reducible rfl); done)); (try simp only [Act.put, List.setIfInBounds_toArray, List.set_cons_zero, List.set_cons_succ]))
      simp only [PlanT]
      exact ⟨(by first | rfl | trivial), B, m, gx, (by first | rfl | (simp only [Act.put, List.setIfInBounds_toArray, List.set_cons_zero, List.set_cons_succ])), OwnI.mv (Own.lower ho (by have := HGS.out; omega)) hmx (fun g hg2 e => by have := (OwnI.low ho hg2).1; have := HGS.out; omega), hd8, hx2, hg⟩
  case mk =>
    rintro a' w5 ⟨B, m, gx, rfl, ho5, hb5, hx5, hg5⟩
    (try simp only [Act.put, List.setIfInBounds_toArray, List.set_cons_zero, List.set_cons_succ])
    have HO5 := Lib.hid ho5
    have HX5 := Lib.hid hx5
    have HB5 := Lib.hid (HB4.out.trans (hb5.mono (by omega)))
    have HI5 := Lib.hid (HI4.out.mv (Mv.of_new hb5 (fun _ => False)) (fun _ _ h => h))
    have hs5 := hb5.size
    have g0 := hx5.cell 0 _ rfl
    have g1 := hx5.cell 1 _ rfl
    have g2 := hx5.cell 2 _ rfl
    have g3 := hx5.cell 3 _ rfl
    have g4 := hx5.cell 4 _ rfl
    have g5 := hx5.cell 5 _ rfl
    have g6 := hx5.cell 6 _ rfl
    have g7 := hx5.cell 7 _ rfl
    have k0 := hx5.frozen 0
    have k1 := hx5.frozen 1
    have k2 := hx5.frozen 2
    have k3 := hx5.frozen 3
    have k4 := hx5.frozen 4
    have k5 := hx5.frozen 5
    have k6 := hx5.frozen 6
    have k7 := hx5.frozen 7
    clear hx5 ho5 hb5
    cases O
    · have hSe : S = (0, false, c) := by rw [HSP.out, if_pos HO.out.symm]
      subst hSe
      go_wp2_with fail
      exact bodyPost_ret (v := .tuple #[.bool false, .int .i64 0]) (by simp [results, Try.results15, go_sem]) rfl ⟨rfl, G, CoAt.mv ⟨qb, Gb, A, n, HI5.out⟩ (Mv.refl (fun _ => False) _) (fun _ _ h => h), fun i hi => .inl hi, Mv.of_new HB5.out G⟩
    · have hSv : S = ((c.keep X).1, decide ((c.keep X).1 = 0), (c.keep X).2) := by
        rw [HSP.out, if_neg (by rw [← HO.out]; decide), ← HX.out]
      have hk := ckeep_any base q p qb Gb G c A n X B m w5 HI5.out hd HXS.out.1 HXS.out.2 (Own.lower HO5.out (by omega)) (fun g hg hG => by have := (OwnI.low HO5.out hg).1; have := HGL.out g hG; omega)
      have hke := Co.keep_err c X
      obtain ⟨E, hE⟩ : ∃ E, E = (c.keep X).1 := ⟨_, rfl⟩
      obtain ⟨c', hc'⟩ : ∃ c', c' = (c.keep X).2 := ⟨_, rfl⟩
      rw [← hE, ← hc'] at hk hSv
      rw [← hE] at hke
      unfold vwv at hk
      have HK := Lib.hid hk
      have HSV := Lib.hid hSv
      clear hSv hk hE hc'
      go_wp2_with fail
      refine HK.out.mono ?_
      rintro e w6 ⟨rfl, G6, hc6, hG6, hm6⟩
      have HC6 := Lib.hid hc6
      have HG6 := Lib.hid (show ∀ i, G6 i → G i ∨ w.heap.size ≤ i from fun i hi => by
        rcases hG6 i hi with k | k | k
        · exact .inl k
        · have := (OwnI.low HO5.out k).1; exact .inr (by omega)
        · exact .inr (by omega))
      have HM6 := Lib.hid ((Mv.of_new HB5.out G).trans hm6 (fun _ _ h => h))
      clear hc6 hG6 hm6
      rcases hke with hke | hke
      · rw [hke] at HSV ⊢
        go_wp2_with fail
        exact bodyPost_ret (v := .tuple #[.bool true, .int .i64 0]) (by simp [results, Try.results15, go_sem]) rfl (by
          have hSv := HSV.out
          subst hSv
          exact ⟨G6, rfl, HC6.out, HG6.out, HM6.out⟩)
      · rw [hke] at HSV ⊢
        go_wp2_with fail
        exact bodyPost_ret (v := .tuple #[.bool false, .int .i64 11]) (by simp [results, Try.results15, go_sem]) rfl (by
          have hSv := HSV.out
          subst hSv
          exact ⟨G6, rfl, HC6.out, HG6.out, HM6.out⟩)
end Go.Proofs.Ythoheikbpihflaa

namespace Go.Proofs.Ythoheikbpihflaa
open Go.RowKit
attribute [local go_sem] less_eq same_eq le_eq ge_eq gt_eq

set_option maxRecDepth 100000 in
theorem field_vow2 (a b c d g e r : Int) (v : Value) (W : World) : (Instr.field 37 (.agg #[.int .i64 a, .int .i64 b, .int .i64 c, .int .i64 d, .int .i64 g, .int .i64 e, .int .i64 r, v]) 2).run Try.prog W = .ok (.agg #[.int .i64 g, .int .i64 e, .int .i64 r, v]) W := by
  kernel_rfl
set_option maxRecDepth 100000 in
theorem field_vow0 (a b c d g e r : Int) (v : Value) (W : World) : (Instr.field 37 (.agg #[.int .i64 a, .int .i64 b, .int .i64 c, .int .i64 d, .int .i64 g, .int .i64 e, .int .i64 r, v]) 0).run Try.prog W = .ok (.agg #[.int .i64 a, .int .i64 b]) W := by
  kernel_rfl
set_option maxRecDepth 100000 in
theorem field_vow1 (a b c d g e r : Int) (v : Value) (W : World) : (Instr.field 37 (.agg #[.int .i64 a, .int .i64 b, .int .i64 c, .int .i64 d, .int .i64 g, .int .i64 e, .int .i64 r, v]) 1).run Try.prog W = .ok (.agg #[.int .i64 c, .int .i64 d]) W := by
  kernel_rfl
set_option maxRecDepth 100000 in
theorem field_gen (g e r : Int) (v : Value) (W : World) : (Instr.field 35 (.agg #[.int .i64 g, .int .i64 e, .int .i64 r, v]) 0).run Try.prog W = .ok (.int .i64 g) W := by
  kernel_rfl
def awkC : Co := Co.start 1000
def awkC1 : Co := ⟨⟨(2, 0), (0, 0), zeroS⟩, true, -1, false, 1000⟩
def awkC2 : Co := ⟨⟨(2, 0), (2, 0), ⟨7, 0, 0, []⟩⟩, true, -1, false, 1000⟩
theorem awk_step1 : awkC.step 0 (2, 0) zeroS = (0, true, awkC1) := by rfl
theorem awk_step2 : awkC1.step 2 (2, 0) ⟨7, 0, 0, []⟩ = (0, true, awkC2) := by rfl
/-- what Open of a new tape leaves -/
theorem fresh_open (room : Int) (h1 : 1000 ≤ room) (h2 : room ≤ 1048576) (w w1 : World) (p : Nat) (ht : TapeAt w1 w.heap.size p none ⟨[], [], room, -1, false⟩) (hb : Below w.heap.size w w1) :
    Calls Try.prog 7 #[.pointer (some ⟨p, 0, none⟩)] w1 fun e w' => ∃ q G, e = .returned (.tuple #[.pointer (some ⟨q, 0, none⟩), .int .i64 0]) ∧ CoAt w' w.heap.size q p G (Co.start room) ∧ Below w.heap.size w w' := by
  refine (copen_any w.heap.size p none (Co.start room) w1 ht (Co.start_ok h1 h2) rfl).mono ?_
  rintro e w' ⟨q, G, rfl, hc, _, hm⟩
  exact ⟨q, G, rfl, hc, hb.trans (hm.below ht.low.2.2 (by rintro i (rfl | h); exact ht.low.1; cases h))⟩

set_option maxHeartbeats 4000000 in
set_option maxRecDepth 100000 in
theorem awake_any (w : World) : Calls Try.prog 8 #[] w fun e w' => e = .returned (.bool true) ∧ Below w.heap.size w w' := by
  have HN := Lib.hid (new_any 1000 (by decide) (by decide) w)
  go_enter Try.func8, Try.ntmps8
  go_wp2_with fail
  refine HN.out.mono ?_
  rintro e w1 ⟨p, rfl, ht, hb⟩
  have HO := Lib.hid (fresh_open 1000 (by decide) (by decide) w w1 p ht hb)
  clear HN ht hb
  go_wp2_with fail
  refine HO.out.mono ?_
  rintro e w2 ⟨q, G, rfl, hc2, hb2⟩
  have hp := cprep_any w.heap.size q p G awkC (2, 0) (by decide) (by decide) w2 hc2
  rw [awk_step1] at hp
  unfold blv vwv at hp
  simp only at hp
  have HP := Lib.hid hp
  have HB2 := Lib.hid hb2
  have HC2 := Lib.hid hc2
  clear hp hb2 hc2 HO
  go_wp2_with fail
  refine HP.out.mono ?_
  rintro e w3 ⟨x, v, G3, rfl, hn, -, hc3, hG3, hm3⟩
  have hb3 : Below w.heap.size w w3 := HB2.out.trans (hm3.below HC2.out.low.1 (fun i hi => (HC2.out.low.2 i hi).1))
  obtain ⟨A, c, rfl, -, -⟩ := hn
  have hbe : Below w3.heap.size w3 (w3.alloc (.cells #[.int .i64 x.prom.1, .int .i64 x.prom.2, .int .i64 x.at'.1, .int .i64 x.at'.2, .int .i64 x.took.gen, .int .i64 x.took.epoch, .int .i64 x.took.recd, .slice A x.took.chests.length c] 37)) := (Below.refl _ _).alloc (Nat.le_refl _) _
  have HB4 := Lib.hid (hb3.trans (hbe.mono hb3.size))
  have hc4 := hc3.mv (Mv.of_new hbe (fun _ => False)) (fun _ _ h => h)
  have ha := cacc_any w.heap.size q p G3 awkC1 (2, 0) ⟨7, 0, 0, []⟩ (.slice none 0 0) (by decide) (by decide) ⟨by decide, by decide, by decide⟩ (by simp) _ hc4 (Rd.nil _ _)
  rw [awk_step2] at ha
  unfold blv sval at ha
  simp only at ha
  have HA := Lib.hid ha
  have HC4 := Lib.hid hc4
  clear ha hc3 hc4 hb3 hbe hm3 hG3 HP HB2 HC2
  go_wp2_with fail
  refine HA.out.mono ?_
  rintro e w5 ⟨G5, rfl, hc5, hG5, hm5⟩
  have HB5 := Lib.hid (HB4.out.trans (hm5.below HC4.out.low.1 (fun i hi => (HC4.out.low.2 i hi).1)))
  have HV := Lib.hid (cvow_any w.heap.size q p G5 awkC2 w5 hc5)
  clear hc5 hG5 hm5 HA HC4 HB4
  go_wp2_with fail
  refine HV.out.mono ?_
  rintro e w6 ⟨v6, rfl, hn6, hb6⟩
  have HB6 := Lib.hid (HB5.out.trans (hb6.mono HB5.out.size))
  obtain ⟨A6, c6, rfl, -, -⟩ := hn6
  have f2 := fun (v : Value) W => field_vow2 2 0 2 0 7 0 0 v W
  have f0 := fun (v : Value) W => field_gen 7 0 0 v W
  clear hb6
  unfold vwv awkC2
  simp only
  go_wp2_with fail
  go_ret
  exact ⟨rfl, HB6.out⟩
end Go.Proofs.Ythoheikbpihflaa
namespace Go.Proofs.Ythoheikbpihflaa
open Go.RowKit

set_option maxHeartbeats 2000000 in
set_option maxRecDepth 100000 in
theorem rpromise_any (x : Vw) (b : Bal) (A : Option Addr) (n c : Nat) (w : World) :
    Calls Try.prog 24 #[vwv x (.slice A n c), blv b] w fun e w' => e = .returned (.tuple #[vwv (promV x b) (.slice A n c), .bool (lessB x.prom b)]) ∧ Below w.heap.size w w' := by
  obtain ⟨⟨p1, p2⟩, ⟨a1, a2⟩, ⟨g, ep, rc, ch⟩⟩ := x
  obtain ⟨b1, b2⟩ := b
  have hl := fun W => rless_any (p1, p2) (b1, b2) W
  unfold blv at hl
  simp only at hl
  have HL := Lib.hid hl; clear hl
  unfold vwv blv promV
  simp only
  generalize lessB (p1, p2) (b1, b2) = r at HL ⊢
  obtain ⟨w1, hw1⟩ : ∃ w1, w1 = w.alloc (.cells #[.int .i64 p1, .int .i64 p2, .int .i64 a1, .int .i64 a2, .int .i64 g, .int .i64 ep, .int .i64 rc, .slice A n c] 37) := ⟨_, rfl⟩
  obtain ⟨w2, hw2⟩ : ∃ w2, w2 = w1.alloc (.cells #[.int .i64 b1, .int .i64 b2] 32) := ⟨_, rfl⟩
  obtain ⟨w3, hw3⟩ : ∃ w3, w3 = w2.alloc (.cells #[.int .i64 0, .int .i64 0, .int .i64 0, .int .i64 0, .int .i64 0, .int .i64 0, .int .i64 0, .slice none 0 0] 37) := ⟨_, rfl⟩
  have hs1 : w1.heap.size = w.heap.size + 1 := by rw [hw1]; simp
  have hs2 : w2.heap.size = w.heap.size + 1 + 1 := by rw [hw2, World.size_alloc, hs1]
  have hs3 : w3.heap.size = w.heap.size + 1 + 1 + 1 := by rw [hw3, World.size_alloc, hs2]
  have hX : Whole w3 w.heap.size 37 [.int .i64 p1, .int .i64 p2, .int .i64 a1, .int .i64 a2, .int .i64 g, .int .i64 ep, .int .i64 rc, .slice A n c] := by
    rw [hw3, hw2, hw1]; exact ((Whole.fresh w _ [.int .i64 p1, .int .i64 p2, .int .i64 a1, .int .i64 a2, .int .i64 g, .int .i64 ep, .int .i64 rc, .slice A n c]).alloc _).alloc _
  have hY : Whole w3 (w.heap.size + 1) 32 [.int .i64 b1, .int .i64 b2] := by
    rw [hw3, hw2, ← hs1]; exact (Whole.fresh w1 _ [_, _]).alloc _
  have hZ : Whole w3 (w.heap.size + 1 + 1) 37 [.int .i64 0, .int .i64 0, .int .i64 0, .int .i64 0, .int .i64 0, .int .i64 0, .int .i64 0, .slice none 0 0] := by
    rw [hw3, ← hs2]; exact Whole.fresh w2 _ [.int .i64 0, .int .i64 0, .int .i64 0, .int .i64 0, .int .i64 0, .int .i64 0, .int .i64 0, .slice none 0 0]
  have hb3 : Below w.heap.size w w3 := by
    rw [hw3, hw2, hw1]; exact (((Below.refl _ w).alloc (Nat.le_refl _) _).alloc (by simp) _).alloc (by simp; omega) _
  have HX := Lib.hid hX; clear hX
  have HY := Lib.hid hY; clear hY
  have HZ := Lib.hid hZ; clear hZ
  have HB3 := Lib.hid hb3; clear hb3
  have HS3 := Lib.hid hs3; clear hs3
  go_enter Try.func24, Try.ntmps24
  go_wp2_with fail
  rw [← hw1, ← hw2, ← hw3]
  refine (HL.out w3).mono ?_
  rintro e w4 ⟨rfl, hb4⟩
  have hX4 := HX.out.below hb4 (by have := HS3.out; omega)
  have hY4 := HY.out.below hb4 (by have := HS3.out; omega)
  have hZ4 := HZ.out.below hb4 (by have := HS3.out; omega)
  have HB4 := Lib.hid (HB3.out.trans (hb4.mono (by have := HS3.out; omega)))
  clear hb4 hw1 hw2 hw3 hs1 hs2
  cases r with
  | false =>
    have x0 := hX4.cell 0 _ rfl
    have x1 := hX4.cell 1 _ rfl
    have x2 := hX4.cell 2 _ rfl
    have x3 := hX4.cell 3 _ rfl
    have x4 := hX4.cell 4 _ rfl
    have x5 := hX4.cell 5 _ rfl
    have x6 := hX4.cell 6 _ rfl
    have x7 := hX4.cell 7 _ rfl
    have z0 := hZ4.cell 0 _ rfl
    have z1 := hZ4.cell 1 _ rfl
    have z2 := hZ4.cell 2 _ rfl
    have z3 := hZ4.cell 3 _ rfl
    have z4 := hZ4.cell 4 _ rfl
    have z5 := hZ4.cell 5 _ rfl
    have z6 := hZ4.cell 6 _ rfl
    have z7 := hZ4.cell 7 _ rfl
    have f0 := hZ4.frozen 0
    have f1 := hZ4.frozen 1
    have f2 := hZ4.frozen 2
    have f3 := hZ4.frozen 3
    have f4 := hZ4.frozen 4
    have f5 := hZ4.frozen 5
    have f6 := hZ4.frozen 6
    have f7 := hZ4.frozen 7
    have HZ4 := Lib.hid hZ4
    clear hX4 hY4 hZ4
    go_wp2_with fail
    have hZ8 := ((((((((HZ4.out.put 0 (.int .i64 p1)).put 1 (.int .i64 p2)).put 2 (.int .i64 a1)).put 3 (.int .i64 a2)).put 4 (.int .i64 g)).put 5 (.int .i64 ep)).put 6 (.int .i64 rc)).put 7 (.slice A n c))
    simp only [List.set] at hZ8
    have R0 := hZ8.cell 0 _ rfl
    have R1 := hZ8.cell 1 _ rfl
    have R2 := hZ8.cell 2 _ rfl
    have R3 := hZ8.cell 3 _ rfl
    have R4 := hZ8.cell 4 _ rfl
    have R5 := hZ8.cell 5 _ rfl
    have R6 := hZ8.cell 6 _ rfl
    have R7 := hZ8.cell 7 _ rfl
    exact bodyPost_ret (v := .tuple #[.agg #[.int .i64 p1, .int .i64 p2, .int .i64 a1, .int .i64 a2, .int .i64 g, .int .i64 ep, .int .i64 rc, .slice A n c], .bool false]) (by simp [results, Try.results24, go_sem, R0, R1, R2, R3, R4, R5, R6, R7]) rfl ⟨rfl, by (repeat (refine Below.setCell ?_ (by simp; try omega) _)); exact HB4.out⟩
  | true =>
    have x0 := hX4.cell 0 _ rfl
    have x1 := hX4.cell 1 _ rfl
    have x2 := hX4.cell 2 _ rfl
    have x3 := hX4.cell 3 _ rfl
    have x4 := hX4.cell 4 _ rfl
    have x5 := hX4.cell 5 _ rfl
    have x6 := hX4.cell 6 _ rfl
    have x7 := hX4.cell 7 _ rfl
    have y0 := hY4.cell 0 _ rfl
    have y1 := hY4.cell 1 _ rfl
    have k0 := hX4.frozen 0
    have k1 := hX4.frozen 1
    have z0 := hZ4.cell 0 _ rfl
    have z1 := hZ4.cell 1 _ rfl
    have z2 := hZ4.cell 2 _ rfl
    have z3 := hZ4.cell 3 _ rfl
    have z4 := hZ4.cell 4 _ rfl
    have z5 := hZ4.cell 5 _ rfl
    have z6 := hZ4.cell 6 _ rfl
    have z7 := hZ4.cell 7 _ rfl
    have f0 := hZ4.frozen 0
    have f1 := hZ4.frozen 1
    have f2 := hZ4.frozen 2
    have f3 := hZ4.frozen 3
    have f4 := hZ4.frozen 4
    have f5 := hZ4.frozen 5
    have f6 := hZ4.frozen 6
    have f7 := hZ4.frozen 7
    have HZ4 := Lib.hid hZ4
    clear hX4 hY4 hZ4
    go_wp2_with fail
    have hZ8 := ((((((((((HZ4.out.away (p := ⟨w.heap.size, 0, none⟩) (by simp; omega) (.int .i64 b1)).away (p := ⟨w.heap.size, 1, none⟩) (by simp; omega) (.int .i64 b2)).put 0 (.int .i64 b1)).put 1 (.int .i64 b2)).put 2 (.int .i64 a1)).put 3 (.int .i64 a2)).put 4 (.int .i64 g)).put 5 (.int .i64 ep)).put 6 (.int .i64 rc)).put 7 (.slice A n c))
    simp only [List.set] at hZ8
    have R0 := hZ8.cell 0 _ rfl
    have R1 := hZ8.cell 1 _ rfl
    have R2 := hZ8.cell 2 _ rfl
    have R3 := hZ8.cell 3 _ rfl
    have R4 := hZ8.cell 4 _ rfl
    have R5 := hZ8.cell 5 _ rfl
    have R6 := hZ8.cell 6 _ rfl
    have R7 := hZ8.cell 7 _ rfl
    exact bodyPost_ret (v := .tuple #[.agg #[.int .i64 b1, .int .i64 b2, .int .i64 a1, .int .i64 a2, .int .i64 g, .int .i64 ep, .int .i64 rc, .slice A n c], .bool true]) (by simp [results, Try.results24, go_sem, R0, R1, R2, R3, R4, R5, R6, R7]) rfl ⟨rfl, by (repeat (refine Below.setCell ?_ (by simp; try omega) _)); exact HB4.out⟩
end Go.Proofs.Ythoheikbpihflaa
namespace Go.Proofs.Ythoheikbpihflaa
open Go.RowKit

set_option maxHeartbeats 2000000 in
set_option maxRecDepth 100000 in
theorem rtake_any (x : Vw) (b : Bal) (s : Sta) (A : Option Addr) (n c : Nat) (B : Option Addr) (m d : Nat) (w : World) :
    Calls Try.prog 25 #[vwv x (.slice A n c), blv b, sval s (.slice B m d)] w fun e w' => e = .returned (.tuple #[if lessB b x.prom = true then vwv x (.slice A n c) else vwv ⟨b, b, s⟩ (.slice B m d), .bool (!lessB b x.prom)]) ∧ Below w.heap.size w w' := by
  obtain ⟨⟨p1, p2⟩, ⟨a1, a2⟩, ⟨g, ep, rc, ch⟩⟩ := x
  obtain ⟨b1, b2⟩ := b
  obtain ⟨s1, s2, s3, sh⟩ := s
  have hl := fun W => rless_any (b1, b2) (p1, p2) W
  unfold blv at hl
  simp only at hl
  have HL := Lib.hid hl; clear hl
  unfold vwv blv sval
  simp only
  generalize lessB (b1, b2) (p1, p2) = r at HL ⊢
  obtain ⟨w1, hw1⟩ : ∃ w1, w1 = w.alloc (.cells #[.int .i64 p1, .int .i64 p2, .int .i64 a1, .int .i64 a2, .int .i64 g, .int .i64 ep, .int .i64 rc, .slice A n c] 37) := ⟨_, rfl⟩
  obtain ⟨w2, hw2⟩ : ∃ w2, w2 = w1.alloc (.cells #[.int .i64 b1, .int .i64 b2] 32) := ⟨_, rfl⟩
  obtain ⟨w3, hw3⟩ : ∃ w3, w3 = w2.alloc (.cells #[.int .i64 s1, .int .i64 s2, .int .i64 s3, .slice B m d] 35) := ⟨_, rfl⟩
  obtain ⟨w4, hw4⟩ : ∃ w4, w4 = w3.alloc (.cells #[.int .i64 0, .int .i64 0, .int .i64 0, .int .i64 0, .int .i64 0, .int .i64 0, .int .i64 0, .slice none 0 0] 37) := ⟨_, rfl⟩
  have hs1 : w1.heap.size = w.heap.size + 1 := by rw [hw1]; simp
  have hs2 : w2.heap.size = w.heap.size + 1 + 1 := by rw [hw2, World.size_alloc, hs1]
  have hs3 : w3.heap.size = w.heap.size + 1 + 1 + 1 := by rw [hw3, World.size_alloc, hs2]
  have hs4 : w4.heap.size = w.heap.size + 1 + 1 + 1 + 1 := by rw [hw4, World.size_alloc, hs3]
  have hX : Whole w4 w.heap.size 37 [.int .i64 p1, .int .i64 p2, .int .i64 a1, .int .i64 a2, .int .i64 g, .int .i64 ep, .int .i64 rc, .slice A n c] := by
    rw [hw4, hw3, hw2, hw1]; exact (((Whole.fresh w _ [.int .i64 p1, .int .i64 p2, .int .i64 a1, .int .i64 a2, .int .i64 g, .int .i64 ep, .int .i64 rc, .slice A n c]).alloc _).alloc _).alloc _
  have hY : Whole w4 (w.heap.size + 1) 32 [.int .i64 b1, .int .i64 b2] := by
    rw [hw4, hw3, hw2, ← hs1]; exact ((Whole.fresh w1 _ [_, _]).alloc _).alloc _
  have hU : Whole w4 (w.heap.size + 1 + 1) 35 [.int .i64 s1, .int .i64 s2, .int .i64 s3, .slice B m d] := by
    rw [hw4, hw3, ← hs2]; exact (Whole.fresh w2 _ [_, _, _, _]).alloc _
  have hZ : Whole w4 (w.heap.size + 1 + 1 + 1) 37 [.int .i64 0, .int .i64 0, .int .i64 0, .int .i64 0, .int .i64 0, .int .i64 0, .int .i64 0, .slice none 0 0] := by
    rw [hw4, ← hs3]; exact Whole.fresh w3 _ [.int .i64 0, .int .i64 0, .int .i64 0, .int .i64 0, .int .i64 0, .int .i64 0, .int .i64 0, .slice none 0 0]
  have hb4 : Below w.heap.size w w4 := by
    rw [hw4, hw3, hw2, hw1]; exact ((((Below.refl _ w).alloc (Nat.le_refl _) _).alloc (by simp) _).alloc (by simp; omega) _).alloc (by simp; omega) _
  have HX := Lib.hid hX; clear hX
  have HY := Lib.hid hY; clear hY
  have HU := Lib.hid hU; clear hU
  have HZ := Lib.hid hZ; clear hZ
  have HB4 := Lib.hid hb4; clear hb4
  have HS4 := Lib.hid hs4; clear hs4
  go_enter Try.func25, Try.ntmps25
  go_wp2_with fail
  rw [← hw1, ← hw2, ← hw3, ← hw4]
  refine (HL.out w4).mono ?_
  rintro e w5 ⟨rfl, hb5⟩
  have hX5 := HX.out.below hb5 (by have := HS4.out; omega)
  have hY5 := HY.out.below hb5 (by have := HS4.out; omega)
  have hU5 := HU.out.below hb5 (by have := HS4.out; omega)
  have hZ5 := HZ.out.below hb5 (by have := HS4.out; omega)
  have HB5 := Lib.hid (HB4.out.trans (hb5.mono (by have := HS4.out; omega)))
  clear hb5 hw1 hw2 hw3 hw4 hs1 hs2 hs3
  cases r with
  | true =>
    have x0 := hX5.cell 0 _ rfl
    have x1 := hX5.cell 1 _ rfl
    have x2 := hX5.cell 2 _ rfl
    have x3 := hX5.cell 3 _ rfl
    have x4 := hX5.cell 4 _ rfl
    have x5 := hX5.cell 5 _ rfl
    have x6 := hX5.cell 6 _ rfl
    have x7 := hX5.cell 7 _ rfl
    have z0 := hZ5.cell 0 _ rfl
    have z1 := hZ5.cell 1 _ rfl
    have z2 := hZ5.cell 2 _ rfl
    have z3 := hZ5.cell 3 _ rfl
    have z4 := hZ5.cell 4 _ rfl
    have z5 := hZ5.cell 5 _ rfl
    have z6 := hZ5.cell 6 _ rfl
    have z7 := hZ5.cell 7 _ rfl
    have f0 := hZ5.frozen 0
    have f1 := hZ5.frozen 1
    have f2 := hZ5.frozen 2
    have f3 := hZ5.frozen 3
    have f4 := hZ5.frozen 4
    have f5 := hZ5.frozen 5
    have f6 := hZ5.frozen 6
    have f7 := hZ5.frozen 7
    have HZ5 := Lib.hid hZ5
    clear hX5 hY5 hU5 hZ5
    go_wp2_with fail
    have hZ8 := ((((((((HZ5.out.put 0 (.int .i64 p1)).put 1 (.int .i64 p2)).put 2 (.int .i64 a1)).put 3 (.int .i64 a2)).put 4 (.int .i64 g)).put 5 (.int .i64 ep)).put 6 (.int .i64 rc)).put 7 (.slice A n c))
    simp only [List.set] at hZ8
    have R0 := hZ8.cell 0 _ rfl
    have R1 := hZ8.cell 1 _ rfl
    have R2 := hZ8.cell 2 _ rfl
    have R3 := hZ8.cell 3 _ rfl
    have R4 := hZ8.cell 4 _ rfl
    have R5 := hZ8.cell 5 _ rfl
    have R6 := hZ8.cell 6 _ rfl
    have R7 := hZ8.cell 7 _ rfl
    exact bodyPost_ret (v := .tuple #[.agg #[.int .i64 p1, .int .i64 p2, .int .i64 a1, .int .i64 a2, .int .i64 g, .int .i64 ep, .int .i64 rc, .slice A n c], .bool false]) (by simp [results, Try.results25, go_sem, R0, R1, R2, R3, R4, R5, R6, R7]) rfl ⟨rfl, by (repeat (refine Below.setCell ?_ (by simp; try omega) _)); exact HB5.out⟩
  | false =>
    have y0 := hY5.cell 0 _ rfl
    have y1 := hY5.cell 1 _ rfl
    have u0 := hU5.cell 0 _ rfl
    have u1 := hU5.cell 1 _ rfl
    have u2 := hU5.cell 2 _ rfl
    have u3 := hU5.cell 3 _ rfl
    have z0 := hZ5.cell 0 _ rfl
    have z1 := hZ5.cell 1 _ rfl
    have z2 := hZ5.cell 2 _ rfl
    have z3 := hZ5.cell 3 _ rfl
    have z4 := hZ5.cell 4 _ rfl
    have z5 := hZ5.cell 5 _ rfl
    have z6 := hZ5.cell 6 _ rfl
    have z7 := hZ5.cell 7 _ rfl
    have f0 := hZ5.frozen 0
    have f1 := hZ5.frozen 1
    have f2 := hZ5.frozen 2
    have f3 := hZ5.frozen 3
    have f4 := hZ5.frozen 4
    have f5 := hZ5.frozen 5
    have f6 := hZ5.frozen 6
    have f7 := hZ5.frozen 7
    have HZ5 := Lib.hid hZ5
    clear hX5 hY5 hU5 hZ5
    go_wp2_with fail
    have hZ8 := ((((((((HZ5.out.put 0 (.int .i64 b1)).put 1 (.int .i64 b2)).put 2 (.int .i64 b1)).put 3 (.int .i64 b2)).put 4 (.int .i64 s1)).put 5 (.int .i64 s2)).put 6 (.int .i64 s3)).put 7 (.slice B m d))
    simp only [List.set] at hZ8
    have R0 := hZ8.cell 0 _ rfl
    have R1 := hZ8.cell 1 _ rfl
    have R2 := hZ8.cell 2 _ rfl
    have R3 := hZ8.cell 3 _ rfl
    have R4 := hZ8.cell 4 _ rfl
    have R5 := hZ8.cell 5 _ rfl
    have R6 := hZ8.cell 6 _ rfl
    have R7 := hZ8.cell 7 _ rfl
    exact bodyPost_ret (v := .tuple #[.agg #[.int .i64 b1, .int .i64 b2, .int .i64 b1, .int .i64 b2, .int .i64 s1, .int .i64 s2, .int .i64 s3, .slice B m d], .bool true]) (by simp [results, Try.results25, go_sem, R0, R1, R2, R3, R4, R5, R6, R7]) rfl ⟨rfl, by (repeat (refine Below.setCell ?_ (by simp; try omega) _)); exact HB5.out⟩
end Go.Proofs.Ythoheikbpihflaa

/- The reference's PutState, GetState. The reference of ballots: Encode. The program's ballots: ballots as bytes, Encode. -/
import Derived.Test.YtjmojlhebjbgaaaFah
import Derived.Test.YtjmojlhebjbgaaaFaf
import Derived.Test.YtjmojlhebjbgaaaFag
namespace Go.Proofs.Ytjmojlhebjbgaaa
open Go.RowKit
attribute [local go_sem] less_eq same_eq le_eq ge_eq gt_eq

set_option maxHeartbeats 2000000 in
set_option maxRecDepth 100000 in
theorem rputS_bad (x : Sta) (hs : ¬ soundS x) (_hr : x.gen < 9223372036854775808 ∧ x.epoch < 9223372036854775808 ∧ x.recd < 9223372036854775808) (hft : x.chests.length < 4611686018427387904) (v : Value) (w : World) (hv : RdI w w.heap.size v x.chests) :
    Calls Try.prog 31 #[sval x v] w fun e w' => e = .returned (.tuple #[.slice none 0 0, .int .i64 2]) ∧ Below w.heap.size w w' := by
  have hb1 : Below w.heap.size w (w.alloc (.cells #[.int .i64 x.gen, .int .i64 x.epoch, .int .i64 x.recd, v] 29)) := (Below.refl _ _).alloc (Nat.le_refl _) _
  have hsnd := rsoundS_any x hft v (w.alloc (.cells #[.int .i64 x.gen, .int .i64 x.epoch, .int .i64 x.recd, v] 29)) (hv.next hb1)
  have HV1 := Lib.hid (Whole.fresh w 29 [.int .i64 x.gen, .int .i64 x.epoch, .int .i64 x.recd, v])
  have HB1 := Lib.hid hb1; clear hb1
  have HVB := Lib.hid hv
  obtain ⟨A2, cc2, hvv2, _, _⟩ := hv.at
  subst hvv2
  clear hv
  unfold sval at hsnd ⊢
  rw [decide_eq_false hs] at hsnd
  have HSND := Lib.hid hsnd; clear hsnd
  go_enter Try.func31, Try.ntmps31
  go_wp2_with fail
  refine HSND.out.mono ?_
  rintro e w2 ⟨rfl, hb2⟩
  have HB2 := Lib.hid (HB1.out.trans (hb2.mono (by simp))); clear hb2
  go_wp2_with fail
  go_ret2
  exact ⟨rfl, HB2.out⟩

set_option maxHeartbeats 8000000 in
set_option maxRecDepth 100000 in
theorem rputS_ok (x : Sta) (hs : soundS x) (hr : x.gen < 9223372036854775808 ∧ x.epoch < 9223372036854775808 ∧ x.recd < 9223372036854775808) (hft : x.chests.length < 4611686018427387904) (v : Value) (w : World) (hv : RdI w w.heap.size v x.chests) :
    Calls Try.prog 31 #[sval x v] w fun e w' => ∃ v', e = .returned (.tuple #[v', .int .i64 0]) ∧ RdB w' w'.heap.size v' (staB x) ∧ Below w.heap.size w w' := by
  have hb1 : Below w.heap.size w (w.alloc (.cells #[.int .i64 x.gen, .int .i64 x.epoch, .int .i64 x.recd, v] 29)) := (Below.refl _ _).alloc (Nat.le_refl _) _
  have hsnd := rsoundS_any x hft v (w.alloc (.cells #[.int .i64 x.gen, .int .i64 x.epoch, .int .i64 x.recd, v] 29)) (hv.next hb1)
  have HV1 := Lib.hid (Whole.fresh w 29 [.int .i64 x.gen, .int .i64 x.epoch, .int .i64 x.recd, v])
  have HB1 := Lib.hid hb1; clear hb1
  have HVB := Lib.hid hv
  obtain ⟨A2, cc2, hvv2, _, _⟩ := hv.at
  subst hvv2
  clear hv
  unfold sval at hsnd ⊢
  rw [decide_eq_true hs] at hsnd
  have HSND := Lib.hid hsnd; clear hsnd
  have hin : staB x = ([] ++ encs [x.gen, x.epoch, x.recd, (x.chests.length : Int)]) ++ encs x.chests := by simp [staB]
  have hs2 := hs
  obtain ⟨⟨s1, s2, s3⟩, s4, s5⟩ := hs2
  obtain ⟨r1, r2, r3⟩ := hr
  have hrng : ∀ n ∈ [x.gen, x.epoch, x.recd, (x.chests.length : Int)], 0 ≤ n ∧ n < 9223372036854775808 := by
    simp only [List.mem_cons, List.not_mem_nil, or_false, forall_eq_or_imp, forall_eq]
    omega
  have hr2 : ∀ n ∈ x.chests, 0 ≤ n ∧ n < 9223372036854775808 := fun n h => by have := s5 n h; omega
  have hel := encs_len [x.gen, x.epoch, x.recd, (x.chests.length : Int)] (fun n h => (hrng n h).2)
  have h1l : ([] ++ encs [x.gen, x.epoch, x.recd, (x.chests.length : Int)]).length ≤ 36 := by simpa using hel
  have hnum := fun (v : Value) (W : World) (base : Nat) (h1 : OwnB W base (.slice none ([] : List UInt8).length 0) []) (h2 : base ≤ W.heap.size) (h3 : RdI W base v [x.gen, x.epoch, x.recd, (x.chests.length : Int)]) => rnums5_any [x.gen, x.epoch, x.recd, (x.chests.length : Int)] hrng (by simp) v [] none 0 W base h1 h2 h3 (by simp)
  generalize [] ++ encs [x.gen, x.epoch, x.recd, (x.chests.length : Int)] = L1 at hin hnum h1l
  have hlast := fun (A : Option Addr) (c : Nat) (W : World) (base : Nat) (h1 : OwnB W base (.slice A L1.length c) L1) (h2 : base ≤ W.heap.size) (h3 : RdI W base (.slice A2 x.chests.length cc2) x.chests) => rnums5_any x.chests hr2 (by omega) (.slice A2 x.chests.length cc2) L1 A c W base h1 h2 h3 (by omega)
  generalize L1 ++ encs x.chests = L3 at hin hlast
  simp only [List.length_nil] at hnum
  have HNUM := Lib.hid hnum
  have HLAST := Lib.hid hlast
  have HIN := Lib.hid hin
  clear hnum hlast hin hel h1l hr2 hrng hs s1 s2 s3 s4 s5 r1 r2 r3 hft
  go_enter Try.func31, Try.ntmps31
  go_wp2_with fail
  refine HSND.out.mono ?_
  rintro e w0 ⟨rfl, hb2⟩
  have hV0 := HV1.out.below hb2 (by simp)
  have hbw : Below w.heap.size w w0 := HB1.out.trans (hb2.mono (by simp))
  have HV0 := Lib.hid hV0; clear hV0
  have HBW := Lib.hid hbw; clear hbw hb2
  have hlt0 : w.heap.size < w0.heap.size := HV0.out.size
  go_wp2_with fail
  have HC := Lib.hid (fun W (hW : Below w0.heap.size w0 W) => HV0.out.below hW hlt0)
  refine wp_region_planT (fun W => Below w0.heap.size w0 W) (.take 0 (.take 1 (.take 2 (.take 3 (.take 4 (.take 5 (.take 6 (.take 7 (.take 8 (.take 11 (.take 12 (.step 9 (.step 10 (.step 13 (.take 14 (.take 15 .done)))))))))))))))) (by kernel_rfl) (by kernel_rfl) (fun _ _ d _ _ h => by cases d <;> exact h) ((Below.refl _ _).drew) ?_
  have hS1 : Below w0.heap.size w0 w0.drew := (Below.refl _ _).drew
  generalize w0.drew = w1 at hS1 ⊢
  refine PlanT.takeI (v := ?_) rfl rfl ?_ ?_; rotate_left; (focus (intro W hW; have hC := HC.out W hW; have k0 := hC.cell 0 _ rfl; have k1 := hC.cell 1 _ rfl; have k2 := hC.cell 2 _ rfl; have k3 := hC.cell 3 _ rfl; go_simp; (try with_reducible rfl); done)); (try simp only [Act.put, List.setIfInBounds_toArray, List.set_cons_zero, List.set_cons_succ])
  refine PlanT.takeI (v := ?_) rfl rfl ?_ ?_; rotate_left; (focus (intro W hW; have hC := HC.out W hW; have k0 := hC.cell 0 _ rfl; have k1 := hC.cell 1 _ rfl; have k2 := hC.cell 2 _ rfl; have k3 := hC.cell 3 _ rfl; go_simp; (try with_reducible rfl); done)); (try simp only [Act.put, List.setIfInBounds_toArray, List.set_cons_zero, List.set_cons_succ])
  refine PlanT.takeI (v := ?_) rfl rfl ?_ ?_; rotate_left; (focus (intro W hW; have hC := HC.out W hW; have k0 := hC.cell 0 _ rfl; have k1 := hC.cell 1 _ rfl; have k2 := hC.cell 2 _ rfl; have k3 := hC.cell 3 _ rfl; go_simp; (try with_reducible rfl); done)); (try simp only [Act.put, List.setIfInBounds_toArray, List.set_cons_zero, List.set_cons_succ])
  refine PlanT.takeI (v := ?_) rfl rfl ?_ ?_; rotate_left; (focus (intro W hW; have hC := HC.out W hW; have k0 := hC.cell 0 _ rfl; have k1 := hC.cell 1 _ rfl; have k2 := hC.cell 2 _ rfl; have k3 := hC.cell 3 _ rfl; go_simp; (try with_reducible rfl); done)); (try simp only [Act.put, List.setIfInBounds_toArray, List.set_cons_zero, List.set_cons_succ])
  refine PlanT.takeI (v := ?_) rfl rfl ?_ ?_; rotate_left; (focus (intro W hW; have hC := HC.out W hW; have k0 := hC.cell 0 _ rfl; have k1 := hC.cell 1 _ rfl; have k2 := hC.cell 2 _ rfl; have k3 := hC.cell 3 _ rfl; go_simp; (try with_reducible rfl); done)); (try simp only [Act.put, List.setIfInBounds_toArray, List.set_cons_zero, List.set_cons_succ])
  refine PlanT.takeI (v := ?_) rfl rfl ?_ ?_; rotate_left; (focus (intro W hW; have hC := HC.out W hW; have k0 := hC.cell 0 _ rfl; have k1 := hC.cell 1 _ rfl; have k2 := hC.cell 2 _ rfl; have k3 := hC.cell 3 _ rfl; go_simp; (try with_reducible rfl); done)); (try simp only [Act.put, List.setIfInBounds_toArray, List.set_cons_zero, List.set_cons_succ])
  refine PlanT.takeI (v := ?_) rfl rfl ?_ ?_; rotate_left; (focus (intro W hW; have hC := HC.out W hW; have k0 := hC.cell 0 _ rfl; have k1 := hC.cell 1 _ rfl; have k2 := hC.cell 2 _ rfl; have k3 := hC.cell 3 _ rfl; go_simp; (try with_reducible rfl); done)); (try simp only [Act.put, List.setIfInBounds_toArray, List.set_cons_zero, List.set_cons_succ])
  refine PlanT.takeI (v := ?_) rfl rfl ?_ ?_; rotate_left; (focus (intro W hW; have hC := HC.out W hW; have k0 := hC.cell 0 _ rfl; have k1 := hC.cell 1 _ rfl; have k2 := hC.cell 2 _ rfl; have k3 := hC.cell 3 _ rfl; go_simp; (try with_reducible rfl); done)); (try simp only [Act.put, List.setIfInBounds_toArray, List.set_cons_zero, List.set_cons_succ])
  refine PlanT.takeI (v := ?_) rfl rfl ?_ ?_; rotate_left; (focus (intro W hW; have hC := HC.out W hW; have k0 := hC.cell 0 _ rfl; have k1 := hC.cell 1 _ rfl; have k2 := hC.cell 2 _ rfl; have k3 := hC.cell 3 _ rfl; go_simp; (try with_reducible rfl); done)); (try simp only [Act.put, List.setIfInBounds_toArray, List.set_cons_zero, List.set_cons_succ])
  refine PlanT.takeI (v := ?_) rfl rfl ?_ ?_; rotate_left; (focus (intro W hW; have hC := HC.out W hW; have k0 := hC.cell 0 _ rfl; have k1 := hC.cell 1 _ rfl; have k2 := hC.cell 2 _ rfl; have k3 := hC.cell 3 _ rfl; go_simp; (try with_reducible rfl); done)); (try simp only [Act.put, List.setIfInBounds_toArray, List.set_cons_zero, List.set_cons_succ])
  refine PlanT.takeI (v := ?_) rfl rfl ?_ ?_; rotate_left; (focus (intro W hW; have hC := HC.out W hW; have k0 := hC.cell 0 _ rfl; have k1 := hC.cell 1 _ rfl; have k2 := hC.cell 2 _ rfl; have k3 := hC.cell 3 _ rfl; go_simp; (try with_reducible rfl); done)); (try simp only [Act.put, List.setIfInBounds_toArray, List.set_cons_zero, List.set_cons_succ])
  refine wpOp_stepT rfl rfl (fun Kk hK => ?_)
  go_simp
  obtain ⟨w2, hw2⟩ : ∃ W, W = w1.alloc (.cells #[.int .i64 x.gen, .int .i64 x.epoch, .int .i64 x.recd, .int .i64 (x.chests.length : Int)] 3) := ⟨_, rfl⟩
  have hi2 : RdI w2 w2.heap.size (.slice (some ⟨w1.heap.size, 0, none⟩) 4 4) [x.gen, x.epoch, x.recd, (x.chests.length : Int)] := by rw [hw2, World.size_alloc]; exact RdI.lit _ [x.gen, x.epoch, x.recd, (x.chests.length : Int)]
  have hS2 : Below w0.heap.size w0 w2 := by rw [hw2]; exact hS1.alloc hS1.size _
  rw [← hw2]
  clear hw2
  refine hK.out _ _ hS2 ?_
  clear hK Kk hS1
  have hn := HNUM.out _ w2 w2.heap.size (Own.nil _ _) (Nat.le_refl _) hi2
  generalize w1.heap.size = g1 at hn ⊢
  have HN := Lib.hid hn
  clear hn hi2
  refine wpOp_stepT rfl rfl (fun Kk hK => ?_)
  go_simp
  go_at_call 42
  refine HN.out.mono ?_
  rintro e w3 ⟨A3, c3, rfl, ho3, hb3, hs3⟩
  have hS3 : Below w0.heap.size w0 w3 := hS2.trans (hb3.mono hS2.size)
  refine hK.out _ _ hS3 ?_
  clear hK Kk HN
  have hvv := ((HVB.out.below HBW.out (Nat.le_refl _)).below hS3 (by omega)).mono (show w.heap.size ≤ w2.heap.size by have := hS2.size; omega)
  have hlast := HLAST.out A3 c3 w3 w2.heap.size ho3 hs3 hvv
  have HLA := Lib.hid hlast
  clear hlast hvv ho3
  refine wpOp_stepT rfl rfl (fun Kk hK => ?_)
  go_simp
  go_at_call 42
  refine HLA.out.mono ?_
  rintro e w4 ⟨A4, c4, rfl, ho4, hb4, hs4⟩
  have hS4 : Below w0.heap.size w0 w4 := hS3.trans (hb4.mono hS2.size)
  refine hK.out _ _ hS4 ?_
  clear hK Kk HLA
  refine PlanT.takeI (v := ?_) rfl rfl ?_ ?_; rotate_left; (focus (intro W hW;  go_simp; (try with_reducible rfl); done)); (try simp only [Act.put, List.setIfInBounds_toArray, List.set_cons_zero, List.set_cons_succ])
  refine PlanT.takeI (v := ?_) rfl rfl ?_ ?_; rotate_left; (focus (intro W hW;  go_simp; (try with_reducible rfl); done)); (try simp only [Act.put, List.setIfInBounds_toArray, List.set_cons_zero, List.set_cons_succ])
  simp only [PlanT]
  have HO4 := Lib.hid ho4
  have HBF := Lib.hid (show Below w.heap.size w w4 from HBW.out.trans (hS4.mono (by omega)))
  clear ho4 hS4 hb4 hs4 hS3 hb3 hs3 hS2
  go_wp2_with fail
  go_ret2
  exact ⟨_, rfl, by rw [HIN.out]; exact HO4.out.rdB, HBF.out⟩

set_option maxHeartbeats 16000000 in
set_option maxRecDepth 100000 in
theorem rgetSO (l : List UInt8) (v : Value) (w : World) (hv : RdB w w.heap.size v l) (hl : l.length < 4611686018427387904) :
    Calls Try.prog 35 #[v] w fun e w' => ∃ v', e = .returned (.tuple #[sval (getSta l).1 v', .int .i64 (getSta l).2]) ∧ OwnI w' w.heap.size v' (getSta l).1.chests ∧ Below w.heap.size w w' := by
  obtain ⟨A0, c0, hvv, _, _⟩ := hv.at
  subst hvv
  obtain ⟨w2, hw2⟩ : ∃ w2, w2 = (w.alloc (.cells #[.int .i64 0, .int .i64 0, .int .i64 0, .slice none 0 0] 29)).alloc (.cells #[.slice A0 l.length c0, .bool false] 71) := ⟨_, rfl⟩
  obtain ⟨p, hp⟩ : ∃ p, p = w.heap.size + 1 := ⟨_, rfl⟩
  have hb2 : Below w.heap.size w w2 := by rw [hw2]; exact ((Below.refl _ _).alloc (Nat.le_refl _) _).alloc (by simp) _
  have hV2 : Whole w2 w.heap.size 29 [.int .i64 0, .int .i64 0, .int .i64 0, .slice none 0 0] := by rw [hw2]; exact (Whole.fresh _ _ _).alloc _
  have hR2 : RR w2 p p (some l) := by
    refine ⟨A0, c0, l, ?_, (hv.below hb2 (Nat.le_refl _)).mono (by omega), Nat.le_refl _, hl, fun r hr => by injection hr with hr; exact hr.symm⟩
    have h := Whole.fresh (w.alloc (.cells #[.int .i64 0, .int .i64 0, .int .i64 0, .slice none 0 0] 29)) 71 [.slice A0 l.length c0, .bool false]
    rw [World.size_alloc] at h
    rw [hw2, hp]; exact h
  obtain ⟨R, hD⟩ : ∃ R, R = getSta l := ⟨_, rfl⟩
  rw [← hD]
  unfold getSta rdSta rdList rdCount at hD
  simp only at hD
  have hN1 := fun W base p h => rrnum_any (some l) base p W h
  have hlt1 := rdN_lt (some l)
  generalize rdN (some l) = r1 at hN1 hlt1 hD
  obtain ⟨n1, S1⟩ := r1
  simp only at hN1 hlt1 hD
  have hN2 := fun W base p h => rrnum_any S1 base p W h
  have hlt2 := rdN_lt S1
  generalize rdN S1 = r2 at hN2 hlt2 hD
  obtain ⟨n2, S2⟩ := r2
  simp only at hN2 hlt2 hD
  have hN3 := fun W base p h => rrnum_any S2 base p W h
  have hlt3 := rdN_lt S2
  generalize rdN S2 = r3 at hN3 hlt3 hD
  obtain ⟨n3, S3⟩ := r3
  simp only at hN3 hlt3 hD
  have hN4 := fun W base p h => rrnum_any S3 base p W h
  have hlt4 := rdN_lt S3
  generalize rdN S3 = r4 at hN4 hlt4 hD
  obtain ⟨n4, S4⟩ := r4
  simp only at hN4 hlt4 hD
  have HN1 := Lib.hid hN1
  have HN2 := Lib.hid hN2
  have HN3 := Lib.hid hN3
  have HN4 := Lib.hid hN4
  have HV2 := Lib.hid hV2
  have HB2 := Lib.hid hb2
  have HR2 := Lib.hid hR2
  have HW2 := Lib.hid hw2
  have HP := Lib.hid hp
  have hwp : w.heap.size < p := by omega
  obtain ⟨i0, hi, hz0, hz1, hz2⟩ := info_parts info_int
  have HI0 := Lib.hid hi; clear hi
  have HZ0 := Lib.hid hz0; clear hz0
  have HZ1 := Lib.hid hz1; clear hz1
  have HZ2 := Lib.hid hz2; clear hz2
  obtain ⟨N, rfl⟩ : ∃ N : Nat, n4 = (N : Int) := ⟨n4.toNat, by omega⟩
  have HD := Lib.hid hD
  clear hN1 hN2 hN3 hN4 hD hV2 hb2 hR2 hw2 hp hv hlt1 hlt2 hlt3 hlt4
  go_enter Try.func35, Try.ntmps35
  go_wp2_with fail
  rw [← HW2.out, ← HP.out]
  refine (HN1.out _ _ _ HR2.out).mono ?_
  rintro e a1 ⟨rfl, hr, ho⟩
  have hbo : Below p w2 a1 := ho.low (Nat.le_refl _) (by have := HR2.out.size; omega)
  have hVa := HV2.out.below hbo hwp
  have hBa := HB2.out.trans (hbo.mono (by omega))
  obtain ⟨w3, hw3⟩ : ∃ w3, w3 = a1.alloc (.cells #[.int .i64 n1, .int .i64 0, .int .i64 0, .slice none 0 0] 29) := ⟨_, rfl⟩
  have hba : Below a1.heap.size a1 w3 := by rw [hw3]; exact (Below.refl _ _).alloc (Nat.le_refl _) _
  obtain ⟨G, hG⟩ : ∃ G, G = a1.heap.size := ⟨_, rfl⟩
  have HM3 := Lib.hid (show Whole w3 G 29 [.int .i64 n1, .int .i64 0, .int .i64 0, .slice none 0 0] by rw [hw3, hG]; exact Whole.fresh _ _ _)
  have HV3 := Lib.hid (hVa.below hba hVa.size)
  have HB3 := Lib.hid (hBa.trans (hba.mono (by have := hVa.size; omega)))
  have HR3 := Lib.hid (hr.more hba)
  have hpG : p < G := by rw [hG]; exact hr.size
  have hne : w.heap.size ≠ G := by omega
  have HW3 := Lib.hid hw3
  have HGG := Lib.hid hG
  clear hr ho hbo hVa hBa hba hw3 hG
  go_wp2_with fail
  rw [← HW3.out, ← HGG.out]
  refine (HN2.out _ _ _ HR3.out).mono ?_
  rintro e a2 ⟨rfl, hr, ho⟩
  have hbo : Below p w3 a2 := ho.low (Nat.le_refl _) (by have := HR3.out.size; omega)
  have hMa := HM3.out.grown (row := some p) ho (fun e => by injection e with e; omega)
  have hVa := HV3.out.below hbo hwp
  have hBa := HB3.out.trans (hbo.mono (by omega))
  have q0 := hMa.cell 1 _ rfl
  have g0 := hMa.frozen 1
  obtain ⟨w4, hw4⟩ : ∃ W, W = a2.setCell ⟨G, 1, none⟩ (.int .i64 n2) := ⟨_, rfl⟩
  have HM4 := Lib.hid (show Whole w4 G 29 _ from by rw [hw4]; exact hMa.put 1 (.int .i64 n2))
  have HV4 := Lib.hid (show Whole w4 w.heap.size 29 [.int .i64 0, .int .i64 0, .int .i64 0, .slice none 0 0] from by rw [hw4]; exact hVa.away (p := ⟨G, 1, none⟩) hne _)
  have HB4 := Lib.hid (show Below w.heap.size w w4 from by rw [hw4]; exact hBa.setCell (p := ⟨G, 1, none⟩) (by show w.heap.size ≤ G; omega) _)
  have HR4 := Lib.hid (show RR w4 p p S2 from by rw [hw4]; exact hr.set hpG 1 _)
  have HWW := Lib.hid hw4
  clear hr ho hbo hMa hVa hBa hw4
  go_wp2_with fail
  rw [← HWW.out]
  clear q0 g0 HWW
  refine (HN3.out _ _ _ HR4.out).mono ?_
  rintro e a3 ⟨rfl, hr, ho⟩
  have hbo : Below p w4 a3 := ho.low (Nat.le_refl _) (by have := HR4.out.size; omega)
  have hMa := HM4.out.grown (row := some p) ho (fun e => by injection e with e; omega)
  have hVa := HV4.out.below hbo hwp
  have hBa := HB4.out.trans (hbo.mono (by omega))
  have q0 := hMa.cell 2 _ rfl
  have g0 := hMa.frozen 2
  obtain ⟨w5, hw5⟩ : ∃ W, W = a3.setCell ⟨G, 2, none⟩ (.int .i64 n3) := ⟨_, rfl⟩
  have HM5 := Lib.hid (show Whole w5 G 29 _ from by rw [hw5]; exact hMa.put 2 (.int .i64 n3))
  have HV5 := Lib.hid (show Whole w5 w.heap.size 29 [.int .i64 0, .int .i64 0, .int .i64 0, .slice none 0 0] from by rw [hw5]; exact hVa.away (p := ⟨G, 2, none⟩) hne _)
  have HB5 := Lib.hid (show Below w.heap.size w w5 from by rw [hw5]; exact hBa.setCell (p := ⟨G, 2, none⟩) (by show w.heap.size ≤ G; omega) _)
  have HR5 := Lib.hid (show RR w5 p p S3 from by rw [hw5]; exact hr.set hpG 2 _)
  have HWW := Lib.hid hw5
  clear hr ho hbo hMa hVa hBa hw5
  go_wp2_with fail
  rw [← HWW.out]
  clear q0 g0 HWW
  refine (HN4.out _ _ _ HR5.out).mono ?_
  have hw5p : p < w5.heap.size := HR5.out.size
  have hw5G : G < w5.heap.size := HM5.out.size
  rintro e a4 ⟨rfl, hr, ho⟩
  have hbo : Below p w5 a4 := ho.low (Nat.le_refl _) (by omega)
  have HM6 := Lib.hid (HM5.out.grown (row := some p) ho (fun e => by injection e with e; omega))
  have HV6 := Lib.hid (HV5.out.below hbo hwp)
  have HB6 := Lib.hid (HB5.out.trans (hbo.mono (by omega)))
  have HR6 := Lib.hid hr
  have hag : w5.heap.size ≤ a4.heap.size := ho.size
  clear hr ho hbo
  obtain ⟨g, hg⟩ : ∃ g, g = a4.heap.size := ⟨_, rfl⟩
  have hpg : p < g := by omega
  have hGg : G < g := by omega
  have hwg : w.heap.size < g := by omega
  have HG4 := Lib.hid hg; clear hg hag hw5p hw5G
  by_cases hbig : (16 : Int) < (N : Int)
  · have hd := HD.out
    rw [if_pos (show (N : Int) > ((16 : Nat) : Int) by omega)] at hd
    have hr : R = (zeroS, 2) := by rw [hd]; exact if_neg fun h => by cases h.1
    have HRE := Lib.hid hr; clear hr hd
    go_wp2_with fail
    go_loopw [7] (fun iv wr => iv = .int .i64 0 ∧ wr = a4) (fun _ _ => 0)
    case atStart => exact ⟨rfl, rfl⟩
    case round =>
      obtain ⟨rfl, rfl⟩ := hrel
      have hpos : (0 : Int) < (N : Int) := by omega
      have q0 := HV6.out.cell 0 _ rfl
      have g0 := HV6.out.frozen 0
      have q1 := HV6.out.cell 1 _ rfl
      have g1 := HV6.out.frozen 1
      have q2 := HV6.out.cell 2 _ rfl
      have g2 := HV6.out.frozen 2
      have q3 := HV6.out.cell 3 _ rfl
      have g3 := HV6.out.frozen 3
      go_wp2_with fail
      have hVZ := ((((HV6.out.put 0 (.int .i64 0)).put 1 (.int .i64 0)).put 2 (.int .i64 0)).put 3 (.slice none 0 0))
      have j0 := hVZ.cell 0 _ rfl
      have j1 := hVZ.cell 1 _ rfl
      have j2 := hVZ.cell 2 _ rfl
      have j3 := hVZ.cell 3 _ rfl
      rw [HRE.out]
      refine bodyPost_ret (v := .tuple #[.agg #[.int .i64 0, .int .i64 0, .int .i64 0, .slice none 0 0], .int .i64 2]) (by simp [results, Try.results35, go_sem, j0, j1, j2, j3]) rfl ⟨_, rfl, Own.nil _ _, ((((HB6.out.setCell (Nat.le_refl _) _).setCell (Nat.le_refl _) _).setCell (Nat.le_refl _) _).setCell (Nat.le_refl _) _)⟩
  · have hd := HD.out
    rw [if_neg (show ¬ (N : Int) > ((16 : Nat) : Int) by omega)] at hd
    simp only [Int.toNat_natCast] at hd
    have hN16 : N ≤ 16 := by omega
    have HD2 := Lib.hid hd; clear hd
    go_wp2_with fail
    go_loopw [7] (fun iv wr => ∃ (i : Nat) (A : Option Addr) (c : Nat) (L : List Int), i ≤ N ∧ iv = .int .i64 i ∧ L.length = i ∧ L = repL rdN i S4 ∧ Whole wr G 29 [.int .i64 n1, .int .i64 n2, .int .i64 n3, .slice A i c] ∧ OwnI wr g (.slice A i c) L ∧ RR wr p p (repS rdN i S4) ∧ Whole wr w.heap.size 29 [.int .i64 0, .int .i64 0, .int .i64 0, .slice none 0 0] ∧ Below w.heap.size w wr ∧ g ≤ wr.heap.size) (fun iv _ => N - (intOf iv).toNat)
    case atStart => exact ⟨0, none, 0, [], Nat.zero_le _, rfl, rfl, rfl, HM6.out, Own.nil _ _, HR6.out, HV6.out, HB6.out, by rw [HG4.out]; exact Nat.le_refl _⟩
    case round =>
      obtain ⟨i, A, c, L, hil, rfl, hLl, hL, hM, how, hr, hV, hB, hgs⟩ := hrel
      by_cases hlt : i < N
      · have hL2 : repL rdN (i + 1) S4 = L ++ [(rdN (repS rdN i S4)).1] := by rw [repL, hL]
        have hS2 : repS rdN (i + 1) S4 = (rdN (repS rdN i S4)).2 := rfl
        have hnum := fun W h => rrnum_any (repS rdN i S4) p p W h
        generalize repS rdN i S4 = T0 at hr hL2 hS2 hnum
        generalize (rdN T0).1 = x at hL2 hnum
        generalize (rdN T0).2 = T1 at hS2 hnum
        have HNUM := Lib.hid hnum; clear hnum
        have HL := Lib.hid hL; clear hL
        have HL2 := Lib.hid hL2; clear hL2
        have HS2 := Lib.hid hS2; clear hS2
        have HLL := Lib.hid hLl
        have HMr := Lib.hid hM; clear hM
        have HOr := Lib.hid how; clear how
        have HRr := Lib.hid hr; clear hr
        have HVr := Lib.hid hV; clear hV
        have HBr := Lib.hid hB; clear hB
        have h16 : (N : Int) ≤ 16 := by omega
        go_wp2_with fail
        refine wp_region_planT (fun _ => True) (.take 0 (.take 2 (.fork 1 (.step 3 (.step 4 (.step 5 (.take 6 (.step 7 .done))))) 3 (.fork 1 (.step 4 (.step 5 (.take 6 (.step 7 .done)))) 4 (.step 1 (.step 5 (.take 6 (.step 7 .done)))))))) (by kernel_rfl) (by kernel_rfl) (fun _ _ d _ _ h => by cases d <;> exact h) trivial ?_
        have hM0 : Whole wr.drew G 29 _ := HMr.out
        have hO0 : OwnI wr.drew g (.slice A i c) L := HOr.out
        have hR0 : RR wr.drew p p T0 := HRr.out
        have hV0 : Whole wr.drew w.heap.size 29 _ := HVr.out
        have hB0 : Below w.heap.size w wr.drew := HBr.out.drew
        have hs0 : g ≤ wr.drew.heap.size := hgs
        generalize wr.drew = w0 at hM0 hO0 hR0 hV0 hB0 hs0 ⊢
        refine PlanT.takeI (v := ?_) rfl rfl ?_ ?_; rotate_left; (focus (intro W hW; go_simp; (try with_reducible rfl); done)); (try simp only [Act.put, List.setIfInBounds_toArray, List.set_cons_zero, List.set_cons_succ])
        refine PlanT.takeI (v := ?_) rfl rfl ?_ ?_; rotate_left; (focus (intro W hW; go_simp; (try with_reducible rfl); done)); (try simp only [Act.put, List.setIfInBounds_toArray, List.set_cons_zero, List.set_cons_succ])
        refine ⟨?_, ?_⟩
        · refine wpOp_stepT rfl rfl (fun Kk hK => ?_)
          have kl := hM0.cell 3 _ rfl
          go_simp
          refine hK.out _ _ trivial ?_
          clear hK Kk kl
          (try simp only [Act.put, List.setIfInBounds_toArray, List.set_cons_zero, List.set_cons_succ])
          refine wpOp_stepT rfl rfl (fun Kk hK => ?_)
          go_simp
          go_at_call 34
          refine (HNUM.out _ hR0).mono ?_
          rintro e w1 ⟨rfl, hR1, ho1⟩
          have hbo1 : Below p w0 w1 := ho1.low (Nat.le_refl _) (by omega)
          have hM1 := hM0.grown (row := some p) ho1 (fun e => by injection e with e; omega)
          have hO1 := hO0.only ho1 hpg
          have hV1 := hV0.below hbo1 hwp
          have hB1 := hB0.trans (hbo1.mono (by omega))
          have hs1 : g ≤ w1.heap.size := Nat.le_trans hs0 ho1.size
          refine hK.out _ _ trivial ?_
          clear hK Kk
          refine wpOp_stepT rfl rfl (fun Kk hK => ?_)
          go_simp
          obtain ⟨w2, hw2⟩ : ∃ W, W = w1.alloc (.cells #[.int .i64 x] 3) := ⟨_, rfl⟩
          have hb2 : Below w1.heap.size w1 w2 := by rw [hw2]; exact (Below.refl _ _).alloc (Nat.le_refl _) _
          have hI2 : RdI w2 w2.heap.size (.slice (some ⟨w1.heap.size, 0, none⟩) 1 1) [x] := by rw [hw2, World.size_alloc]; exact RdI.lit _ [x]
          have hM2 := hM1.below hb2 hM1.size
          have hO2 := hO1.below hb2 (Nat.le_refl _)
          have hR2 := hR1.more hb2
          have hV2 := hV1.below hb2 hV1.size
          have hB2 := hB1.trans (hb2.mono (by omega))
          have hs2 : g ≤ w2.heap.size := Nat.le_trans hs1 hb2.size
          rw [← hw2]
          clear hw2
          refine hK.out _ _ trivial ?_
          clear hK Kk
          refine wpOp_stepT rfl rfl (fun Kk hK => ?_)
          refine wp_addAny (enc := encI) (k := 1) 27 3 8 i0 _ Try.underlying27 HI0.out HZ0.out HZ1.out HZ2.out rfl (by decide) encI_len encI_one _ _ rfl g (.slice A i c) L rfl hO2 w2.heap.size _ [x] rfl hI2 (by simp only [List.length_cons, List.length_nil]; unfold maxLen; omega) (by simp only [List.length_cons, List.length_nil]; omega) hs2 ?_
          intro A3 c3 w3 hO3 hg3
          have hob := fun j hj => (hO2.low (i := j) hj).1
          have hM3 := hM2.grown hg3 (hO2.apart hM2 (by decide))
          have hR3 := hR2.kept (B := g) hg3 hob hpg
          have hV3 := hV2.grown hg3 (hO2.apart hV2 (by decide))
          have hB3 := hB2.grown hg3 (by omega) (fun j hj => by have := hob j hj; omega)
          have hs3 : g ≤ w3.heap.size := Nat.le_trans hs2 hg3.size
          have hlen : (L ++ [x]).length = i + 1 := by rw [List.length_append, HLL.out]; rfl
          rw [hlen] at hO3 ⊢
          refine hK.out _ _ trivial ?_
          clear hK Kk
          refine PlanT.takeI (v := ?_) rfl rfl ?_ ?_; rotate_left; (focus (intro W hW; go_simp; (try with_reducible rfl); done)); (try simp only [Act.put, List.setIfInBounds_toArray, List.set_cons_zero, List.set_cons_succ])
          refine wpOp_stepT rfl rfl (fun Kk hK => ?_)
          have kq := hM3.cell 3 _ rfl
          have kf := hM3.frozen 3
          go_simp
          obtain ⟨w4, hw4⟩ : ∃ W, W = w3.setCell ⟨G, 3, none⟩ (.slice A3 (i + 1) c3) := ⟨_, rfl⟩
          rw [← hw4]
          refine hK.out _ _ trivial ?_
          clear hK Kk
          simp only [PlanT]
          have HM8 := Lib.hid (show Whole w4 G 29 [.int .i64 n1, .int .i64 n2, .int .i64 n3, .slice A3 (i + 1) c3] from by rw [hw4]; exact hM3.put 3 (.slice A3 (i + 1) c3))
          have HO8 := Lib.hid (show OwnI w4 g (.slice A3 (i + 1) c3) (L ++ [x]) from by rw [hw4]; exact hO3.put hM3 (by decide) 3 _)
          have HR8 := Lib.hid (show RR w4 p p T1 from by rw [hw4]; exact hR3.set hpG 3 _)
          have HV8 := Lib.hid (show Whole w4 w.heap.size 29 [.int .i64 0, .int .i64 0, .int .i64 0, .slice none 0 0] from by rw [hw4]; exact hV3.away (p := ⟨G, 3, none⟩) hne _)
          have HB8 := Lib.hid (show Below w.heap.size w w4 from by rw [hw4]; exact hB3.setCell (p := ⟨G, 3, none⟩) (by show w.heap.size ≤ G; omega) _)
          have hs8 : g ≤ w4.heap.size := by rw [hw4]; simpa [World.setCell] using hs3
          clear kq kf hw4 hM0 hR0 hV0 hB0 hO0
          go_wp2_with fail
          go_roundw
          case rel => exact ⟨i + 1, A3, c3, L ++ [x], by omega, by go_num, hlen, by rw [HL2.out], HM8.out, HO8.out, by rw [HS2.out]; exact HR8.out, HV8.out, HB8.out, hs8⟩
          case measure => simp [intOf]; omega
        · refine wpOp_stepT rfl rfl (fun Kk hK => ?_)
          go_simp
          go_at_call 34
          refine (HNUM.out _ hR0).mono ?_
          rintro e w1 ⟨rfl, hR1, ho1⟩
          have hbo1 : Below p w0 w1 := ho1.low (Nat.le_refl _) (by omega)
          have hM1 := hM0.grown (row := some p) ho1 (fun e => by injection e with e; omega)
          have hO1 := hO0.only ho1 hpg
          have hV1 := hV0.below hbo1 hwp
          have hB1 := hB0.trans (hbo1.mono (by omega))
          have hs1 : g ≤ w1.heap.size := Nat.le_trans hs0 ho1.size
          refine hK.out _ _ trivial ?_
          clear hK Kk
          refine ⟨?_, ?_⟩
          · refine wpOp_stepT rfl rfl (fun Kk hK => ?_)
            have kl := hM1.cell 3 _ rfl
            go_simp
            refine hK.out _ _ trivial ?_
            clear hK Kk kl
            (try simp only [Act.put, List.setIfInBounds_toArray, List.set_cons_zero, List.set_cons_succ])
            refine wpOp_stepT rfl rfl (fun Kk hK => ?_)
            go_simp
            obtain ⟨w2, hw2⟩ : ∃ W, W = w1.alloc (.cells #[.int .i64 x] 3) := ⟨_, rfl⟩
            have hb2 : Below w1.heap.size w1 w2 := by rw [hw2]; exact (Below.refl _ _).alloc (Nat.le_refl _) _
            have hI2 : RdI w2 w2.heap.size (.slice (some ⟨w1.heap.size, 0, none⟩) 1 1) [x] := by rw [hw2, World.size_alloc]; exact RdI.lit _ [x]
            have hM2 := hM1.below hb2 hM1.size
            have hO2 := hO1.below hb2 (Nat.le_refl _)
            have hR2 := hR1.more hb2
            have hV2 := hV1.below hb2 hV1.size
            have hB2 := hB1.trans (hb2.mono (by omega))
            have hs2 : g ≤ w2.heap.size := Nat.le_trans hs1 hb2.size
            rw [← hw2]
            clear hw2
            refine hK.out _ _ trivial ?_
            clear hK Kk
            refine wpOp_stepT rfl rfl (fun Kk hK => ?_)
            refine wp_addAny (enc := encI) (k := 1) 27 3 8 i0 _ Try.underlying27 HI0.out HZ0.out HZ1.out HZ2.out rfl (by decide) encI_len encI_one _ _ rfl g (.slice A i c) L rfl hO2 w2.heap.size _ [x] rfl hI2 (by simp only [List.length_cons, List.length_nil]; unfold maxLen; omega) (by simp only [List.length_cons, List.length_nil]; omega) hs2 ?_
            intro A3 c3 w3 hO3 hg3
            have hob := fun j hj => (hO2.low (i := j) hj).1
            have hM3 := hM2.grown hg3 (hO2.apart hM2 (by decide))
            have hR3 := hR2.kept (B := g) hg3 hob hpg
            have hV3 := hV2.grown hg3 (hO2.apart hV2 (by decide))
            have hB3 := hB2.grown hg3 (by omega) (fun j hj => by have := hob j hj; omega)
            have hs3 : g ≤ w3.heap.size := Nat.le_trans hs2 hg3.size
            have hlen : (L ++ [x]).length = i + 1 := by rw [List.length_append, HLL.out]; rfl
            rw [hlen] at hO3 ⊢
            refine hK.out _ _ trivial ?_
            clear hK Kk
            refine PlanT.takeI (v := ?_) rfl rfl ?_ ?_; rotate_left; (focus (intro W hW; go_simp; (try with_reducible rfl); done)); (try simp only [Act.put, List.setIfInBounds_toArray, List.set_cons_zero, List.set_cons_succ])
            refine wpOp_stepT rfl rfl (fun Kk hK => ?_)
            have kq := hM3.cell 3 _ rfl
            have kf := hM3.frozen 3
            go_simp
            obtain ⟨w4, hw4⟩ : ∃ W, W = w3.setCell ⟨G, 3, none⟩ (.slice A3 (i + 1) c3) := ⟨_, rfl⟩
            rw [← hw4]
            refine hK.out _ _ trivial ?_
            clear hK Kk
            simp only [PlanT]
            have HM8 := Lib.hid (show Whole w4 G 29 [.int .i64 n1, .int .i64 n2, .int .i64 n3, .slice A3 (i + 1) c3] from by rw [hw4]; exact hM3.put 3 (.slice A3 (i + 1) c3))
            have HO8 := Lib.hid (show OwnI w4 g (.slice A3 (i + 1) c3) (L ++ [x]) from by rw [hw4]; exact hO3.put hM3 (by decide) 3 _)
            have HR8 := Lib.hid (show RR w4 p p T1 from by rw [hw4]; exact hR3.set hpG 3 _)
            have HV8 := Lib.hid (show Whole w4 w.heap.size 29 [.int .i64 0, .int .i64 0, .int .i64 0, .slice none 0 0] from by rw [hw4]; exact hV3.away (p := ⟨G, 3, none⟩) hne _)
            have HB8 := Lib.hid (show Below w.heap.size w w4 from by rw [hw4]; exact hB3.setCell (p := ⟨G, 3, none⟩) (by show w.heap.size ≤ G; omega) _)
            have hs8 : g ≤ w4.heap.size := by rw [hw4]; simpa [World.setCell] using hs3
            clear kq kf hw4 hM0 hR0 hV0 hB0 hO0
            go_wp2_with fail
            go_roundw
            case rel => exact ⟨i + 1, A3, c3, L ++ [x], by omega, by go_num, hlen, by rw [HL2.out], HM8.out, HO8.out, by rw [HS2.out]; exact HR8.out, HV8.out, HB8.out, hs8⟩
            case measure => simp [intOf]; omega
          · refine wpOp_stepT rfl rfl (fun Kk hK => ?_)
            go_simp
            obtain ⟨w2, hw2⟩ : ∃ W, W = w1.alloc (.cells #[.int .i64 x] 3) := ⟨_, rfl⟩
            have hb2 : Below w1.heap.size w1 w2 := by rw [hw2]; exact (Below.refl _ _).alloc (Nat.le_refl _) _
            have hI2 : RdI w2 w2.heap.size (.slice (some ⟨w1.heap.size, 0, none⟩) 1 1) [x] := by rw [hw2, World.size_alloc]; exact RdI.lit _ [x]
            have hM2 := hM1.below hb2 hM1.size
            have hO2 := hO1.below hb2 (Nat.le_refl _)
            have hR2 := hR1.more hb2
            have hV2 := hV1.below hb2 hV1.size
            have hB2 := hB1.trans (hb2.mono (by omega))
            have hs2 : g ≤ w2.heap.size := Nat.le_trans hs1 hb2.size
            rw [← hw2]
            clear hw2
            refine hK.out _ _ trivial ?_
            clear hK Kk
            refine wpOp_stepT rfl rfl (fun Kk hK => ?_)
            have kl := hM2.cell 3 _ rfl
            go_simp
            refine hK.out _ _ trivial ?_
            clear hK Kk kl
            (try simp only [Act.put, List.setIfInBounds_toArray, List.set_cons_zero, List.set_cons_succ])
            refine wpOp_stepT rfl rfl (fun Kk hK => ?_)
            refine wp_addAny (enc := encI) (k := 1) 27 3 8 i0 _ Try.underlying27 HI0.out HZ0.out HZ1.out HZ2.out rfl (by decide) encI_len encI_one _ _ rfl g (.slice A i c) L rfl hO2 w2.heap.size _ [x] rfl hI2 (by simp only [List.length_cons, List.length_nil]; unfold maxLen; omega) (by simp only [List.length_cons, List.length_nil]; omega) hs2 ?_
            intro A3 c3 w3 hO3 hg3
            have hob := fun j hj => (hO2.low (i := j) hj).1
            have hM3 := hM2.grown hg3 (hO2.apart hM2 (by decide))
            have hR3 := hR2.kept (B := g) hg3 hob hpg
            have hV3 := hV2.grown hg3 (hO2.apart hV2 (by decide))
            have hB3 := hB2.grown hg3 (by omega) (fun j hj => by have := hob j hj; omega)
            have hs3 : g ≤ w3.heap.size := Nat.le_trans hs2 hg3.size
            have hlen : (L ++ [x]).length = i + 1 := by rw [List.length_append, HLL.out]; rfl
            rw [hlen] at hO3 ⊢
            refine hK.out _ _ trivial ?_
            clear hK Kk
            refine PlanT.takeI (v := ?_) rfl rfl ?_ ?_; rotate_left; (focus (intro W hW; go_simp; (try with_reducible rfl); done)); (try simp only [Act.put, List.setIfInBounds_toArray, List.set_cons_zero, List.set_cons_succ])
            refine wpOp_stepT rfl rfl (fun Kk hK => ?_)
            have kq := hM3.cell 3 _ rfl
            have kf := hM3.frozen 3
            go_simp
            obtain ⟨w4, hw4⟩ : ∃ W, W = w3.setCell ⟨G, 3, none⟩ (.slice A3 (i + 1) c3) := ⟨_, rfl⟩
            rw [← hw4]
            refine hK.out _ _ trivial ?_
            clear hK Kk
            simp only [PlanT]
            have HM8 := Lib.hid (show Whole w4 G 29 [.int .i64 n1, .int .i64 n2, .int .i64 n3, .slice A3 (i + 1) c3] from by rw [hw4]; exact hM3.put 3 (.slice A3 (i + 1) c3))
            have HO8 := Lib.hid (show OwnI w4 g (.slice A3 (i + 1) c3) (L ++ [x]) from by rw [hw4]; exact hO3.put hM3 (by decide) 3 _)
            have HR8 := Lib.hid (show RR w4 p p T1 from by rw [hw4]; exact hR3.set hpG 3 _)
            have HV8 := Lib.hid (show Whole w4 w.heap.size 29 [.int .i64 0, .int .i64 0, .int .i64 0, .slice none 0 0] from by rw [hw4]; exact hV3.away (p := ⟨G, 3, none⟩) hne _)
            have HB8 := Lib.hid (show Below w.heap.size w w4 from by rw [hw4]; exact hB3.setCell (p := ⟨G, 3, none⟩) (by show w.heap.size ≤ G; omega) _)
            have hs8 : g ≤ w4.heap.size := by rw [hw4]; simpa [World.setCell] using hs3
            clear kq kf hw4 hM0 hR0 hV0 hB0 hO0
            go_wp2_with fail
            go_roundw
            case rel => exact ⟨i + 1, A3, c3, L ++ [x], by omega, by go_num, hlen, by rw [HL2.out], HM8.out, HO8.out, by rw [HS2.out]; exact HR8.out, HV8.out, HB8.out, hs8⟩
            case measure => simp [intOf]; omega
      · obtain rfl : i = N := by omega
        have hd := HD2.out
        rw [← hL] at hd
        generalize repS rdN i S4 = T at hr hd
        have hsd := fun (W : World) (v : Value) (h : RdI W W.heap.size v L) => rsoundS_any ⟨n1, n2, n3, L⟩ (by simp only; omega) v W h
        obtain ⟨D2, hD2⟩ : ∃ D2, D2 = decide (soundS ⟨n1, n2, n3, L⟩) := ⟨_, rfl⟩
        rw [← hD2] at hsd
        simp only [sval] at hsd
        have hyes : T = some [] → D2 = true → R = (⟨n1, n2, n3, L⟩, 0) := fun h1 h2 => by rw [hd, if_pos ⟨h1, of_decide_eq_true (hD2 ▸ h2)⟩]
        have hno : ¬ (T = some [] ∧ D2 = true) → R = (zeroS, 2) := fun h => by rw [hd, if_neg fun h' => h ⟨h'.1, by rw [hD2]; exact decide_eq_true h'.2⟩]
        have HYES := Lib.hid hyes
        have HNO := Lib.hid hno
        have HSD := Lib.hid hsd
        have HM6' := Lib.hid hM
        have HV6' := Lib.hid hV
        have HB6' := Lib.hid hB
        have HOW6 := Lib.hid how
        have HLL := Lib.hid hLl
        obtain ⟨AB, cB, lB, hwB, _, _, _, hSB⟩ := hr
        have b0 := hwB.cell 0 _ rfl
        have b1 := hwB.cell 1 _ rfl
        have n16 : ¬ (16 : Int) < (i : Int) := by omega
        clear hyes hno hsd hd hD2 hL hM hV hB how hwB hLl
        cases T with
        | none =>
          have HRE := Lib.hid (HNO.out (fun h => by cases h.1))
          simp only [Option.isNone_none] at b1
          have q0 := HV6'.out.cell 0 _ rfl
          have g0 := HV6'.out.frozen 0
          have q1 := HV6'.out.cell 1 _ rfl
          have g1 := HV6'.out.frozen 1
          have q2 := HV6'.out.cell 2 _ rfl
          have g2 := HV6'.out.frozen 2
          have q3 := HV6'.out.cell 3 _ rfl
          have g3 := HV6'.out.frozen 3
          go_wp2_with fail
          have hVZ := ((((HV6'.out.put 0 (.int .i64 0)).put 1 (.int .i64 0)).put 2 (.int .i64 0)).put 3 (.slice none 0 0))
          have j0 := hVZ.cell 0 _ rfl
          have j1 := hVZ.cell 1 _ rfl
          have j2 := hVZ.cell 2 _ rfl
          have j3 := hVZ.cell 3 _ rfl
          rw [HRE.out]
          refine bodyPost_ret (v := .tuple #[.agg #[.int .i64 0, .int .i64 0, .int .i64 0, .slice none 0 0], .int .i64 2]) (by simp [results, Try.results35, go_sem, j0, j1, j2, j3]) rfl ⟨_, rfl, Own.nil _ _, ((((HB6'.out.setCell (Nat.le_refl _) _).setCell (Nat.le_refl _) _).setCell (Nat.le_refl _) _).setCell (Nat.le_refl _) _)⟩
        | some Rr =>
          simp only [Option.isNone_some] at b1
          obtain rfl := hSB Rr rfl
          cases Rr with
          | cons x1 x2 =>
            have HRE := Lib.hid (HNO.out (fun h => by have := h.1; simp at this))
            simp only [List.length_cons] at b0
            have hpos : (0 : Int) < (x2.length : Int) + 1 := by omega
            have q0 := HV6'.out.cell 0 _ rfl
            have g0 := HV6'.out.frozen 0
            have q1 := HV6'.out.cell 1 _ rfl
            have g1 := HV6'.out.frozen 1
            have q2 := HV6'.out.cell 2 _ rfl
            have g2 := HV6'.out.frozen 2
            have q3 := HV6'.out.cell 3 _ rfl
            have g3 := HV6'.out.frozen 3
            go_wp2_with fail
            have hVZ := ((((HV6'.out.put 0 (.int .i64 0)).put 1 (.int .i64 0)).put 2 (.int .i64 0)).put 3 (.slice none 0 0))
            have j0 := hVZ.cell 0 _ rfl
            have j1 := hVZ.cell 1 _ rfl
            have j2 := hVZ.cell 2 _ rfl
            have j3 := hVZ.cell 3 _ rfl
            rw [HRE.out]
            refine bodyPost_ret (v := .tuple #[.agg #[.int .i64 0, .int .i64 0, .int .i64 0, .slice none 0 0], .int .i64 2]) (by simp [results, Try.results35, go_sem, j0, j1, j2, j3]) rfl ⟨_, rfl, Own.nil _ _, ((((HB6'.out.setCell (Nat.le_refl _) _).setCell (Nat.le_refl _) _).setCell (Nat.le_refl _) _).setCell (Nat.le_refl _) _)⟩
          | nil =>
            simp only [List.length_nil] at b0
            have hsc := HSD.out wr _ (Own.rd encI_len HOW6.out)
            have HSC := Lib.hid hsc; clear hsc
            have k0 := HM6'.out.cell 0 _ rfl
            have k1 := HM6'.out.cell 1 _ rfl
            have k2 := HM6'.out.cell 2 _ rfl
            have k3 := HM6'.out.cell 3 _ rfl
            go_wp2_with fail
            clear k0 k1 k2 k3 b0 b1
            refine HSC.out.mono ?_
            rintro e w7 ⟨rfl, hb7⟩
            have HV7 := Lib.hid (HV6'.out.below hb7 HV6'.out.size)
            have HB7 := Lib.hid (HB6'.out.trans (hb7.mono (by have := HV6'.out.size; omega)))
            have HM7 := Lib.hid (HM6'.out.below hb7 HM6'.out.size)
            have HOW7 := Lib.hid (HOW6.out.below hb7 (Nat.le_refl _))
            clear hb7
            cases D2 with
            | false =>
              have HRE := Lib.hid (HNO.out (by simp))
              have q0 := HV7.out.cell 0 _ rfl
              have g0 := HV7.out.frozen 0
              have q1 := HV7.out.cell 1 _ rfl
              have g1 := HV7.out.frozen 1
              have q2 := HV7.out.cell 2 _ rfl
              have g2 := HV7.out.frozen 2
              have q3 := HV7.out.cell 3 _ rfl
              have g3 := HV7.out.frozen 3
              go_wp2_with fail
              have hVZ := ((((HV7.out.put 0 (.int .i64 0)).put 1 (.int .i64 0)).put 2 (.int .i64 0)).put 3 (.slice none 0 0))
              have j0 := hVZ.cell 0 _ rfl
              have j1 := hVZ.cell 1 _ rfl
              have j2 := hVZ.cell 2 _ rfl
              have j3 := hVZ.cell 3 _ rfl
              rw [HRE.out]
              refine bodyPost_ret (v := .tuple #[.agg #[.int .i64 0, .int .i64 0, .int .i64 0, .slice none 0 0], .int .i64 2]) (by simp [results, Try.results35, go_sem, j0, j1, j2, j3]) rfl ⟨_, rfl, Own.nil _ _, ((((HB7.out.setCell (Nat.le_refl _) _).setCell (Nat.le_refl _) _).setCell (Nat.le_refl _) _).setCell (Nat.le_refl _) _)⟩
            | true =>
              have HRE := Lib.hid (HYES.out (by simp) (by simp))
              have kk0 := HM7.out.cell 0 _ rfl
              have kk1 := HM7.out.cell 1 _ rfl
              have kk2 := HM7.out.cell 2 _ rfl
              have kk3 := HM7.out.cell 3 _ rfl
              have q0 := HV7.out.cell 0 _ rfl
              have g0 := HV7.out.frozen 0
              have q1 := HV7.out.cell 1 _ rfl
              have g1 := HV7.out.frozen 1
              have q2 := HV7.out.cell 2 _ rfl
              have g2 := HV7.out.frozen 2
              have q3 := HV7.out.cell 3 _ rfl
              have g3 := HV7.out.frozen 3
              go_wp2_with fail
              have hVZ := ((((HV7.out.put 0 (.int .i64 n1)).put 1 (.int .i64 n2)).put 2 (.int .i64 n3)).put 3 (.slice A i c))
              have j0 := hVZ.cell 0 _ rfl
              have j1 := hVZ.cell 1 _ rfl
              have j2 := hVZ.cell 2 _ rfl
              have j3 := hVZ.cell 3 _ rfl
              rw [HRE.out]
              refine bodyPost_ret (v := .tuple #[.agg #[.int .i64 n1, .int .i64 n2, .int .i64 n3, .slice A i c], .int .i64 0]) (by simp [results, Try.results35, go_sem, j0, j1, j2, j3]) rfl ⟨_, rfl, Own.lower (hb := by have h1 := HG4.out; have h2 := HB6.out.size; omega) ((((HOW7.out.put HV7.out (by decide) 0 (.int .i64 n1)).put (HV7.out.put 0 (.int .i64 n1)) (by decide) 1 (.int .i64 n2)).put ((HV7.out.put 0 (.int .i64 n1)).put 1 (.int .i64 n2)) (by decide) 2 (.int .i64 n3)).put (((HV7.out.put 0 (.int .i64 n1)).put 1 (.int .i64 n2)).put 2 (.int .i64 n3)) (by decide) 3 (.slice A i c)), ((((HB7.out.setCell (Nat.le_refl _) _).setCell (Nat.le_refl _) _).setCell (Nat.le_refl _) _).setCell (Nat.le_refl _) _)⟩
theorem rgetS (l : List UInt8) (v : Value) (w : World) (hv : RdB w w.heap.size v l) (hl : l.length < 4611686018427387904) :
    Calls Try.prog 35 #[v] w fun e w' => ∃ v', e = .returned (.tuple #[sval (getSta l).1 v', .int .i64 (getSta l).2]) ∧ RdI w' w'.heap.size v' (getSta l).1.chests ∧ Below w.heap.size w w' := by
  refine (rgetSO l v w hv hl).mono ?_
  rintro e w' ⟨v', h1, h2, h3⟩
  exact ⟨v', h1, Own.rd encI_len h2, h3⟩
end Go.Proofs.Ytjmojlhebjbgaaa
namespace Go.Proofs.Ytjmojlhebjbgaaa
open Go.RowKit

theorem staB_len {s : Sta} (h : soundS s) (hf : s.gen < 9223372036854775808 ∧ s.epoch < 9223372036854775808 ∧ s.recd < 9223372036854775808) : (staB s).length ≤ 1000 := by
  obtain ⟨_, h2, h3⟩ := h
  have e1 := encs_len [s.gen, s.epoch, s.recd, (s.chests.length : Int)] (by
    intro n hn
    simp only [List.mem_cons, List.not_mem_nil, or_false] at hn
    omega)
  have e2 := encs_len s.chests (fun n hn => by have := h3 n hn; omega)
  unfold staB
  rw [List.length_append]
  simp only [List.length_cons, List.length_nil] at e1
  omega
theorem encs4_len {a b c d : Int} (h : a < 9223372036854775808 ∧ b < 9223372036854775808 ∧ c < 9223372036854775808 ∧ d < 9223372036854775808) : (encs [a, b, c, d]).length ≤ 36 := by
  have e1 := encs_len [a, b, c, d] (by
    intro n hn
    simp only [List.mem_cons, List.not_mem_nil, or_false] at hn
    omega)
  simpa using e1
theorem nums4 {a b c d : Int} (h : 0 ≤ a ∧ 0 ≤ b ∧ 0 ≤ c ∧ 0 ≤ d) : numsAns [a, b, c, d] = (encs [a, b, c, d], 0) := by
  unfold numsAns
  rw [if_neg (by simp), if_neg (by simp; omega)]

set_option maxHeartbeats 2000000 in
set_option maxRecDepth 100000 in
theorem rencV_any (x : Vw) (hf : x.fits) (hl : x.took.chests.length < 4611686018427387904) (v : Value) (w : World) (hv : RdI w w.heap.size v x.took.chests) :
    Calls Try.prog 21 #[vwv x v] w fun e w' => ∃ v', e = .returned (.tuple #[v', .int .i64 (encV x).2]) ∧ RdB w' w'.heap.size v' (encV x).1 ∧ Below w.heap.size w w' := by
  obtain ⟨w1, hw1⟩ : ∃ w1, w1 = w.alloc (.cells (vcells x v).toArray 31) := ⟨_, rfl⟩
  have hX : Whole w1 w.heap.size 31 (vcells x v) := by rw [hw1]; exact Whole.fresh w _ _
  have hb1 : Below w.heap.size w w1 := by rw [hw1]; exact (Below.refl _ w).alloc (Nat.le_refl _) _
  have hs1 : w1.heap.size = w.heap.size + 1 := by rw [hw1]; simp
  have HS := Lib.hid (rsoundV_any x hl v w1 (hv.next hb1))
  have HRV := Lib.hid (fun W (h : Below w1.heap.size w1 W) => (show RdI W W.heap.size v x.took.chests from ((hv.next hb1).below h (Nat.le_refl _)).mono h.size))
  obtain ⟨A, c, rfl, _, _⟩ := hv.at
  have HX := Lib.hid hX; clear hX
  have HB1 := Lib.hid hb1; clear hb1
  clear hv
  by_cases hs : soundV x
  case neg =>
    rw [decide_eq_false hs] at HS
    unfold encV
    rw [if_neg hs]
    clear hs
    obtain ⟨⟨p1, p2⟩, ⟨a1, a2⟩, ⟨g, ep, rc, ch⟩⟩ := x
    unfold vwv at HS ⊢
    unfold vcells at hw1
    simp only at HS hw1 ⊢
    go_enter Try.func21, Try.ntmps21
    go_wp2_with fail
    rw [← hw1]
    refine HS.out.mono ?_
    rintro e w2 ⟨rfl, hb2⟩
    have HB2 := Lib.hid (HB1.out.trans (hb2.mono (by omega))); clear hb2
    go_wp2_with fail
    go_ret2
    exact ⟨_, rfl, Rd.nil _ _, HB2.out⟩
  rw [decide_eq_true hs] at HS
  have hlen1 := staB_len hs.2.1 hf.2
  have hlen2 := encs4_len hf.1
  have hn4 := nums4 hs.1
  have HPS := Lib.hid (fun W (h : Below w1.heap.size w1 W) => rputS_ok x.took hs.2.1 hf.2 (by omega) (.slice A x.took.chests.length c) W (HRV.out W h))
  have HNU := Lib.hid (fun W v' (h : RdI W W.heap.size v' [x.prom.1, x.prom.2, x.at'.1, x.at'.2]) => rnumsO_any [x.prom.1, x.prom.2, x.at'.1, x.at'.2] (by
    intro n hn
    simp only [List.mem_cons, List.not_mem_nil, or_false] at hn
    have := hf.1
    omega) v' W h (by simp))
  rw [hn4] at HNU
  have hE : encV x = (vowB x, 0) := by unfold encV; rw [if_pos hs]
  unfold vowB at hE
  rw [hE]
  clear hs hn4 hE hf HRV
  generalize staB x.took = L2 at HPS hlen1 ⊢
  generalize encs [x.prom.1, x.prom.2, x.at'.1, x.at'.2] = L1 at HNU hlen2 ⊢
  obtain ⟨⟨p1, p2⟩, ⟨a1, a2⟩, ⟨g, ep, rc, ch⟩⟩ := x
  unfold vwv at HS ⊢
  unfold vcells at hw1 HX
  unfold sval at HPS
  simp only at HS hw1 HX HPS HNU ⊢
  go_enter Try.func21, Try.ntmps21
  go_wp2_with fail
  rw [← hw1]
  refine HS.out.mono ?_
  rintro e w2 ⟨rfl, hb2⟩
  have hX2 := HX.out.below hb2 HX.out.size
  have x0 := hX2.cell 0 _ rfl
  have x1 := hX2.cell 1 _ rfl
  have x2 := hX2.cell 2 _ rfl
  have x3 := hX2.cell 3 _ rfl
  have HB2 := Lib.hid hb2
  have HX2 := Lib.hid hX2
  clear hb2 hX2 hw1
  go_wp2_with fail
  obtain ⟨w3, hw3⟩ : ∃ w3, w3 = w2.alloc (.cells #[.int .i64 p1, .int .i64 p2, .int .i64 a1, .int .i64 a2] 3) := ⟨_, rfl⟩
  have hr3 : RdI w3 w3.heap.size (.slice (some ⟨w2.heap.size, 0, none⟩) 4 4) [p1, p2, a1, a2] := by rw [hw3, World.size_alloc]; exact RdI.lit _ [p1, p2, a1, a2]
  have hb3 : Below w1.heap.size w1 w3 := by rw [hw3]; exact HB2.out.alloc HB2.out.size _
  have HX3 := Lib.hid (show Whole w3 w.heap.size 31 _ from by rw [hw3]; exact HX2.out.alloc _)
  have HB3 := Lib.hid hb3
  have HN3 := Lib.hid (HNU.out w3 _ hr3)
  rw [← hw3]
  clear hr3 hb3 hw3 x0 x1 x2 x3
  refine HN3.out.mono ?_
  rintro e w4 ⟨v4, rfl, ho4, hb4⟩
  have hX4 := HX3.out.below hb4 HX3.out.size
  have x4 := hX4.cell 4 _ rfl
  have x5 := hX4.cell 5 _ rfl
  have x6 := hX4.cell 6 _ rfl
  have x7 := hX4.cell 7 _ rfl
  have HB4 := Lib.hid (HB3.out.trans (hb4.mono HB3.out.size))
  have HO4 := Lib.hid (ho4.lower HB3.out.size)
  have HP4 := Lib.hid (HPS.out w4 HB4.out)
  clear hb4 ho4 hX4
  go_wp2_with fail
  refine HP4.out.mono ?_
  rintro e w5 ⟨v5, rfl, hr5, hb5⟩
  have HO5 := Lib.hid (HO4.out.below hb5 (Nat.le_refl _))
  have HB5 := Lib.hid (HB4.out.trans (hb5.mono HB4.out.size))
  have HR5 := Lib.hid hr5
  have hs5 := HB5.out.size
  clear hb5 hr5 x4 x5 x6 x7
  go_wp2_with (at_builtin; go_must (refine wpList_addB rfl _ _ rfl w1.heap.size v4 L1 rfl HO5.out w5.heap.size v5 L2 rfl HR5.out (by omega) hs5 w1.heap.size w1 HB5.out (Nat.le_refl _) ?_))
  intro A6 c6 w6 ho6 hb6 _
  go_wp2_with fail
  go_ret2
  exact ⟨_, rfl, ho6.out.rdB, HB1.out.trans (hb6.out.mono (by omega))⟩
end Go.Proofs.Ytjmojlhebjbgaaa
namespace Go.Proofs.Ytjmojlhebjbgaaa
open Go.RowKit

def encBal (b : Bal) : List Value := [.int .i64 b.1, .int .i64 b.2]
theorem encBal_len (b : Bal) : (encBal b).length = 2 := rfl
abbrev RdBl (w : World) (B : Nat) (v : Value) (l : List Bal) : Prop := Rd encBal 2 w B v l
theorem RdBl.at {w : World} {B : Nat} {v : Value} {l : List Bal} (h : RdBl w B v l) : ∃ A c, v = .slice A l.length c ∧ l.length ≤ c ∧ ∀ i (_ : i < l.length), ∃ b o, A = some ⟨b, o, none⟩ ∧ b < B ∧ w.cell? ⟨b, o + i * 2, none⟩ = some (.int .i64 l[i].1) ∧ w.cell? ⟨b, o + i * 2 + 1, none⟩ = some (.int .i64 l[i].2) := by
  obtain ⟨A, c, hv, hc, hi⟩ := h
  refine ⟨A, c, hv, hc, fun i hs => ?_⟩
  obtain ⟨b, o, hA, hB, hk⟩ := hi i hs
  exact ⟨b, o, hA, hB, hk 0 _ rfl, hk 1 _ rfl⟩
theorem RdBl.two (w : World) (a b c d : Int) : RdBl (w.alloc (.cells #[.int .i64 a, .int .i64 b, .int .i64 c, .int .i64 d] 23)) (w.heap.size + 1) (.slice (some ⟨w.heap.size, 0, none⟩) 2 2) [(a, b), (c, d)] := by
  refine ⟨_, 2, rfl, Nat.le_refl _, fun i hi => ⟨w.heap.size, 0, rfl, Nat.lt_succ_self _, fun j u hu => ?_⟩⟩
  have h := Whole.fresh w 23 [.int .i64 a, .int .i64 b, .int .i64 c, .int .i64 d]
  have hj : j < 2 := by
    rcases Nat.lt_or_ge j 2 with h | h
    · exact h
    · rw [List.getElem?_eq_none (by rw [encBal_len]; exact h)] at hu; cases hu
  match i, hi with
  | 0, _ =>
    match j, hj with
    | 0, _ => exact h.cell 0 u hu
    | 1, _ => exact h.cell 1 u hu
  | 1, _ =>
    match j, hj with
    | 0, _ => exact h.cell 2 u hu
    | 1, _ => exact h.cell 3 u hu
/-- the numbers of ballots -/
def balNums (l : List Bal) : List Int := l.flatMap fun b => [b.1, b.2]
theorem balNums_len (l : List Bal) : (balNums l).length = l.length * 2 := by
  induction l with
  | nil => rfl
  | cons b l ih => simp [balNums] at ih ⊢; omega
theorem balNums_succ (l : List Bal) (i : Nat) (h : i < l.length) : balNums (l.take (i + 1)) = balNums (l.take i) ++ [l[i].1, l[i].2] := by
  rw [List.take_succ_eq_append_getElem h]
  unfold balNums
  rw [List.flatMap_append]
  rfl

set_option maxHeartbeats 2000000 in
set_option maxRecDepth 100000 in
theorem putBallots_any (l : List Bal) (hr : ∀ n ∈ balNums l, n < 9223372036854775808) (hl : l.length ≤ 1000) (v : Value) (w : World) (hv : RdBl w w.heap.size v l) :
    Calls Try.prog 27 #[v] w fun e w' => ∃ v', e = .returned (.tuple #[v', .int .i64 (numsAns (balNums l)).2]) ∧ OwnB w' w.heap.size v' (numsAns (balNums l)).1 ∧ Below w.heap.size w w' := by
  obtain ⟨A, c, rfl, hc, hi⟩ := hv.at
  have HI := Lib.hid hi; clear hi hv
  have hnl := balNums_len l
  have hnu := fun W v' (h : RdI W W.heap.size v' (balNums l)) => numsO_any (balNums l) hr v' W h (by omega)
  generalize numsAns (balNums l) = R at hnu ⊢
  have HNU := Lib.hid hnu
  clear hr hnl hnu
  obtain ⟨g, hg⟩ : ∃ g, g = w.heap.size := ⟨_, rfl⟩
  have HG := Lib.hid hg; clear hg
  go_enter Try.func27, Try.ntmps27
  go_wp2_with fail
  go_loopw [4, 9] (fun ov iv wr => ∃ (i : Nat) (A' : Option Addr) (c' : Nat), i ≤ l.length ∧ iv = .int .i64 i ∧ ov = .slice A' (balNums (l.take i)).length c' ∧ Hid (OwnI wr g (.slice A' (balNums (l.take i)).length c') (balNums (l.take i))) ∧ Hid (Below g w wr) ∧ Hid (g ≤ wr.heap.size)) (fun _ iv _ => l.length - (intOf iv).toNat)
  case atStart => exact ⟨0, none, 0, Nat.zero_le _, rfl, rfl, Lib.hid (Own.nil _ _), Lib.hid (by rw [HG.out]; exact Below.refl _ _), Lib.hid (by rw [HG.out]; exact Nat.le_refl _)⟩
  case round =>
    obtain ⟨i, A', c', hil, rfl, rfl, HO, HB, HGS⟩ := hrel
    by_cases hlt : i < l.length
    · obtain ⟨b, o, rfl, hbB, h1, h2⟩ := HI.out i hlt
      have k0 := (HB.out.cell (p := ⟨b, o + i * 2, none⟩) (by rw [HG.out]; exact hbB)).trans h1
      have k1 := (HB.out.cell (p := ⟨b, o + i * 2 + 1, none⟩) (by rw [HG.out]; exact hbB)).trans h2
      have hnx := balNums_succ l i hlt
      have hln := balNums_len (l.take i)
      have hlt2 : (l.take i).length ≤ 1000 := by rw [List.length_take]; omega
      generalize l[i] = x at h1 h2 k0 k1 hnx
      obtain ⟨x1, x2⟩ := x
      simp only at k0 k1 hnx
      clear h1 h2
      have hbd : (balNums (l.take i)).length + [x1, x2].length ≤ 28147497670000 := by rw [hln]; simp only [List.length_cons, List.length_nil]; omega
      have HNX := Lib.hid hnx
      have HBD := Lib.hid hbd
      clear hnx hln hlt2 hbd
      generalize balNums (l.take i) = N at HO HNX HBD
      have h0 : (0 : Int) ≤ (i : Int) := by omega
      have h1 : (i : Int) < (l.length : Int) := by omega
      have hgs := HGS.out
      have HOa := Lib.hid (show OwnI ((wr.alloc (.cells #[.int .i64 x1, .int .i64 x2] 23)).alloc (.cells #[.int .i64 x1, .int .i64 x2] 3)) g (.slice A' N.length c') N from (HO.out.alloc _).alloc _)
      have HRa := Lib.hid (show RdI ((wr.alloc (.cells #[.int .i64 x1, .int .i64 x2] 23)).alloc (.cells #[.int .i64 x1, .int .i64 x2] 3)) (wr.heap.size + 1 + 1) (.slice (some ⟨wr.heap.size + 1, 0, none⟩) 2 2) [x1, x2] from by
        have h := RdI.lit (wr.alloc (.cells #[.int .i64 x1, .int .i64 x2] 23)) [x1, x2]
        rw [World.size_alloc] at h
        exact h)
      have HBa := Lib.hid (show Below g w ((wr.alloc (.cells #[.int .i64 x1, .int .i64 x2] 23)).alloc (.cells #[.int .i64 x1, .int .i64 x2] 3)) from (HB.out.alloc hgs _).alloc (by rw [World.size_alloc]; omega) _)
      have HSa := Lib.hid (show g ≤ ((wr.alloc (.cells #[.int .i64 x1, .int .i64 x2] 23)).alloc (.cells #[.int .i64 x1, .int .i64 x2] 3)).heap.size from by rw [World.size_alloc, World.size_alloc]; omega)
      clear hgs
      go_wp2_with (at_builtin; go_must (refine wpList_addI rfl _ _ rfl g _ N rfl HOa.out _ _ [x1, x2] rfl HRa.out HBD.out HSa.out g w HBa.out (Nat.le_refl _) ?_))
      intro A2 c2 w2 ho2 hb2 hg2
      rw [← HNX.out] at ho2
      have HLN := Lib.hid (show N.length + 1 + 1 = (balNums (l.take (i + 1))).length from by rw [HNX.out]; simp)
      have HO2 := Lib.hid (show OwnI w2 g (.slice A2 (balNums (l.take (i + 1))).length c2) (balNums (l.take (i + 1))) from by rw [← HLN.out]; exact ho2.out)
      clear ho2
      clear HOa HRa HBa HSa HO HB HGS
      go_wp2_with fail
      go_roundw
      case rel => exact ⟨i + 1, A2, c2, by omega, by go_num, by (first | rw [← HLN.out] | (rw [← HLN.out, List.length_append]; rfl) | (rw [HNX.out])), HO2, hb2, hg2⟩
      case measure => simp [intOf]; omega
    · obtain rfl : i = l.length := by omega
      rw [List.take_length] at HO
      have HC := Lib.hid (HNU.out wr _ (OwnI.rdI HO.out))
      clear HNU HI
      rw [List.take_length]
      go_wp2_with fail
      refine HC.out.mono ?_
      rintro e w3 ⟨v3, rfl, ho, hb3⟩
      have HO3 := Lib.hid (ho.lower HGS.out)
      have HB3 := Lib.hid (HB.out.trans (hb3.mono HGS.out))
      clear ho hb3
      go_wp2_with fail
      go_ret2
      exact ⟨v3, rfl, by rw [← HG.out]; exact HO3.out, by rw [← HG.out]; exact HB3.out⟩
end Go.Proofs.Ytjmojlhebjbgaaa

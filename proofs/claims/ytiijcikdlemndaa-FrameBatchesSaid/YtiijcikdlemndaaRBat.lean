/- The reference's PutBatch, GetBatch. -/
import Derived.Test.YtiijcikdlemndaaPGet
import Derived.Test.YtiijcikdlemndaaSm
namespace Go.Proofs.Ytiijcikdlemndaa
open Go.RowKit
attribute [local go_sem] less_eq same_eq le_eq ge_eq gt_eq

set_option maxHeartbeats 2000000 in
set_option maxRecDepth 100000 in
theorem rputB_bad (x : Bat) (hs : ¬ soundB x) (hr : x.prev < 9223372036854775808 ∧ x.version < 9223372036854775808 ∧ x.known < 9223372036854775808) (hft : fitB x) (v : Value) (w : World) (hv : RdC w w.heap.size v x.chgs) :
    Calls Try.prog 21 #[bval x v] w fun e w' => e = .returned (.tuple #[.slice none 0 0, .int .i64 2]) ∧ Below w.heap.size w w' := by
  have hb1 : Below w.heap.size w (w.alloc (.cells #[.int .i64 x.prev, .int .i64 x.version, .int .i64 x.known, v] 43)) := (Below.refl _ _).alloc (Nat.le_refl _) _
  have hsnd := rsoundB_any x hft v (w.alloc (.cells #[.int .i64 x.prev, .int .i64 x.version, .int .i64 x.known, v] 43)) (hv.next hb1)
  have HV1 := Lib.hid (Whole.fresh w 43 [.int .i64 x.prev, .int .i64 x.version, .int .i64 x.known, v])
  have HB1 := Lib.hid hb1; clear hb1
  have HVB := Lib.hid hv
  obtain ⟨A2, cc2, hvv2, _, _⟩ := hv.at
  subst hvv2
  clear hv
  unfold bval at hsnd ⊢
  rw [decide_eq_false hs] at hsnd
  have HSND := Lib.hid hsnd; clear hsnd
  go_enter Try.func21, Try.ntmps21
  go_wp2_with fail
  refine HSND.out.mono ?_
  rintro e w2 ⟨rfl, hb2⟩
  have HB2 := Lib.hid (HB1.out.trans (hb2.mono (by simp))); clear hb2
  go_wp2_with fail
  go_ret2
  exact ⟨rfl, HB2.out⟩

set_option maxHeartbeats 8000000 in
set_option maxRecDepth 100000 in
theorem rputB_ok (x : Bat) (hs : soundB x) (hr : x.prev < 9223372036854775808 ∧ x.version < 9223372036854775808 ∧ x.known < 9223372036854775808) (hft : fitB x) (v : Value) (w : World) (hv : RdC w w.heap.size v x.chgs) :
    Calls Try.prog 21 #[bval x v] w fun e w' => ∃ v', e = .returned (.tuple #[v', .int .i64 0]) ∧ RdB w' w'.heap.size v' (batB x) ∧ Below w.heap.size w w' := by
  have hb1 : Below w.heap.size w (w.alloc (.cells #[.int .i64 x.prev, .int .i64 x.version, .int .i64 x.known, v] 43)) := (Below.refl _ _).alloc (Nat.le_refl _) _
  have hsnd := rsoundB_any x hft v (w.alloc (.cells #[.int .i64 x.prev, .int .i64 x.version, .int .i64 x.known, v] 43)) (hv.next hb1)
  have HV1 := Lib.hid (Whole.fresh w 43 [.int .i64 x.prev, .int .i64 x.version, .int .i64 x.known, v])
  have HB1 := Lib.hid hb1; clear hb1
  have HVB := Lib.hid hv
  obtain ⟨A2, cc2, hvv2, _, _⟩ := hv.at
  subst hvv2
  clear hv
  unfold bval at hsnd ⊢
  rw [decide_eq_true hs] at hsnd
  have HSND := Lib.hid hsnd; clear hsnd
  have hin : batB x = ([] ++ encs [x.prev, x.version, x.known]) ++ listB chgB x.chgs := by simp [batB]
  have hs2 := hs
  obtain ⟨⟨s1, s2, s3⟩, s4, s5⟩ := hs2
  obtain ⟨r1, r2, r3⟩ := hr
  have hch : ∀ c ∈ x.chgs, 0 ≤ c.kind ∧ c.kind < 9223372036854775808 ∧ c.key.size ≤ 65536 ∧ c.val.size ≤ 65536 := fun c h => okC (allAns_all s5 c h)
  have hrng : ∀ n ∈ [x.prev, x.version, x.known], 0 ≤ n ∧ n < 9223372036854775808 := by
    simp only [List.mem_cons, List.not_mem_nil, or_false, forall_eq_or_imp, forall_eq]
    omega
  have hel := encs_len [x.prev, x.version, x.known] (fun n h => (hrng n h).2)
  have h1l : ([] ++ encs [x.prev, x.version, x.known]).length ≤ 27 := by simpa using hel
  have hnum := fun (v : Value) (W : World) (base : Nat) (h1 : OwnB W base (.slice none ([] : List UInt8).length 0) []) (h2 : base ≤ W.heap.size) (h3 : RdI W base v [x.prev, x.version, x.known]) => rnums5_any [x.prev, x.version, x.known] hrng (by simp) v [] none 0 W base h1 h2 h3 (by simp)
  generalize [] ++ encs [x.prev, x.version, x.known] = L1 at hin hnum h1l
  have hlast := fun (A : Option Addr) (c : Nat) (W : World) (base : Nat) (h1 : OwnB W base (.slice A L1.length c) L1) (h2 : base ≤ W.heap.size) (h3 : RdC W base (.slice A2 x.chgs.length cc2) x.chgs) => rchgs5_any x.chgs hch s4 (.slice A2 x.chgs.length cc2) L1 A c W base h1 h2 h3 (by omega)
  generalize L1 ++ listB chgB x.chgs = L3 at hin hlast
  simp only [List.length_nil] at hnum
  have HNUM := Lib.hid hnum
  have HLAST := Lib.hid hlast
  have HIN := Lib.hid hin
  clear hnum hlast hin hel h1l hch hrng hs s1 s2 s3 s4 s5 r1 r2 r3 hft
  go_enter Try.func21, Try.ntmps21
  go_wp2_with fail
  refine HSND.out.mono ?_
  rintro e w0 ⟨rfl, hb2⟩
  have hV0 := HV1.out.below hb2 (by simp)
  have hbw : Below w.heap.size w w0 := HB1.out.trans (hb2.mono (by simp))
  have HV0 := Lib.hid hV0; clear hV0
  have HBW := Lib.hid hbw; clear hbw hb2
  have hlt0 : w.heap.size < w0.heap.size := HV0.out.size
  go_wp2_with fail
  have HC := Lib.hid (fun W (hW : Below w0.heap.size w0 W) => HV0.out.below hW hlt0)
  refine wp_region_planT (fun W => Below w0.heap.size w0 W) (.take 0 (.take 1 (.take 2 (.take 3 (.take 4 (.take 5 (.take 8 (.take 9 (.step 6 (.step 7 (.step 10 (.take 11 (.take 12 .done))))))))))))) (by kernel_rfl) (by kernel_rfl) (fun _ _ d _ _ h => by cases d <;> exact h) ((Below.refl _ _).drew) ?_
  have hS1 : Below w0.heap.size w0 w0.drew := (Below.refl _ _).drew
  generalize w0.drew = w1 at hS1 ⊢
  refine PlanT.takeI (v := ?_) rfl rfl ?_ ?_; rotate_left; (focus (intro W hW; have hC := HC.out W hW; have k0 := hC.cell 0 _ rfl; have k1 := hC.cell 1 _ rfl; have k2 := hC.cell 2 _ rfl; have k3 := hC.cell 3 _ rfl; go_simp; (try with_reducible rfl); done)); (try simp only [Act.put, List.setIfInBounds_toArray, List.set_cons_zero, List.set_cons_succ])
  refine PlanT.takeI (v := ?_) rfl rfl ?_ ?_; rotate_left; (focus (intro W hW; have hC := HC.out W hW; have k0 := hC.cell 0 _ rfl; have k1 := hC.cell 1 _ rfl; have k2 := hC.cell 2 _ rfl; have k3 := hC.cell 3 _ rfl; go_simp; (try with_reducible rfl); done)); (try simp only [Act.put, List.setIfInBounds_toArray, List.set_cons_zero, List.set_cons_succ])
  refine PlanT.takeI (v := ?_) rfl rfl ?_ ?_; rotate_left; (focus (intro W hW; have hC := HC.out W hW; have k0 := hC.cell 0 _ rfl; have k1 := hC.cell 1 _ rfl; have k2 := hC.cell 2 _ rfl; have k3 := hC.cell 3 _ rfl; go_simp; (try with_reducible rfl); done)); (try simp only [Act.put, List.setIfInBounds_toArray, List.set_cons_zero, List.set_cons_succ])
  refine PlanT.takeI (v := ?_) rfl rfl ?_ ?_; rotate_left; (focus (intro W hW; have hC := HC.out W hW; have k0 := hC.cell 0 _ rfl; have k1 := hC.cell 1 _ rfl; have k2 := hC.cell 2 _ rfl; have k3 := hC.cell 3 _ rfl; go_simp; (try with_reducible rfl); done)); (try simp only [Act.put, List.setIfInBounds_toArray, List.set_cons_zero, List.set_cons_succ])
  refine PlanT.takeI (v := ?_) rfl rfl ?_ ?_; rotate_left; (focus (intro W hW; have hC := HC.out W hW; have k0 := hC.cell 0 _ rfl; have k1 := hC.cell 1 _ rfl; have k2 := hC.cell 2 _ rfl; have k3 := hC.cell 3 _ rfl; go_simp; (try with_reducible rfl); done)); (try simp only [Act.put, List.setIfInBounds_toArray, List.set_cons_zero, List.set_cons_succ])
  refine PlanT.takeI (v := ?_) rfl rfl ?_ ?_; rotate_left; (focus (intro W hW; have hC := HC.out W hW; have k0 := hC.cell 0 _ rfl; have k1 := hC.cell 1 _ rfl; have k2 := hC.cell 2 _ rfl; have k3 := hC.cell 3 _ rfl; go_simp; (try with_reducible rfl); done)); (try simp only [Act.put, List.setIfInBounds_toArray, List.set_cons_zero, List.set_cons_succ])
  refine PlanT.takeI (v := ?_) rfl rfl ?_ ?_; rotate_left; (focus (intro W hW; have hC := HC.out W hW; have k0 := hC.cell 0 _ rfl; have k1 := hC.cell 1 _ rfl; have k2 := hC.cell 2 _ rfl; have k3 := hC.cell 3 _ rfl; go_simp; (try with_reducible rfl); done)); (try simp only [Act.put, List.setIfInBounds_toArray, List.set_cons_zero, List.set_cons_succ])
  refine PlanT.takeI (v := ?_) rfl rfl ?_ ?_; rotate_left; (focus (intro W hW; have hC := HC.out W hW; have k0 := hC.cell 0 _ rfl; have k1 := hC.cell 1 _ rfl; have k2 := hC.cell 2 _ rfl; have k3 := hC.cell 3 _ rfl; go_simp; (try with_reducible rfl); done)); (try simp only [Act.put, List.setIfInBounds_toArray, List.set_cons_zero, List.set_cons_succ])
  refine wpOp_stepT rfl rfl (fun Kk hK => ?_)
  go_simp
  obtain ⟨w2, hw2⟩ : ∃ W, W = w1.alloc (.cells #[.int .i64 x.prev, .int .i64 x.version, .int .i64 x.known] 3) := ⟨_, rfl⟩
  have hi2 : RdI w2 w2.heap.size (.slice (some ⟨w1.heap.size, 0, none⟩) 3 3) [x.prev, x.version, x.known] := by rw [hw2, World.size_alloc]; exact RdI.lit _ [x.prev, x.version, x.known]
  have hS2 : Below w0.heap.size w0 w2 := by rw [hw2]; exact hS1.alloc hS1.size _
  rw [← hw2]
  clear hw2
  refine hK.out _ _ hS2 ?_
  clear hK Kk hS1
  have hn := HNUM.out _ w2 w2.heap.size (Own.nil _ _) (Nat.le_refl _) hi2
  generalize w1.heap.size = g1 at hn ⊢
  have HN := Lib.hid hn
  clear hn hi2
  refine wpOp_stepT rfl rfl (fun Kk hK => ?_)
  go_simp
  go_at_call 35
  refine HN.out.mono ?_
  rintro e w3 ⟨A3, c3, rfl, ho3, hb3, hs3⟩
  have hS3 : Below w0.heap.size w0 w3 := hS2.trans (hb3.mono hS2.size)
  refine hK.out _ _ hS3 ?_
  clear hK Kk HN
  have hvv := ((HVB.out.below HBW.out (Nat.le_refl _)).below hS3 (by omega)).mono (show w.heap.size ≤ w2.heap.size by have := hS2.size; omega)
  have hlast := HLAST.out A3 c3 w3 w2.heap.size ho3 hs3 hvv
  have HLA := Lib.hid hlast
  clear hlast hvv ho3
  refine wpOp_stepT rfl rfl (fun Kk hK => ?_)
  go_simp
  go_at_call 50
  refine HLA.out.mono ?_
  rintro e w4 ⟨A4, c4, rfl, ho4, hb4, hs4⟩
  have hS4 : Below w0.heap.size w0 w4 := hS3.trans (hb4.mono hS2.size)
  refine hK.out _ _ hS4 ?_
  clear hK Kk HLA
  refine PlanT.takeI (v := ?_) rfl rfl ?_ ?_; rotate_left; (focus (intro W hW;  go_simp; (try with_reducible rfl); done)); (try simp only [Act.put, List.setIfInBounds_toArray, List.set_cons_zero, List.set_cons_succ])
  refine PlanT.takeI (v := ?_) rfl rfl ?_ ?_; rotate_left; (focus (intro W hW;  go_simp; (try with_reducible rfl); done)); (try simp only [Act.put, List.setIfInBounds_toArray, List.set_cons_zero, List.set_cons_succ])
  simp only [PlanT]
  have HO4 := Lib.hid ho4
  have HBF := Lib.hid (show Below w.heap.size w w4 from HBW.out.trans (hS4.mono (by omega)))
  clear ho4 hS4 hb4 hs4 hS3 hb3 hs3 hS2
  go_wp2_with fail
  go_ret2
  exact ⟨_, rfl, by rw [HIN.out]; exact HO4.out.rdB, HBF.out⟩

set_option maxHeartbeats 16000000 in
set_option maxRecDepth 100000 in
theorem rgetB (l : List UInt8) (v : Value) (w : World) (hv : RdB w w.heap.size v l) (hl : l.length < 4611686018427387904) :
    Calls Try.prog 23 #[v] w fun e w' => ∃ v', e = .returned (.tuple #[bval (getBat l).1 v', .int .i64 (getBat l).2]) ∧ RdC w' w'.heap.size v' (getBat l).1.chgs ∧ Below w.heap.size w w' := by
  obtain ⟨A0, c0, hvv, _, _⟩ := hv.at
  subst hvv
  obtain ⟨w2, hw2⟩ : ∃ w2, w2 = (w.alloc (.cells #[.int .i64 0, .int .i64 0, .int .i64 0, .slice none 0 0] 43)).alloc (.cells #[.slice A0 l.length c0, .bool false] 78) := ⟨_, rfl⟩
  obtain ⟨p, hp⟩ : ∃ p, p = w.heap.size + 1 := ⟨_, rfl⟩
  have hb2 : Below w.heap.size w w2 := by rw [hw2]; exact ((Below.refl _ _).alloc (Nat.le_refl _) _).alloc (by simp) _
  have hV2 : Whole w2 w.heap.size 43 [.int .i64 0, .int .i64 0, .int .i64 0, .slice none 0 0] := by rw [hw2]; exact (Whole.fresh _ _ _).alloc _
  have hR2 : RR w2 p p (some l) := by
    refine ⟨A0, c0, l, ?_, (hv.below hb2 (Nat.le_refl _)).mono (by omega), Nat.le_refl _, hl, fun r hr => by injection hr with hr; exact hr.symm⟩
    have h := Whole.fresh (w.alloc (.cells #[.int .i64 0, .int .i64 0, .int .i64 0, .slice none 0 0] 43)) 78 [.slice A0 l.length c0, .bool false]
    rw [World.size_alloc] at h
    rw [hw2, hp]; exact h
  obtain ⟨R, hD⟩ : ∃ R, R = getBat l := ⟨_, rfl⟩
  rw [← hD]
  unfold getBat rdBat at hD
  simp only at hD
  have hN1 := fun W base p h => rrnum_any (some l) base p W h
  generalize rdN (some l) = r1 at hN1 hD
  obtain ⟨n1, S1⟩ := r1
  simp only at hN1 hD
  have hN2 := fun W base p h => rrnum_any S1 base p W h
  generalize rdN S1 = r2 at hN2 hD
  obtain ⟨n2, S2⟩ := r2
  simp only at hN2 hD
  have hN3 := fun W base p h => rrnum_any S2 base p W h
  generalize rdN S2 = r3 at hN3 hD
  obtain ⟨n3, S3⟩ := r3
  simp only at hN3 hD
  have hL := fun W base p h => rchgs_rd 4096 (by omega) S3 base p W h
  have hel := rdChgs_len 4096 S3
  have hln := rdList_len rdChg 4096 S3
  generalize rdList rdChg 4096 S3 = q at hL hel hln hD
  obtain ⟨LL, T⟩ := q
  simp only at hL hel hln hD
  have hsd := fun (W : World) (v : Value) (h : RdC W W.heap.size v LL) => rsoundB_any ⟨n1, n2, n3, LL⟩ ⟨by simp only; omega, fun c hc => ⟨by have := (hel c hc).1; omega, by have := (hel c hc).2; omega⟩⟩ v W h
  obtain ⟨D2, hD2⟩ : ∃ D2, D2 = decide (soundB ⟨n1, n2, n3, LL⟩) := ⟨_, rfl⟩
  rw [← hD2] at hsd
  simp only [bval] at hsd
  have hyes : T = some [] → D2 = true → R = (⟨n1, n2, n3, LL⟩, 0) := fun h1 h2 => by rw [hD, if_pos ⟨h1, of_decide_eq_true (hD2 ▸ h2)⟩]
  have hno : ¬ (T = some [] ∧ D2 = true) → R = (zeroB, 2) := fun h => by rw [hD, if_neg fun h' => h ⟨h'.1, by rw [hD2]; exact decide_eq_true h'.2⟩]
  have HYES := Lib.hid hyes
  have HNO := Lib.hid hno
  have HSD := Lib.hid hsd
  have HL := Lib.hid hL
  have HN1 := Lib.hid hN1
  have HN2 := Lib.hid hN2
  have HN3 := Lib.hid hN3
  have HV2 := Lib.hid hV2
  have HB2 := Lib.hid hb2
  have HR2 := Lib.hid hR2
  have HW2 := Lib.hid hw2
  have HP := Lib.hid hp
  have hwp : w.heap.size < p := by omega
  clear hyes hno hsd hL hN1 hN2 hN3 hD hD2 hel hln hV2 hb2 hR2 hw2 hp hv
  go_enter Try.func23, Try.ntmps23
  go_wp2_with fail
  rw [← HW2.out, ← HP.out]
  refine (HN1.out _ _ _ HR2.out).mono ?_
  rintro e a1 ⟨rfl, hr, ho⟩
  have hbo : Below p w2 a1 := ho.low (Nat.le_refl _) (by have := HR2.out.size; omega)
  have hVa := HV2.out.below hbo hwp
  have hBa := HB2.out.trans (hbo.mono (by omega))
  obtain ⟨w3, hw3⟩ : ∃ w3, w3 = a1.alloc (.cells #[.int .i64 n1, .int .i64 0, .int .i64 0, .slice none 0 0] 43) := ⟨_, rfl⟩
  have hba : Below a1.heap.size a1 w3 := by rw [hw3]; exact (Below.refl _ _).alloc (Nat.le_refl _) _
  obtain ⟨G, hG⟩ : ∃ G, G = a1.heap.size := ⟨_, rfl⟩
  have HM3 := Lib.hid (show Whole w3 G 43 [.int .i64 n1, .int .i64 0, .int .i64 0, .slice none 0 0] by rw [hw3, hG]; exact Whole.fresh _ _ _)
  have HV3 := Lib.hid (hVa.below hba hVa.size)
  have HB3 := Lib.hid (hBa.trans (hba.mono (by have := hVa.size; omega)))
  have HR3 := Lib.hid (hr.more hba)
  have hpG : p < G := by rw [hG]; exact hr.size
  have hne : w.heap.size ≠ G := by omega
  have HW3 := Lib.hid hw3
  have HGG := Lib.hid hG
  clear hr ho hbo hVa hBa hba hw3 hG
  go_wp2_with fail
  rw [← HW3.out, ← HGG.out]
  refine (HN2.out _ _ _ HR3.out).mono ?_
  rintro e a2 ⟨rfl, hr, ho⟩
  have hbo : Below p w3 a2 := ho.low (Nat.le_refl _) (by have := HR3.out.size; omega)
  have hMa := HM3.out.grown (row := some p) ho (fun e => by injection e with e; omega)
  have hVa := HV3.out.below hbo hwp
  have hBa := HB3.out.trans (hbo.mono (by omega))
  have q0 := hMa.cell 1 _ rfl
  have g0 := hMa.frozen 1
  obtain ⟨w4, hw4⟩ : ∃ W, W = a2.setCell ⟨G, 1, none⟩ (.int .i64 n2) := ⟨_, rfl⟩
  have HM4 := Lib.hid (show Whole w4 G 43 _ from by rw [hw4]; exact hMa.put 1 (.int .i64 n2))
  have HV4 := Lib.hid (show Whole w4 w.heap.size 43 [.int .i64 0, .int .i64 0, .int .i64 0, .slice none 0 0] from by rw [hw4]; exact hVa.away (p := ⟨G, 1, none⟩) hne _)
  have HB4 := Lib.hid (show Below w.heap.size w w4 from by rw [hw4]; exact hBa.setCell (p := ⟨G, 1, none⟩) (by show w.heap.size ≤ G; omega) _)
  have HR4 := Lib.hid (show RR w4 p p S2 from by rw [hw4]; exact hr.set hpG 1 _)
  have HWW := Lib.hid hw4
  clear hr ho hbo hMa hVa hBa hw4
  go_wp2_with fail
  rw [← HWW.out]
  clear q0 g0 HWW
  refine (HN3.out _ _ _ HR4.out).mono ?_
  rintro e a3 ⟨rfl, hr, ho⟩
  have hbo : Below p w4 a3 := ho.low (Nat.le_refl _) (by have := HR4.out.size; omega)
  have hMa := HM4.out.grown (row := some p) ho (fun e => by injection e with e; omega)
  have hVa := HV4.out.below hbo hwp
  have hBa := HB4.out.trans (hbo.mono (by omega))
  have q0 := hMa.cell 2 _ rfl
  have g0 := hMa.frozen 2
  obtain ⟨w5, hw5⟩ : ∃ W, W = a3.setCell ⟨G, 2, none⟩ (.int .i64 n3) := ⟨_, rfl⟩
  have HM5 := Lib.hid (show Whole w5 G 43 _ from by rw [hw5]; exact hMa.put 2 (.int .i64 n3))
  have HV5 := Lib.hid (show Whole w5 w.heap.size 43 [.int .i64 0, .int .i64 0, .int .i64 0, .slice none 0 0] from by rw [hw5]; exact hVa.away (p := ⟨G, 2, none⟩) hne _)
  have HB5 := Lib.hid (show Below w.heap.size w w5 from by rw [hw5]; exact hBa.setCell (p := ⟨G, 2, none⟩) (by show w.heap.size ≤ G; omega) _)
  have HR5 := Lib.hid (show RR w5 p p S3 from by rw [hw5]; exact hr.set hpG 2 _)
  have HWW := Lib.hid hw5
  clear hr ho hbo hMa hVa hBa hw5
  go_wp2_with fail
  rw [← HWW.out]
  clear q0 g0 HWW
  have hw5p : p < w5.heap.size := HR5.out.size
  have hw5G : G < w5.heap.size := HM5.out.size
  refine (HL.out _ _ _ HR5.out).mono ?_
  rintro e a4 ⟨AL, cL, L, rfl, how, hr, ho, hLn, hLe⟩
  have hbo : Below p w5 a4 := ho.low (Nat.le_refl _) (by omega)
  have hMa := HM5.out.grown (row := some p) ho (fun e => by injection e with e; omega)
  have hVa := HV5.out.below hbo hwp
  have hBa := HB5.out.trans (hbo.mono (by omega))
  have q0 := hMa.cell 3 _ rfl
  have g0 := hMa.frozen 3
  obtain ⟨w6, hw6⟩ : ∃ W, W = a4.setCell ⟨G, 3, none⟩ (.slice AL L.length cL) := ⟨_, rfl⟩
  have HM6 := Lib.hid (show Whole w6 G 43 [.int .i64 n1, .int .i64 n2, .int .i64 n3, .slice AL L.length cL] from by rw [hw6]; exact hMa.put 3 (.slice AL L.length cL))
  have HV6 := Lib.hid (show Whole w6 w.heap.size 43 [.int .i64 0, .int .i64 0, .int .i64 0, .slice none 0 0] from by rw [hw6]; exact hVa.away (p := ⟨G, 3, none⟩) hne _)
  have HB6 := Lib.hid (show Below w.heap.size w w6 from by rw [hw6]; exact hBa.setCell (p := ⟨G, 3, none⟩) (by show w.heap.size ≤ G; omega) _)
  have hR6 : RR w6 p p T := by rw [hw6]; exact hr.set hpG 3 _
  have HOW6 := Lib.hid (show Own encC 3 89 w6 w5.heap.size (.slice AL L.length cL) L from by rw [hw6]; exact how.put hMa (by decide) 3 _)
  have HWW := Lib.hid hw6
  obtain ⟨AB, cB, lB, hwB, _, _, _, hSB⟩ := hR6
  have b0 := hwB.cell 0 _ rfl
  have b1 := hwB.cell 1 _ rfl
  rw [hw6] at b0 b1
  clear hr ho hbo hMa hVa hBa hw6 how hwB
  cases T with
  | none =>
    have HRE := Lib.hid (HNO.out (fun h => by cases h.1))
    simp only [Option.isNone_none] at b1
    have hV6 := HV6.out
    have e0 := hV6.cell 0 _ rfl
    have e1 := hV6.cell 1 _ rfl
    have e2 := hV6.cell 2 _ rfl
    have e3 := hV6.cell 3 _ rfl
    have f0 := hV6.frozen 0
    have f1 := hV6.frozen 1
    have f2 := hV6.frozen 2
    have f3 := hV6.frozen 3
    have hef : (w6.cell? ⟨w.heap.size, 0, none⟩ = some (.int .i64 0) ∧ w6.cell? ⟨w.heap.size, 1, none⟩ = some (.int .i64 0) ∧ w6.cell? ⟨w.heap.size, 2, none⟩ = some (.int .i64 0) ∧ w6.cell? ⟨w.heap.size, 3, none⟩ = some (.slice none 0 0)) ∧ w6.frozen? ⟨w.heap.size, 0, none⟩ = false ∧ w6.frozen? ⟨w.heap.size, 1, none⟩ = false ∧ w6.frozen? ⟨w.heap.size, 2, none⟩ = false ∧ w6.frozen? ⟨w.heap.size, 3, none⟩ = false := ⟨⟨e0, e1, e2, e3⟩, f0, f1, f2, f3⟩
    clear e0 e1 e2 e3 f0 f1 f2 f3 hV6
    rw [HWW.out] at hef
    obtain ⟨⟨e0, e1, e2, e3⟩, f0, f1, f2, f3⟩ := hef
    go_wp2_with fail
    rw [← HWW.out]
    have hVZ := ((((HV6.out.put 0 (.int .i64 0)).put 1 (.int .i64 0)).put 2 (.int .i64 0)).put 3 (.slice none 0 0))
    have j0 := hVZ.cell 0 _ rfl
    have j1 := hVZ.cell 1 _ rfl
    have j2 := hVZ.cell 2 _ rfl
    have j3 := hVZ.cell 3 _ rfl
    rw [HRE.out]
    refine bodyPost_ret (v := .tuple #[.agg #[.int .i64 0, .int .i64 0, .int .i64 0, .slice none 0 0], .int .i64 2]) (by simp [results, Try.results23, go_sem, j0, j1, j2, j3]) rfl ⟨_, rfl, Rd.nil _ _, ((((HB6.out.setCell (Nat.le_refl _) _).setCell (Nat.le_refl _) _).setCell (Nat.le_refl _) _).setCell (Nat.le_refl _) _)⟩
  | some Rr =>
    simp only [Option.isNone_some] at b1
    obtain rfl := hSB Rr rfl
    have hLL : L = LL := hLe (by simp)
    subst hLL
    cases Rr with
    | cons x1 x2 =>
      have HRE := Lib.hid (HNO.out (fun h => by have := h.1; simp at this))
      simp only [List.length_cons] at b0
      have hpos : (0 : Int) < (x2.length : Int) + 1 := by omega
      have hV6 := HV6.out
      have e0 := hV6.cell 0 _ rfl
      have e1 := hV6.cell 1 _ rfl
      have e2 := hV6.cell 2 _ rfl
      have e3 := hV6.cell 3 _ rfl
      have f0 := hV6.frozen 0
      have f1 := hV6.frozen 1
      have f2 := hV6.frozen 2
      have f3 := hV6.frozen 3
      have hef : (w6.cell? ⟨w.heap.size, 0, none⟩ = some (.int .i64 0) ∧ w6.cell? ⟨w.heap.size, 1, none⟩ = some (.int .i64 0) ∧ w6.cell? ⟨w.heap.size, 2, none⟩ = some (.int .i64 0) ∧ w6.cell? ⟨w.heap.size, 3, none⟩ = some (.slice none 0 0)) ∧ w6.frozen? ⟨w.heap.size, 0, none⟩ = false ∧ w6.frozen? ⟨w.heap.size, 1, none⟩ = false ∧ w6.frozen? ⟨w.heap.size, 2, none⟩ = false ∧ w6.frozen? ⟨w.heap.size, 3, none⟩ = false := ⟨⟨e0, e1, e2, e3⟩, f0, f1, f2, f3⟩
      clear e0 e1 e2 e3 f0 f1 f2 f3 hV6
      rw [HWW.out] at hef
      obtain ⟨⟨e0, e1, e2, e3⟩, f0, f1, f2, f3⟩ := hef
      go_wp2_with fail
      rw [← HWW.out]
      have hVZ := ((((HV6.out.put 0 (.int .i64 0)).put 1 (.int .i64 0)).put 2 (.int .i64 0)).put 3 (.slice none 0 0))
      have j0 := hVZ.cell 0 _ rfl
      have j1 := hVZ.cell 1 _ rfl
      have j2 := hVZ.cell 2 _ rfl
      have j3 := hVZ.cell 3 _ rfl
      rw [HRE.out]
      refine bodyPost_ret (v := .tuple #[.agg #[.int .i64 0, .int .i64 0, .int .i64 0, .slice none 0 0], .int .i64 2]) (by simp [results, Try.results23, go_sem, j0, j1, j2, j3]) rfl ⟨_, rfl, Rd.nil _ _, ((((HB6.out.setCell (Nat.le_refl _) _).setCell (Nat.le_refl _) _).setCell (Nat.le_refl _) _).setCell (Nat.le_refl _) _)⟩
    | nil =>
      simp only [List.length_nil] at b0
      have hsc := HSD.out w6 _ (Own.rd encC_len HOW6.out)
      have HSC := Lib.hid hsc; clear hsc
      have hk : w6.cell? ⟨G, 0, none⟩ = some (.int .i64 n1) ∧ w6.cell? ⟨G, 1, none⟩ = some (.int .i64 n2) ∧ w6.cell? ⟨G, 2, none⟩ = some (.int .i64 n3) ∧ w6.cell? ⟨G, 3, none⟩ = some (.slice AL L.length cL) := ⟨HM6.out.cell 0 _ rfl, HM6.out.cell 1 _ rfl, HM6.out.cell 2 _ rfl, HM6.out.cell 3 _ rfl⟩
      rw [HWW.out] at hk
      obtain ⟨k0, k1, k2, k3⟩ := hk
      go_wp2_with fail
      rw [← HWW.out]
      clear k0 k1 k2 k3 q0 g0 b0 b1
      refine HSC.out.mono ?_
      rintro e w7 ⟨rfl, hb7⟩
      have HV7 := Lib.hid (HV6.out.below hb7 HV6.out.size)
      have HB7 := Lib.hid (HB6.out.trans (hb7.mono (by have := HV6.out.size; omega)))
      have HM7 := Lib.hid (HM6.out.below hb7 HM6.out.size)
      have HOW7 := Lib.hid (HOW6.out.below hb7 (Nat.le_refl _))
      clear hb7
      cases D2 with
      | false =>
        have HRE := Lib.hid (HNO.out (by simp))
        have q0 := HV7.out.cell 0 _ rfl
        have g0 := HV7.out.frozen 0
        have q1 := HV7.out.cell 1 _ rfl
        have g1 := HV7.out.frozen 1
        have q2 := HV7.out.cell 2 _ rfl
        have g2 := HV7.out.frozen 2
        have q3 := HV7.out.cell 3 _ rfl
        have g3 := HV7.out.frozen 3
        go_wp2_with fail
        have hVZ := ((((HV7.out.put 0 (.int .i64 0)).put 1 (.int .i64 0)).put 2 (.int .i64 0)).put 3 (.slice none 0 0))
        have j0 := hVZ.cell 0 _ rfl
        have j1 := hVZ.cell 1 _ rfl
        have j2 := hVZ.cell 2 _ rfl
        have j3 := hVZ.cell 3 _ rfl
        rw [HRE.out]
        refine bodyPost_ret (v := .tuple #[.agg #[.int .i64 0, .int .i64 0, .int .i64 0, .slice none 0 0], .int .i64 2]) (by simp [results, Try.results23, go_sem, j0, j1, j2, j3]) rfl ⟨_, rfl, Rd.nil _ _, ((((HB7.out.setCell (Nat.le_refl _) _).setCell (Nat.le_refl _) _).setCell (Nat.le_refl _) _).setCell (Nat.le_refl _) _)⟩
      | true =>
        have HRE := Lib.hid (HYES.out (by simp) (by simp))
        have kk0 := HM7.out.cell 0 _ rfl
        have kk1 := HM7.out.cell 1 _ rfl
        have kk2 := HM7.out.cell 2 _ rfl
        have kk3 := HM7.out.cell 3 _ rfl
        have q0 := HV7.out.cell 0 _ rfl
        have g0 := HV7.out.frozen 0
        have q1 := HV7.out.cell 1 _ rfl
        have g1 := HV7.out.frozen 1
        have q2 := HV7.out.cell 2 _ rfl
        have g2 := HV7.out.frozen 2
        have q3 := HV7.out.cell 3 _ rfl
        have g3 := HV7.out.frozen 3
        go_wp2_with fail
        have hVZ := ((((HV7.out.put 0 (.int .i64 n1)).put 1 (.int .i64 n2)).put 2 (.int .i64 n3)).put 3 (.slice AL L.length cL))
        have j0 := hVZ.cell 0 _ rfl
        have j1 := hVZ.cell 1 _ rfl
        have j2 := hVZ.cell 2 _ rfl
        have j3 := hVZ.cell 3 _ rfl
        rw [HRE.out]
        refine bodyPost_ret (v := .tuple #[.agg #[.int .i64 n1, .int .i64 n2, .int .i64 n3, .slice AL L.length cL], .int .i64 0]) (by simp [results, Try.results23, go_sem, j0, j1, j2, j3]) rfl ⟨_, rfl, Own.rd encC_len ((((HOW7.out.put HV7.out (by decide) 0 (.int .i64 n1)).put (HV7.out.put 0 (.int .i64 n1)) (by decide) 1 (.int .i64 n2)).put ((HV7.out.put 0 (.int .i64 n1)).put 1 (.int .i64 n2)) (by decide) 2 (.int .i64 n3)).put (((HV7.out.put 0 (.int .i64 n1)).put 1 (.int .i64 n2)).put 2 (.int .i64 n3)) (by decide) 3 (.slice AL L.length cL)), ((((HB7.out.setCell (Nat.le_refl _) _).setCell (Nat.le_refl _) _).setCell (Nat.le_refl _) _).setCell (Nat.le_refl _) _)⟩
end Go.Proofs.Ytiijcikdlemndaa

/- The program's PutTxn, PutBatch, PutState. The program's Decode. The program's GetTxn, GetBatch, GetState. -/
import Derived.Test.YtjmojlhebjbgaaaFag
import Derived.Lib.ConvBytes
namespace Go.Proofs.Ytjmojlhebjbgaaa
open Go.RowKit
attribute [local go_sem] less_eq same_eq le_eq ge_eq gt_eq

set_option maxHeartbeats 2000000 in
set_option maxRecDepth 100000 in
theorem pputS_bad (x : Sta) (hs : ¬ soundS x) (_hr : x.gen < 9223372036854775808 ∧ x.epoch < 9223372036854775808 ∧ x.recd < 9223372036854775808) (hft : x.chests.length < 4611686018427387904) (v : Value) (w : World) (hv : RdI w w.heap.size v x.chests) :
    Calls Try.prog 28 #[sval x v] w fun e w' => e = .returned (.tuple #[.slice none 0 0, .int .i64 2]) ∧ Below w.heap.size w w' := by
  have hb1 : Below w.heap.size w (w.alloc (.cells #[.int .i64 x.gen, .int .i64 x.epoch, .int .i64 x.recd, v] 29)) := (Below.refl _ _).alloc (Nat.le_refl _) _
  have hsnd := soundS_any x hft v (w.alloc (.cells #[.int .i64 x.gen, .int .i64 x.epoch, .int .i64 x.recd, v] 29)) (hv.next hb1)
  have HV1 := Lib.hid (Whole.fresh w 29 [.int .i64 x.gen, .int .i64 x.epoch, .int .i64 x.recd, v])
  have HB1 := Lib.hid hb1; clear hb1
  have HVB := Lib.hid hv
  obtain ⟨A2, cc2, hvv2, _, _⟩ := hv.at
  subst hvv2
  clear hv
  unfold sval at hsnd ⊢
  rw [decide_eq_false hs] at hsnd
  have HSND := Lib.hid hsnd; clear hsnd
  go_enter Try.func28, Try.ntmps28
  go_wp2_with fail
  refine HSND.out.mono ?_
  rintro e w2 ⟨rfl, hb2⟩
  have HB2 := Lib.hid (HB1.out.trans (hb2.mono (by simp))); clear hb2
  go_wp2_with fail
  go_ret2
  exact ⟨rfl, HB2.out⟩

set_option maxHeartbeats 8000000 in
set_option maxRecDepth 100000 in
theorem pputS_ok (x : Sta) (hs : soundS x) (hr : x.gen < 9223372036854775808 ∧ x.epoch < 9223372036854775808 ∧ x.recd < 9223372036854775808) (hft : x.chests.length < 4611686018427387904) (v : Value) (w : World) (hv : RdI w w.heap.size v x.chests) :
    Calls Try.prog 28 #[sval x v] w fun e w' => ∃ v', e = .returned (.tuple #[v', .int .i64 0]) ∧ RdB w' w'.heap.size v' (staB x) ∧ Below w.heap.size w w' := by
  have hb1 : Below w.heap.size w (w.alloc (.cells #[.int .i64 x.gen, .int .i64 x.epoch, .int .i64 x.recd, v] 29)) := (Below.refl _ _).alloc (Nat.le_refl _) _
  have hsnd := soundS_any x hft v (w.alloc (.cells #[.int .i64 x.gen, .int .i64 x.epoch, .int .i64 x.recd, v] 29)) (hv.next hb1)
  have HV1 := Lib.hid (Whole.fresh w 29 [.int .i64 x.gen, .int .i64 x.epoch, .int .i64 x.recd, v])
  have HB1 := Lib.hid hb1; clear hb1
  have HVB := Lib.hid hv
  obtain ⟨A2, cc2, hvv2, _, _⟩ := hv.at
  subst hvv2
  clear hv
  unfold sval at hsnd ⊢
  rw [decide_eq_true hs] at hsnd
  have HSND := Lib.hid hsnd; clear hsnd
  have hin : staB x = ([] ++ encs [x.gen, x.epoch, x.recd, (x.chests.length : Int)]) ++ encs x.chests := by simp [staB]
  have hs2 := hs
  obtain ⟨⟨s1, s2, s3⟩, s4, s5⟩ := hs2
  obtain ⟨r1, r2, r3⟩ := hr
  have hrng : ∀ n ∈ [x.gen, x.epoch, x.recd, (x.chests.length : Int)], 0 ≤ n ∧ n < 9223372036854775808 := by
    simp only [List.mem_cons, List.not_mem_nil, or_false, forall_eq_or_imp, forall_eq]
    omega
  have hr2 : ∀ n ∈ x.chests, 0 ≤ n ∧ n < 9223372036854775808 := fun n h => by have := s5 n h; omega
  have hel := encs_len [x.gen, x.epoch, x.recd, (x.chests.length : Int)] (fun n h => (hrng n h).2)
  have hnum := fun (W : World) (v : Value) (base p : Nat) (h1 : FW W base p []) (h2 : RdI W W.heap.size v [x.gen, x.epoch, x.recd, (x.chests.length : Int)]) => fnums_any [x.gen, x.epoch, x.recd, (x.chests.length : Int)] hrng (by simp) v base p [] W h1 h2 (by simp)
  have h1l : ([] ++ encs [x.gen, x.epoch, x.recd, (x.chests.length : Int)]).length ≤ 36 := by simpa using hel
  generalize [] ++ encs [x.gen, x.epoch, x.recd, (x.chests.length : Int)] = L1 at hin hnum h1l
  have hnu2 := fun (W : World) (base p : Nat) (h1 : FW W base p L1) (h2 : RdI W W.heap.size (.slice A2 x.chests.length cc2) x.chests) => fnums_any x.chests hr2 (by omega) _ base p L1 W h1 h2 (by omega)
  generalize L1 ++ encs x.chests = L3 at hin hnu2
  have HNUM := Lib.hid hnum
  have HNU := Lib.hid hnu2
  have HIN := Lib.hid hin
  clear hnum hnu2 hin hel h1l hr2 hrng hs s1 s2 s3 s4 s5 r1 r2 r3 hft
  go_enter Try.func28, Try.ntmps28
  go_wp2_with fail
  refine HSND.out.mono ?_
  rintro e w0 ⟨rfl, hb2⟩
  have hV0 := HV1.out.below hb2 (by simp)
  have hbw : Below w.heap.size w w0 := HB1.out.trans (hb2.mono (by simp))
  have HV0 := Lib.hid hV0; clear hV0
  have HBW := Lib.hid hbw; clear hbw hb2
  have hlt0 : w.heap.size < w0.heap.size := HV0.out.size
  go_wp2_with fail
  obtain ⟨base, hbase⟩ : ∃ base, base = w0.heap.size := ⟨_, rfl⟩
  have hG0 : w.heap.size < base := by omega
  have HC := Lib.hid (fun W (hW : Below base w0 W) => HV0.out.below hW hG0)
  have HNU2 := Lib.hid (fun (W : World) (p : Nat) (h1 : FW W base p L1) (hW : Below base w0 W) (hz : base ≤ W.heap.size) => HNU.out W base p h1 (((HVB.out.below HBW.out (Nat.le_refl _)).below hW (by omega)).mono (by omega)))
  clear HNU
  refine wp_region_planT (fun W => Below base w0 W) (.take 1 (.take 2 (.take 3 (.take 4 (.take 5 (.take 6 (.take 7 (.take 8 (.take 9 (.take 12 (.take 13 (.fork 0 (.step 10 (.step 11 (.step 14 (.take 15 (.take 16 (.step 17 (.take 18 (.take 19 .done)))))))) 10 (.step 0 (.step 11 (.step 14 (.take 15 (.take 16 (.step 17 (.take 18 (.take 19 .done)))))))))))))))))))) (by kernel_rfl) (by kernel_rfl) (fun _ _ d _ _ h => by cases d <;> exact h) ((Below.refl _ _).drew) ?_
  have hS1 : Below base w0 w0.drew := (Below.refl _ _).drew
  have hz1 : base ≤ w0.drew.heap.size := by rw [hbase]; exact Nat.le_refl _
  have HBASE := Lib.hid hbase; clear hbase
  generalize w0.drew = w1 at hS1 hz1 ⊢
  have HS1 := Lib.hid hS1; clear hS1
  refine PlanT.takeI (v := ?_) rfl rfl ?_ ?_; rotate_left; (focus (intro W hW; have hC := HC.out W hW; have k0 := hC.cell 0 _ rfl; have k1 := hC.cell 1 _ rfl; have k2 := hC.cell 2 _ rfl; have k3 := hC.cell 3 _ rfl; go_simp; (try with_reducible rfl); done)); (try simp only [Act.put, List.setIfInBounds_toArray, List.set_cons_zero, List.set_cons_succ])
  refine PlanT.takeI (v := ?_) rfl rfl ?_ ?_; rotate_left; (focus (intro W hW; have hC := HC.out W hW; have k0 := hC.cell 0 _ rfl; have k1 := hC.cell 1 _ rfl; have k2 := hC.cell 2 _ rfl; have k3 := hC.cell 3 _ rfl; go_simp; (try with_reducible rfl); done)); (try simp only [Act.put, List.setIfInBounds_toArray, List.set_cons_zero, List.set_cons_succ])
  refine PlanT.takeI (v := ?_) rfl rfl ?_ ?_; rotate_left; (focus (intro W hW; have hC := HC.out W hW; have k0 := hC.cell 0 _ rfl; have k1 := hC.cell 1 _ rfl; have k2 := hC.cell 2 _ rfl; have k3 := hC.cell 3 _ rfl; go_simp; (try with_reducible rfl); done)); (try simp only [Act.put, List.setIfInBounds_toArray, List.set_cons_zero, List.set_cons_succ])
  refine PlanT.takeI (v := ?_) rfl rfl ?_ ?_; rotate_left; (focus (intro W hW; have hC := HC.out W hW; have k0 := hC.cell 0 _ rfl; have k1 := hC.cell 1 _ rfl; have k2 := hC.cell 2 _ rfl; have k3 := hC.cell 3 _ rfl; go_simp; (try with_reducible rfl); done)); (try simp only [Act.put, List.setIfInBounds_toArray, List.set_cons_zero, List.set_cons_succ])
  refine PlanT.takeI (v := ?_) rfl rfl ?_ ?_; rotate_left; (focus (intro W hW; have hC := HC.out W hW; have k0 := hC.cell 0 _ rfl; have k1 := hC.cell 1 _ rfl; have k2 := hC.cell 2 _ rfl; have k3 := hC.cell 3 _ rfl; go_simp; (try with_reducible rfl); done)); (try simp only [Act.put, List.setIfInBounds_toArray, List.set_cons_zero, List.set_cons_succ])
  refine PlanT.takeI (v := ?_) rfl rfl ?_ ?_; rotate_left; (focus (intro W hW; have hC := HC.out W hW; have k0 := hC.cell 0 _ rfl; have k1 := hC.cell 1 _ rfl; have k2 := hC.cell 2 _ rfl; have k3 := hC.cell 3 _ rfl; go_simp; (try with_reducible rfl); done)); (try simp only [Act.put, List.setIfInBounds_toArray, List.set_cons_zero, List.set_cons_succ])
  refine PlanT.takeI (v := ?_) rfl rfl ?_ ?_; rotate_left; (focus (intro W hW; have hC := HC.out W hW; have k0 := hC.cell 0 _ rfl; have k1 := hC.cell 1 _ rfl; have k2 := hC.cell 2 _ rfl; have k3 := hC.cell 3 _ rfl; go_simp; (try with_reducible rfl); done)); (try simp only [Act.put, List.setIfInBounds_toArray, List.set_cons_zero, List.set_cons_succ])
  refine PlanT.takeI (v := ?_) rfl rfl ?_ ?_; rotate_left; (focus (intro W hW; have hC := HC.out W hW; have k0 := hC.cell 0 _ rfl; have k1 := hC.cell 1 _ rfl; have k2 := hC.cell 2 _ rfl; have k3 := hC.cell 3 _ rfl; go_simp; (try with_reducible rfl); done)); (try simp only [Act.put, List.setIfInBounds_toArray, List.set_cons_zero, List.set_cons_succ])
  refine PlanT.takeI (v := ?_) rfl rfl ?_ ?_; rotate_left; (focus (intro W hW; have hC := HC.out W hW; have k0 := hC.cell 0 _ rfl; have k1 := hC.cell 1 _ rfl; have k2 := hC.cell 2 _ rfl; have k3 := hC.cell 3 _ rfl; go_simp; (try with_reducible rfl); done)); (try simp only [Act.put, List.setIfInBounds_toArray, List.set_cons_zero, List.set_cons_succ])
  refine PlanT.takeI (v := ?_) rfl rfl ?_ ?_; rotate_left; (focus (intro W hW; have hC := HC.out W hW; have k0 := hC.cell 0 _ rfl; have k1 := hC.cell 1 _ rfl; have k2 := hC.cell 2 _ rfl; have k3 := hC.cell 3 _ rfl; go_simp; (try with_reducible rfl); done)); (try simp only [Act.put, List.setIfInBounds_toArray, List.set_cons_zero, List.set_cons_succ])
  refine PlanT.takeI (v := ?_) rfl rfl ?_ ?_; rotate_left; (focus (intro W hW; have hC := HC.out W hW; have k0 := hC.cell 0 _ rfl; have k1 := hC.cell 1 _ rfl; have k2 := hC.cell 2 _ rfl; have k3 := hC.cell 3 _ rfl; go_simp; (try with_reducible rfl); done)); (try simp only [Act.put, List.setIfInBounds_toArray, List.set_cons_zero, List.set_cons_succ])
  refine ⟨?_, ?_⟩
  · refine wpOp_stepT rfl rfl (fun Kk hK => ?_)
    go_simp
    obtain ⟨w10, hw10⟩ : ∃ W, W = w1.alloc (.cells #[.slice none 0 0] 78) := ⟨_, rfl⟩
    have hb10 : Below w1.heap.size w1 w10 := by rw [hw10]; exact (Below.refl _ _).alloc (Nat.le_refl _) _
    have hz10 : base ≤ w10.heap.size := Nat.le_trans hz1 hb10.size
    have hS10 : Below base w0 w10 := HS1.out.trans (hb10.mono hz1)
    have hN10 : FW w10 base w1.heap.size [] := by rw [hw10]; exact FW.fresh _ _ hz1
    rw [← hw10]
    clear hw10 hb10
    obtain ⟨p10, hg10⟩ : ∃ g, g = w1.heap.size := ⟨_, rfl⟩
    rw [← hg10] at hN10 ⊢
    clear hg10
    have HS10 := Lib.hid hS10
    have HF10 := Lib.hid hN10
    refine hK.out _ _ hS10 ?_
    clear hK Kk hS10 hN10
    refine wpOp_stepT rfl rfl (fun Kk hK => ?_)
    go_simp
    obtain ⟨w11, hw11⟩ : ∃ W, W = w10.alloc (.cells #[.int .i64 x.gen, .int .i64 x.epoch, .int .i64 x.recd, .int .i64 (x.chests.length : Int)] 3) := ⟨_, rfl⟩
    have hb11 : Below w10.heap.size w10 w11 := by rw [hw11]; exact (Below.refl _ _).alloc (Nat.le_refl _) _
    have hz11 : base ≤ w11.heap.size := Nat.le_trans hz10 hb11.size
    have hS11 : Below base w0 w11 := HS10.out.trans (hb11.mono hz10)
    have hN11 : RdI w11 w11.heap.size (.slice (some ⟨w10.heap.size, 0, none⟩) 4 4) [x.gen, x.epoch, x.recd, (x.chests.length : Int)] := by rw [hw11, World.size_alloc]; exact RdI.lit _ [x.gen, x.epoch, x.recd, (x.chests.length : Int)]
    have HF11 := Lib.hid (HF10.out.more hb11 (Nat.le_refl _))
    rw [← hw11]
    clear hw11 hb11
    obtain ⟨g11, hg11⟩ : ∃ g, g = w10.heap.size := ⟨_, rfl⟩
    rw [← hg11] at hN11 ⊢
    clear hg11
    have HS11 := Lib.hid hS11
    have HI11_10 := Lib.hid hN11
    refine hK.out _ _ hS11 ?_
    clear hK Kk hS11 hN11
    refine wpOp_stepT rfl rfl (fun Kk hK => ?_)
    go_simp
    go_at_call 39
    refine (HNUM.out _ _ _ _ HF11.out HI11_10.out).mono ?_
    rintro e w12 ⟨rfl, hf12, hb12, hk12⟩
    have hz12 : base ≤ w12.heap.size := hf12.size
    have hS12 : Below base w0 w12 := HS11.out.trans hb12
    have HF12 := Lib.hid hf12
    have HS12 := Lib.hid hS12
    refine hK.out _ _ hS12 ?_
    clear hK Kk hS12 hf12 hb12 hk12
    refine wpOp_stepT rfl rfl (fun Kk hK => ?_)
    go_simp
    go_at_call 39
    refine (HNU2.out _ _ HF12.out HS12.out hz12).mono ?_
    rintro e w13 ⟨rfl, hf13, hb13, hk13⟩
    have hz13 : base ≤ w13.heap.size := hf13.size
    have hS13 : Below base w0 w13 := HS12.out.trans hb13
    have HF13 := Lib.hid hf13
    have HS13 := Lib.hid hS13
    refine hK.out _ _ hS13 ?_
    clear hK Kk hS13 hf13 hb13 hk13
    refine PlanT.takeI (v := ?_) rfl rfl ?_ ?_; rotate_left; (focus (intro W hW;  go_simp; (try with_reducible rfl); done)); (try simp only [Act.put, List.setIfInBounds_toArray, List.set_cons_zero, List.set_cons_succ])
    refine PlanT.takeI (v := ?_) rfl rfl ?_ ?_; rotate_left; (focus (intro W hW;  go_simp; (try with_reducible rfl); done)); (try simp only [Act.put, List.setIfInBounds_toArray, List.set_cons_zero, List.set_cons_succ])
    obtain ⟨A13, c13, hwh13, how13, hpp13, _⟩ := HF13.out
    have q13 := hwh13.cell 0 _ rfl
    have HOW13 := Lib.hid how13
    refine wpOp_stepT rfl rfl (fun Kk hK => ?_)
    go_simp
    refine hK.out _ _ HS13.out ?_
    clear hK Kk
    refine PlanT.takeI (v := ?_) rfl rfl ?_ ?_; rotate_left; (focus (intro W hW;  go_simp; (try with_reducible rfl); done)); (try simp only [Act.put, List.setIfInBounds_toArray, List.set_cons_zero, List.set_cons_succ])
    refine PlanT.takeI (v := ?_) rfl rfl ?_ ?_; rotate_left; (focus (intro W hW;  go_simp; (try with_reducible rfl); done)); (try simp only [Act.put, List.setIfInBounds_toArray, List.set_cons_zero, List.set_cons_succ])
    simp only [PlanT]
    have HBF := Lib.hid (show Below w.heap.size w w13 from HBW.out.trans (HS13.out.mono (by omega)))
    clear how13 hwh13 hpp13
    go_wp2_with fail
    go_ret2
    exact ⟨_, rfl, by rw [HIN.out]; exact HOW13.out.rdB, HBF.out⟩
  · refine wpOp_stepT rfl rfl (fun Kk hK => ?_)
    go_simp
    obtain ⟨w14, hw14⟩ : ∃ W, W = w1.alloc (.cells #[.int .i64 x.gen, .int .i64 x.epoch, .int .i64 x.recd, .int .i64 (x.chests.length : Int)] 3) := ⟨_, rfl⟩
    have hb14 : Below w1.heap.size w1 w14 := by rw [hw14]; exact (Below.refl _ _).alloc (Nat.le_refl _) _
    have hz14 : base ≤ w14.heap.size := Nat.le_trans hz1 hb14.size
    have hS14 : Below base w0 w14 := HS1.out.trans (hb14.mono hz1)
    have hN14 : RdI w14 w14.heap.size (.slice (some ⟨w1.heap.size, 0, none⟩) 4 4) [x.gen, x.epoch, x.recd, (x.chests.length : Int)] := by rw [hw14, World.size_alloc]; exact RdI.lit _ [x.gen, x.epoch, x.recd, (x.chests.length : Int)]
    rw [← hw14]
    clear hw14 hb14
    obtain ⟨g14, hg14⟩ : ∃ g, g = w1.heap.size := ⟨_, rfl⟩
    rw [← hg14] at hN14 ⊢
    clear hg14
    have HS14 := Lib.hid hS14
    have HI14_10 := Lib.hid hN14
    refine hK.out _ _ hS14 ?_
    clear hK Kk hS14 hN14
    refine wpOp_stepT rfl rfl (fun Kk hK => ?_)
    go_simp
    obtain ⟨w15, hw15⟩ : ∃ W, W = w14.alloc (.cells #[.slice none 0 0] 78) := ⟨_, rfl⟩
    have hb15 : Below w14.heap.size w14 w15 := by rw [hw15]; exact (Below.refl _ _).alloc (Nat.le_refl _) _
    have hz15 : base ≤ w15.heap.size := Nat.le_trans hz14 hb15.size
    have hS15 : Below base w0 w15 := HS14.out.trans (hb15.mono hz14)
    have hN15 : FW w15 base w14.heap.size [] := by rw [hw15]; exact FW.fresh _ _ hz14
    have HI15_10 := Lib.hid (show RdI w15 w15.heap.size (.slice (some ⟨g14, 0, none⟩) 4 4) [x.gen, x.epoch, x.recd, (x.chests.length : Int)] from HI14_10.out.next hb15)
    rw [← hw15]
    clear hw15 hb15
    obtain ⟨p15, hg15⟩ : ∃ g, g = w14.heap.size := ⟨_, rfl⟩
    rw [← hg15] at hN15 ⊢
    clear hg15
    have HS15 := Lib.hid hS15
    have HF15 := Lib.hid hN15
    refine hK.out _ _ hS15 ?_
    clear hK Kk hS15 hN15
    refine wpOp_stepT rfl rfl (fun Kk hK => ?_)
    go_simp
    go_at_call 39
    refine (HNUM.out _ _ _ _ HF15.out HI15_10.out).mono ?_
    rintro e w16 ⟨rfl, hf16, hb16, hk16⟩
    have hz16 : base ≤ w16.heap.size := hf16.size
    have hS16 : Below base w0 w16 := HS15.out.trans hb16
    have HF16 := Lib.hid hf16
    have HS16 := Lib.hid hS16
    refine hK.out _ _ hS16 ?_
    clear hK Kk hS16 hf16 hb16 hk16
    refine wpOp_stepT rfl rfl (fun Kk hK => ?_)
    go_simp
    go_at_call 39
    refine (HNU2.out _ _ HF16.out HS16.out hz16).mono ?_
    rintro e w17 ⟨rfl, hf17, hb17, hk17⟩
    have hz17 : base ≤ w17.heap.size := hf17.size
    have hS17 : Below base w0 w17 := HS16.out.trans hb17
    have HF17 := Lib.hid hf17
    have HS17 := Lib.hid hS17
    refine hK.out _ _ hS17 ?_
    clear hK Kk hS17 hf17 hb17 hk17
    refine PlanT.takeI (v := ?_) rfl rfl ?_ ?_; rotate_left; (focus (intro W hW;  go_simp; (try with_reducible rfl); done)); (try simp only [Act.put, List.setIfInBounds_toArray, List.set_cons_zero, List.set_cons_succ])
    refine PlanT.takeI (v := ?_) rfl rfl ?_ ?_; rotate_left; (focus (intro W hW;  go_simp; (try with_reducible rfl); done)); (try simp only [Act.put, List.setIfInBounds_toArray, List.set_cons_zero, List.set_cons_succ])
    obtain ⟨A17, c17, hwh17, how17, hpp17, _⟩ := HF17.out
    have q17 := hwh17.cell 0 _ rfl
    have HOW17 := Lib.hid how17
    refine wpOp_stepT rfl rfl (fun Kk hK => ?_)
    go_simp
    refine hK.out _ _ HS17.out ?_
    clear hK Kk
    refine PlanT.takeI (v := ?_) rfl rfl ?_ ?_; rotate_left; (focus (intro W hW;  go_simp; (try with_reducible rfl); done)); (try simp only [Act.put, List.setIfInBounds_toArray, List.set_cons_zero, List.set_cons_succ])
    refine PlanT.takeI (v := ?_) rfl rfl ?_ ?_; rotate_left; (focus (intro W hW;  go_simp; (try with_reducible rfl); done)); (try simp only [Act.put, List.setIfInBounds_toArray, List.set_cons_zero, List.set_cons_succ])
    simp only [PlanT]
    have HBF := Lib.hid (show Below w.heap.size w w17 from HBW.out.trans (HS17.out.mono (by omega)))
    clear how17 hwh17 hpp17
    go_wp2_with fail
    go_ret2
    exact ⟨_, rfl, by rw [HIN.out]; exact HOW17.out.rdB, HBF.out⟩
end Go.Proofs.Ytjmojlhebjbgaaa
namespace Go.Proofs.Ytjmojlhebjbgaaa
open Go.RowKit
attribute [local go_sem] less_eq same_eq le_eq ge_eq gt_eq

theorem Rd.put {α : Type} {enc : α → List Value} {k : Nat} {w : World} {B b o n c : Nat} {l : List α} (h : Rd enc k w B (.slice (some ⟨b, o, none⟩) n c) l) {g : Nat} (hg : b ≠ g) (i : Nat) (u : Value) : Rd enc k (w.setCell ⟨g, i, none⟩ u) B (.slice (some ⟨b, o, none⟩) n c) l := by
  obtain ⟨A, c', hv, hc, hi⟩ := h
  refine ⟨A, c', hv, hc, fun j hj => ?_⟩
  obtain ⟨b', o', hA, hB, h1⟩ := hi j hj
  refine ⟨b', o', hA, hB, fun q u' hu => ?_⟩
  have e : b' = b := by
    injection hv with e1
    rw [hA] at e1
    simp only [Option.some.injEq, Addr.mk.injEq] at e1
    exact e1.1.symm
  exact (World.cell?_setCell_other w ⟨g, i, none⟩ ⟨b', _, none⟩ u (by simp; try omega)).trans (h1 q u' hu)
theorem Rd.nilput {α : Type} {enc : α → List Value} {k : Nat} (w : World) (B : Nat) : Rd enc k w B (.slice none 0 0) [] := Rd.nil _ _

/-- a text as bytes, in memory of its own -/
theorem conv_any (w : World) (t : List UInt8) : ∃ c w', (convert 9 42 (.string (strB t))).run Try.prog w = .ok (.slice (some ⟨w.heap.size, 0, none⟩) t.length c) w' ∧ RdB w' w'.heap.size (.slice (some ⟨w.heap.size, 0, none⟩) t.length c) t ∧ Below w.heap.size w w' ∧ w.heap.size < w'.heap.size := by
  have h := Lib.run_convert_string_bytes (P := Try.prog) w 9 42 5 (strB t) Try.underlying9 Try.underlying42 Try.underlying5
  have hsz : (strB t).size = t.length := by simp [strB, ByteArray.size]
  rw [hsz] at h
  have h2 := Lib.bytesWorld_size w 5 (strB t)
  refine ⟨_, _, h, ⟨_, _, rfl, grownCap_ge _ _ _ _, fun i hi => ⟨w.heap.size, 0, rfl, by omega, fun j u hu => ?_⟩⟩, ⟨rfl, ?_, rfl, by omega, fun j hj => Lib.bytesWorld_at_old w _ _ j hj⟩, by omega⟩
  · match j, hu with
    | 0, hu =>
      simp only [byteEnc, List.getElem?_cons_zero, Option.some.injEq] at hu
      subst hu
      have := Lib.bytesWorld_cell w 5 (strB t) i (by rw [hsz]; exact hi)
      rw [Nat.zero_add, Nat.mul_one, Nat.add_zero, this]
      simp [strB, List.getD, hi]
    | j + 1, hu => simp [byteEnc] at hu
  · rfl

end Go.Proofs.Ytjmojlhebjbgaaa
namespace Go.Proofs.Ytjmojlhebjbgaaa
open Go.RowKit
attribute [local go_sem] less_eq same_eq le_eq ge_eq gt_eq

theorem rdSpans_len (most : Nat) (S : Rest) : ∀ s ∈ (rdList rdSpan most S).1, s.1.size ≤ 65536 ∧ s.2.size ≤ 65536 := repL_all (p := fun s : K × K => s.1.size ≤ 65536 ∧ s.2.size ≤ 65536) rdSpan_len _ _
theorem rdChgs_len (most : Nat) (S : Rest) : ∀ c ∈ (rdList rdChg most S).1, c.key.size ≤ 65536 ∧ c.val.size ≤ 65536 := repL_all (p := fun c : Chg => c.key.size ≤ 65536 ∧ c.val.size ≤ 65536) rdChg_len _ _
theorem rdNums_len (most : Nat) (S : Rest) : ∀ n ∈ (rdList rdN most S).1, 0 ≤ n ∧ n < 9223372036854775808 := repL_all (p := fun n : Int => 0 ≤ n ∧ n < 9223372036854775808) rdN_lt _ _

set_option maxHeartbeats 8000000 in
set_option maxRecDepth 100000 in
theorem pgetSO (l : List UInt8) (v : Value) (w : World) (hv : RdB w w.heap.size v l) (hl : l.length < 4611686018427387904) :
    Calls Try.prog 33 #[v] w fun e w' => ∃ v1, e = .returned (.tuple #[sval (getSta l).1 v1, .int .i64 (getSta l).2]) ∧ OwnI w' w.heap.size v1 (getSta l).1.chests ∧ Below w.heap.size w w' := by
  obtain ⟨w1, hw1⟩ : ∃ w1, w1 = w.alloc (.cells #[.int .i64 0, .int .i64 0, .int .i64 0, .slice none 0 0] 29) := ⟨_, rfl⟩
  have hb1 : Below w.heap.size w w1 := by rw [hw1]; exact (Below.refl _ _).alloc (Nat.le_refl _) _
  have hV1 : Whole w1 w.heap.size 29 [.int .i64 0, .int .i64 0, .int .i64 0, .slice none 0 0] := by rw [hw1]; exact Whole.fresh _ _ _
  have hfr := ffrom_any l v w1 (hv.next hb1) hl
  obtain ⟨R, hD⟩ : ∃ R, R = getSta l := ⟨_, rfl⟩
  rw [← hD]
  unfold getSta rdSta at hD
  simp only at hD
  have hN1 := fun W base p h => fnum_any (some l) base p W h
  generalize rdN (some l) = r1 at hN1 hD
  obtain ⟨n1, S1⟩ := r1
  simp only at hN1 hD
  have hN2 := fun W base p h => fnum_any S1 base p W h
  generalize rdN S1 = r2 at hN2 hD
  obtain ⟨n2, S2⟩ := r2
  simp only at hN2 hD
  have hN3 := fun W base p h => fnum_any S2 base p W h
  generalize rdN S2 = r3 at hN3 hD
  obtain ⟨n3, S3⟩ := r3
  simp only at hN3 hD
  have hL1 := fun W base p h => fnums_rd 16 (by omega) S3 base p W h
  have hln1 := rdList_len rdN 16 S3
  have hel1 := rdNums_len 16 S3
  generalize rdList rdN 16 S3 = q1 at hL1 hln1 hel1 hD
  obtain ⟨L1, T1⟩ := q1
  simp only at hL1 hln1 hel1 hD
  have hsd := fun (W : World) (v1 : Value) (h1 : RdI W W.heap.size v1 L1) => soundS_any ⟨n1, n2, n3, L1⟩ (by simp only; omega) v1 W h1
  have hwh := fun W base p h => fwhole_any T1 base p W h
  obtain ⟨D1, hD1⟩ : ∃ D1, D1 = decide (T1 = some []) := ⟨_, rfl⟩
  obtain ⟨D2, hD2⟩ : ∃ D2, D2 = decide (soundS ⟨n1, n2, n3, L1⟩) := ⟨_, rfl⟩
  rw [← hD1] at hwh
  rw [← hD2] at hsd
  have hyes : D1 = true → D2 = true → R = (⟨n1, n2, n3, L1⟩, 0) := fun h1 h2 => by
    rw [hD, if_pos ⟨of_decide_eq_true (hD1 ▸ h1), of_decide_eq_true (hD2 ▸ h2)⟩]
  have hno : ¬ (D1 = true ∧ D2 = true) → R = (zeroS, 2) := fun h => by
    rw [hD, if_neg fun h' => h ⟨by rw [hD1]; exact decide_eq_true h'.1, by rw [hD2]; exact decide_eq_true h'.2⟩]
  obtain ⟨A0, c0, hvv, _, _⟩ := hv.at
  subst hvv
  simp only [sval] at hsd
  have HYES := Lib.hid hyes
  have HNO := Lib.hid hno
  have HSD := Lib.hid hsd
  have HWH := Lib.hid hwh
  have HFR := Lib.hid hfr
  have HN1 := Lib.hid hN1
  have HN2 := Lib.hid hN2
  have HN3 := Lib.hid hN3
  have HL1 := Lib.hid hL1
  have HW1 := Lib.hid hw1
  have HB1 := Lib.hid hb1
  have HV1 := Lib.hid hV1
  have hwlt : w.heap.size < w1.heap.size := hV1.size
  clear hyes hno hsd hwh hfr hD hD1 hD2 hv hw1 hb1 hV1 hN1 hN2 hN3 hL1 hel1
  go_enter Try.func33, Try.ntmps33
  go_wp2_with fail
  rw [← HW1.out]
  refine HFR.out.mono ?_
  rintro e w2 ⟨p, rfl, hf2, hb2, hp⟩
  obtain ⟨base, hbase⟩ : ∃ base, base = w1.heap.size := ⟨_, rfl⟩
  rw [← hbase] at hf2 hb2 hp
  subst hp
  have HF2 := Lib.hid hf2
  have HO2 := Lib.hid (show Only p w1 w2 from (Only.refl _ _).below (by rw [← hbase]; exact hb2))
  have HBASE := Lib.hid hbase
  clear hf2 hb2 hbase
  go_wp2_with fail
  refine (HN1.out _ _ _ HF2.out).mono ?_
  rintro e w3 ⟨rfl, hf3, ho3⟩
  have HF3 := Lib.hid hf3
  have HO3 := Lib.hid (HO2.out.trans ho3)
  clear hf3 ho3
  go_wp2_with fail
  refine (HN2.out _ _ _ HF3.out).mono ?_
  rintro e w4 ⟨rfl, hf4, ho4⟩
  have HF4 := Lib.hid hf4
  have HO4 := Lib.hid (HO3.out.trans ho4)
  clear hf4 ho4
  go_wp2_with fail
  refine (HN3.out _ _ _ HF4.out).mono ?_
  rintro e w5 ⟨rfl, hf5, ho5⟩
  have HF5 := Lib.hid hf5
  have HO5 := Lib.hid (HO4.out.trans ho5)
  clear hf5 ho5
  go_wp2_with fail
  have hpl1 : p < w5.heap.size := HF5.out.size
  refine (HL1.out _ _ _ HF5.out).mono ?_
  rintro e w6 ⟨A1, c1, rfl, how1, hf6, ho6⟩
  have HF6 := Lib.hid hf6
  have HO6 := Lib.hid (HO5.out.trans ho6)
  have HW1_6 := Lib.hid how1
  clear hf6 ho6 how1
  go_wp2_with fail
  obtain ⟨w7, hw7⟩ : ∃ W, W = w6.alloc (.cells #[.int .i64 n1, .int .i64 n2, .int .i64 n3, .slice A1 L1.length c1] 29) := ⟨_, rfl⟩
  have hba : Below w6.heap.size w6 w7 := by rw [hw7]; exact (Below.refl _ _).alloc (Nat.le_refl _) _
  have hMa : Whole w7 w6.heap.size 29 [.int .i64 n1, .int .i64 n2, .int .i64 n3, .slice A1 L1.length c1] := by rw [hw7]; exact Whole.fresh _ _ _
  rw [← hw7]
  have hbl : Below w1.heap.size w1 w6 := HO6.out.low (by rw [HBASE.out]; exact Nat.le_refl _) (Nat.le_refl _)
  have hVz := HV1.out.below hbl hwlt
  have HVA := Lib.hid (hVz.below hba hVz.size)
  have HBA := Lib.hid (show Below w.heap.size w w7 from (HB1.out.trans (hbl.mono (by omega))).trans (hba.mono (by have := hVz.size; omega)))
  have HWC := Lib.hid (HWH.out _ _ _ (HF6.out.more hba))
  have HWA1 := Lib.hid (HW1_6.out.below hba (Nat.le_refl _))
  obtain ⟨G, hG⟩ : ∃ G, G = w6.heap.size := ⟨_, rfl⟩
  rw [← hG] at hMa ⊢
  have HMA := Lib.hid hMa
  clear hw7 hba hMa hG hbl hVz
  refine HWC.out.mono ?_
  rintro e wb ⟨rfl, rfl⟩
  cases D1 with
  | false =>
    have hr := HNO.out (by simp)
    have HRE := Lib.hid hr; clear hr
    have q0 := HVA.out.cell 0 _ rfl
    have g0 := HVA.out.frozen 0
    have q1 := HVA.out.cell 1 _ rfl
    have g1 := HVA.out.frozen 1
    have q2 := HVA.out.cell 2 _ rfl
    have g2 := HVA.out.frozen 2
    have q3 := HVA.out.cell 3 _ rfl
    have g3 := HVA.out.frozen 3
    go_wp2_with fail
    have hVZ := ((((HVA.out.put 0 (.int .i64 0)).put 1 (.int .i64 0)).put 2 (.int .i64 0)).put 3 (.slice none 0 0))
    have j0 := hVZ.cell 0 _ rfl
    have j1 := hVZ.cell 1 _ rfl
    have j2 := hVZ.cell 2 _ rfl
    have j3 := hVZ.cell 3 _ rfl
    rw [HRE.out]
    refine bodyPost_ret (v := .tuple #[.agg #[.int .i64 0, .int .i64 0, .int .i64 0, .slice none 0 0], .int .i64 2]) (by simp [results, Try.results33, go_sem, j0, j1, j2, j3]) rfl ⟨_, rfl, Own.nil _ _, ((((HBA.out.setCell (Nat.le_refl _) _).setCell (Nat.le_refl _) _).setCell (Nat.le_refl _) _).setCell (Nat.le_refl _) _)⟩
  | true =>
    have kk0 := HMA.out.cell 0 _ rfl
    have kk1 := HMA.out.cell 1 _ rfl
    have kk2 := HMA.out.cell 2 _ rfl
    have kk3 := HMA.out.cell 3 _ rfl
    have hsc := HSD.out wb _ (Own.rd encI_len HWA1.out)
    have HSC := Lib.hid hsc; clear hsc
    go_wp2_with fail
    refine HSC.out.mono ?_
    rintro e wc ⟨rfl, hbc⟩
    have HVC := Lib.hid (HVA.out.below hbc HVA.out.size)
    have HMC := Lib.hid (HMA.out.below hbc HMA.out.size)
    have HBC := Lib.hid (HBA.out.trans (hbc.mono (by have := HVA.out.size; omega)))
    have HWX1 := Lib.hid (HWA1.out.below hbc (Nat.le_refl _))
    clear hbc kk0 kk1 kk2 kk3
    cases D2 with
    | false =>
      have hr := HNO.out (by simp)
      have HRE := Lib.hid hr; clear hr
      have q0 := HVC.out.cell 0 _ rfl
      have g0 := HVC.out.frozen 0
      have q1 := HVC.out.cell 1 _ rfl
      have g1 := HVC.out.frozen 1
      have q2 := HVC.out.cell 2 _ rfl
      have g2 := HVC.out.frozen 2
      have q3 := HVC.out.cell 3 _ rfl
      have g3 := HVC.out.frozen 3
      go_wp2_with fail
      have hVZ := ((((HVC.out.put 0 (.int .i64 0)).put 1 (.int .i64 0)).put 2 (.int .i64 0)).put 3 (.slice none 0 0))
      have j0 := hVZ.cell 0 _ rfl
      have j1 := hVZ.cell 1 _ rfl
      have j2 := hVZ.cell 2 _ rfl
      have j3 := hVZ.cell 3 _ rfl
      rw [HRE.out]
      refine bodyPost_ret (v := .tuple #[.agg #[.int .i64 0, .int .i64 0, .int .i64 0, .slice none 0 0], .int .i64 2]) (by simp [results, Try.results33, go_sem, j0, j1, j2, j3]) rfl ⟨_, rfl, Own.nil _ _, ((((HBC.out.setCell (Nat.le_refl _) _).setCell (Nat.le_refl _) _).setCell (Nat.le_refl _) _).setCell (Nat.le_refl _) _)⟩
    | true =>
      have hr := HYES.out (by simp) (by simp)
      have HRE := Lib.hid hr; clear hr
      have kk0 := HMC.out.cell 0 _ rfl
      have kk1 := HMC.out.cell 1 _ rfl
      have kk2 := HMC.out.cell 2 _ rfl
      have kk3 := HMC.out.cell 3 _ rfl
      have q0 := HVC.out.cell 0 _ rfl
      have g0 := HVC.out.frozen 0
      have q1 := HVC.out.cell 1 _ rfl
      have g1 := HVC.out.frozen 1
      have q2 := HVC.out.cell 2 _ rfl
      have g2 := HVC.out.frozen 2
      have q3 := HVC.out.cell 3 _ rfl
      have g3 := HVC.out.frozen 3
      go_wp2_with fail
      have hVZ := ((((HVC.out.put 0 (.int .i64 n1)).put 1 (.int .i64 n2)).put 2 (.int .i64 n3)).put 3 (.slice A1 L1.length c1))
      have j0 := hVZ.cell 0 _ rfl
      have j1 := hVZ.cell 1 _ rfl
      have j2 := hVZ.cell 2 _ rfl
      have j3 := hVZ.cell 3 _ rfl
      rw [HRE.out]
      refine bodyPost_ret (v := .tuple #[.agg #[.int .i64 n1, .int .i64 n2, .int .i64 n3, .slice A1 L1.length c1], .int .i64 0]) (by simp [results, Try.results33, go_sem, j0, j1, j2, j3]) rfl ⟨_, rfl, ((((HWX1.out.put HVC.out (by decide) 0 (.int .i64 n1)).put (HVC.out.put 0 (.int .i64 n1)) (by decide) 1 (.int .i64 n2)).put ((HVC.out.put 0 (.int .i64 n1)).put 1 (.int .i64 n2)) (by decide) 2 (.int .i64 n3)).put (((HVC.out.put 0 (.int .i64 n1)).put 1 (.int .i64 n2)).put 2 (.int .i64 n3)) (by decide) 3 (.slice A1 L1.length c1)).lower (by have h1 := HO5.out.size; omega), ((((HBC.out.setCell (Nat.le_refl _) _).setCell (Nat.le_refl _) _).setCell (Nat.le_refl _) _).setCell (Nat.le_refl _) _)⟩

theorem pgetS (l : List UInt8) (v : Value) (w : World) (hv : RdB w w.heap.size v l) (hl : l.length < 4611686018427387904) :
    Calls Try.prog 33 #[v] w fun e w' => ∃ v1, e = .returned (.tuple #[sval (getSta l).1 v1, .int .i64 (getSta l).2]) ∧ RdI w' w'.heap.size v1 (getSta l).1.chests ∧ Below w.heap.size w w' := by
  refine (pgetSO l v w hv hl).mono ?_
  rintro e w' ⟨v1, h1, h2, h3⟩
  exact ⟨v1, h1, h2.rdI, h3⟩

end Go.Proofs.Ytjmojlhebjbgaaa

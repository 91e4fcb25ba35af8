/- The program's PutTxn, PutBatch, PutState. The program's Decode. The program's GetTxn, GetBatch, GetState. The reference's PutState, GetState. The reference of ballots: Encode. The program's ballots: ballots as bytes, Encode. The program's ballots: Encode. The program's ballots: ballots out of bytes. -/
import Derived.Test.YthoheikbpihflaaFaj
import Derived.Test.YthoheikbpihflaaFah
import Derived.Test.YthoheikbpihflaaFag
import Derived.Lib.ConvBytes
namespace Go.Proofs.Ythoheikbpihflaa
open Go.RowKit
attribute [local go_sem] less_eq same_eq le_eq ge_eq gt_eq

set_option maxHeartbeats 2000000 in
set_option maxRecDepth 100000 in
theorem pputS_bad (x : Sta) (hs : ¬ soundS x) (_hr : x.gen < 9223372036854775808 ∧ x.epoch < 9223372036854775808 ∧ x.recd < 9223372036854775808) (hft : x.chests.length < 4611686018427387904) (v : Value) (w : World) (hv : RdI w w.heap.size v x.chests) :
    Calls Try.prog 43 #[sval x v] w fun e w' => e = .returned (.tuple #[.slice none 0 0, .int .i64 2]) ∧ Below w.heap.size w w' := by
  have hb1 : Below w.heap.size w (w.alloc (.cells #[.int .i64 x.gen, .int .i64 x.epoch, .int .i64 x.recd, v] 35)) := (Below.refl _ _).alloc (Nat.le_refl _) _
  have hsnd := soundS_any x hft v (w.alloc (.cells #[.int .i64 x.gen, .int .i64 x.epoch, .int .i64 x.recd, v] 35)) (hv.next hb1)
  have HV1 := Lib.hid (Whole.fresh w 35 [.int .i64 x.gen, .int .i64 x.epoch, .int .i64 x.recd, v])
  have HB1 := Lib.hid hb1; clear hb1
  have HVB := Lib.hid hv
  obtain ⟨A2, cc2, hvv2, _, _⟩ := hv.at
  subst hvv2
  clear hv
  unfold sval at hsnd ⊢
  rw [decide_eq_false hs] at hsnd
  have HSND := Lib.hid hsnd; clear hsnd
  go_enter Try.func43, Try.ntmps43
  go_wp2_with fail
  refine HSND.out.mono ?_
  rintro e w2 ⟨rfl, hb2⟩
  have HB2 := Lib.hid (HB1.out.trans (hb2.mono (by simp))); clear hb2
  go_wp2_with fail
  go_ret2
  exact ⟨rfl, HB2.out⟩

set_option maxHeartbeats 8000000 in
set_option maxRecDepth 100000 in
theorem pputS_ok (x : Sta) (hs : soundS x) (hr : x.gen < 9223372036854775808 ∧ x.epoch < 9223372036854775808 ∧ x.recd < 9223372036854775808) (hft : x.chests.length < 4611686018427387904) (v : Value) (w : World) (hv : RdI w w.heap.size v x.chests) :
    Calls Try.prog 43 #[sval x v] w fun e w' => ∃ v', e = .returned (.tuple #[v', .int .i64 0]) ∧ RdB w' w'.heap.size v' (staB x) ∧ Below w.heap.size w w' := by
  have hb1 : Below w.heap.size w (w.alloc (.cells #[.int .i64 x.gen, .int .i64 x.epoch, .int .i64 x.recd, v] 35)) := (Below.refl _ _).alloc (Nat.le_refl _) _
  have hsnd := soundS_any x hft v (w.alloc (.cells #[.int .i64 x.gen, .int .i64 x.epoch, .int .i64 x.recd, v] 35)) (hv.next hb1)
  have HV1 := Lib.hid (Whole.fresh w 35 [.int .i64 x.gen, .int .i64 x.epoch, .int .i64 x.recd, v])
  have HB1 := Lib.hid hb1; clear hb1
  have HVB := Lib.hid hv
  obtain ⟨A2, cc2, hvv2, _, _⟩ := hv.at
  subst hvv2
  clear hv
  unfold sval at hsnd ⊢
  rw [decide_eq_true hs] at hsnd
  have HSND := Lib.hid hsnd; clear hsnd
  have hin : staB x = ([] ++ encs [x.gen, x.epoch, x.recd, (x.chests.length : Int)]) ++ encs x.chests := by simp [staB]
  have hs2 := hs
  obtain ⟨⟨s1, s2, s3⟩, s4, s5⟩ := hs2
  obtain ⟨r1, r2, r3⟩ := hr
  have hrng : ∀ n ∈ [x.gen, x.epoch, x.recd, (x.chests.length : Int)], 0 ≤ n ∧ n < 9223372036854775808 := by
    simp only [List.mem_cons, List.not_mem_nil, or_false, forall_eq_or_imp, forall_eq]
    omega
  have hr2 : ∀ n ∈ x.chests, 0 ≤ n ∧ n < 9223372036854775808 := fun n h => by have := s5 n h; omega
  have hel := encs_len [x.gen, x.epoch, x.recd, (x.chests.length : Int)] (fun n h => (hrng n h).2)
  have hnum := fun (W : World) (v : Value) (base p : Nat) (h1 : FW W base p []) (h2 : RdI W W.heap.size v [x.gen, x.epoch, x.recd, (x.chests.length : Int)]) => fnums_any [x.gen, x.epoch, x.recd, (x.chests.length : Int)] hrng (by simp) v base p [] W h1 h2 (by simp)
  have h1l : ([] ++ encs [x.gen, x.epoch, x.recd, (x.chests.length : Int)]).length ≤ 36 := by simpa using hel
  generalize [] ++ encs [x.gen, x.epoch, x.recd, (x.chests.length : Int)] = L1 at hin hnum h1l
  have hnu2 := fun (W : World) (base p : Nat) (h1 : FW W base p L1) (h2 : RdI W W.heap.size (.slice A2 x.chests.length cc2) x.chests) => fnums_any x.chests hr2 (by omega) _ base p L1 W h1 h2 (by omega)
  generalize L1 ++ encs x.chests = L3 at hin hnu2
  have HNUM := Lib.hid hnum
  have HNU := Lib.hid hnu2
  have HIN := Lib.hid hin
  clear hnum hnu2 hin hel h1l hr2 hrng hs s1 s2 s3 s4 s5 r1 r2 r3 hft
  go_enter Try.func43, Try.ntmps43
  go_wp2_with fail
  refine HSND.out.mono ?_
  rintro e w0 ⟨rfl, hb2⟩
  have hV0 := HV1.out.below hb2 (by simp)
  have hbw : Below w.heap.size w w0 := HB1.out.trans (hb2.mono (by simp))
  have HV0 := Lib.hid hV0; clear hV0
  have HBW := Lib.hid hbw; clear hbw hb2
  have hlt0 : w.heap.size < w0.heap.size := HV0.out.size
  go_wp2_with fail
  obtain ⟨base, hbase⟩ : ∃ base, base = w0.heap.size := ⟨_, rfl⟩
  have hG0 : w.heap.size < base := by omega
  have HC := Lib.hid (fun W (hW : Below base w0 W) => HV0.out.below hW hG0)
  have HNU2 := Lib.hid (fun (W : World) (p : Nat) (h1 : FW W base p L1) (hW : Below base w0 W) (hz : base ≤ W.heap.size) => HNU.out W base p h1 (((HVB.out.below HBW.out (Nat.le_refl _)).below hW (by omega)).mono (by omega)))
  clear HNU
  refine wp_region_planT (fun W => Below base w0 W) (.take 1 (.take 2 (.take 3 (.take 4 (.take 5 (.take 6 (.take 7 (.take 8 (.take 9 (.take 12 (.take 13 (.fork 0 (.step 10 (.step 11 (.step 14 (.take 15 (.take 16 (.step 17 (.take 18 (.take 19 .done)))))))) 10 (.step 0 (.step 11 (.step 14 (.take 15 (.take 16 (.step 17 (.take 18 (.take 19 .done)))))))))))))))))))) (by kernel_rfl) (by kernel_rfl) (fun _ _ d _ _ h => by cases d <;> exact h) ((Below.refl _ _).drew) ?_
  have hS1 : Below base w0 w0.drew := (Below.refl _ _).drew
  have hz1 : base ≤ w0.drew.heap.size := by rw [hbase]; exact Nat.le_refl _
  have HBASE := Lib.hid hbase; clear hbase
  generalize w0.drew = w1 at hS1 hz1 ⊢
  have HS1 := Lib.hid hS1; clear hS1
  refine PlanT.takeI (v := ?_) rfl rfl ?_ ?_; rotate_left; (focus (intro W hW; have hC := HC.out W hW; have k0 := hC.cell 0 _ rfl; have k1 := hC.cell 1 _ rfl; have k2 := hC.cell 2 _ rfl; have k3 := hC.cell 3 _ rfl; go_simp; (try with_reducible rfl); done)); (try simp only [Act.put, List.setIfInBounds_toArray, List.set_cons_zero, List.set_cons_succ])
  refine PlanT.takeI (v := ?_) rfl rfl ?_ ?_; rotate_left; (focus (intro W hW; have hC := HC.out W hW; have k0 := hC.cell 0 _ rfl; have k1 := hC.cell 1 _ rfl; have k2 := hC.cell 2 _ rfl; have k3 := hC.cell 3 _ rfl; go_simp; (try with_reducible rfl); done)); (try simp only [Act.put, List.setIfInBounds_toArray, List.set_cons_zero, List.set_cons_succ])
  refine PlanT.takeI (v := ?_) rfl rfl ?_ ?_; rotate_left; (focus (intro W hW; have hC := HC.out W hW; have k0 := hC.cell 0 _ rfl; have k1 := hC.cell 1 _ rfl; have k2 := hC.cell 2 _ rfl; have k3 := hC.cell 3 _ rfl; go_simp; (try with_reducible rfl); done)); (try simp only [Act.put, List.setIfInBounds_toArray, List.set_cons_zero, List.set_cons_succ])
  refine PlanT.takeI (v := ?_) rfl rfl ?_ ?_; rotate_left; (focus (intro W hW; have hC := HC.out W hW; have k0 := hC.cell 0 _ rfl; have k1 := hC.cell 1 _ rfl; have k2 := hC.cell 2 _ rfl; have k3 := hC.cell 3 _ rfl; go_simp; (try with_reducible rfl); done)); (try simp only [Act.put, List.setIfInBounds_toArray, List.set_cons_zero, List.set_cons_succ])
  refine PlanT.takeI (v := ?_) rfl rfl ?_ ?_; rotate_left; (focus (intro W hW; have hC := HC.out W hW; have k0 := hC.cell 0 _ rfl; have k1 := hC.cell 1 _ rfl; have k2 := hC.cell 2 _ rfl; have k3 := hC.cell 3 _ rfl; go_simp; (try with_reducible rfl); done)); (try simp only [Act.put, List.setIfInBounds_toArray, List.set_cons_zero, List.set_cons_succ])
  refine PlanT.takeI (v := ?_) rfl rfl ?_ ?_; rotate_left; (focus (intro W hW; have hC := HC.out W hW; have k0 := hC.cell 0 _ rfl; have k1 := hC.cell 1 _ rfl; have k2 := hC.cell 2 _ rfl; have k3 := hC.cell 3 _ rfl; go_simp; (try with_reducible rfl); done)); (try simp only [Act.put, List.setIfInBounds_toArray, List.set_cons_zero, List.set_cons_succ])
  refine PlanT.takeI (v := ?_) rfl rfl ?_ ?_; rotate_left; (focus (intro W hW; have hC := HC.out W hW; have k0 := hC.cell 0 _ rfl; have k1 := hC.cell 1 _ rfl; have k2 := hC.cell 2 _ rfl; have k3 := hC.cell 3 _ rfl; go_simp; (try with_reducible rfl); done)); (try simp only [Act.put, List.setIfInBounds_toArray, List.set_cons_zero, List.set_cons_succ])
  refine PlanT.takeI (v := ?_) rfl rfl ?_ ?_; rotate_left; (focus (intro W hW; have hC := HC.out W hW; have k0 := hC.cell 0 _ rfl; have k1 := hC.cell 1 _ rfl; have k2 := hC.cell 2 _ rfl; have k3 := hC.cell 3 _ rfl; go_simp; (try with_reducible rfl); done)); (try simp only [Act.put, List.setIfInBounds_toArray, List.set_cons_zero, List.set_cons_succ])
  refine PlanT.takeI (v := ?_) rfl rfl ?_ ?_; rotate_left; (focus (intro W hW; have hC := HC.out W hW; have k0 := hC.cell 0 _ rfl; have k1 := hC.cell 1 _ rfl; have k2 := hC.cell 2 _ rfl; have k3 := hC.cell 3 _ rfl; go_simp; (try with_reducible rfl); done)); (try simp only [Act.put, List.setIfInBounds_toArray, List.set_cons_zero, List.set_cons_succ])
  refine PlanT.takeI (v := ?_) rfl rfl ?_ ?_; rotate_left; (focus (intro W hW; have hC := HC.out W hW; have k0 := hC.cell 0 _ rfl; have k1 := hC.cell 1 _ rfl; have k2 := hC.cell 2 _ rfl; have k3 := hC.cell 3 _ rfl; go_simp; (try with_reducible rfl); done)); (try simp only [Act.put, List.setIfInBounds_toArray, List.set_cons_zero, List.set_cons_succ])
  refine PlanT.takeI (v := ?_) rfl rfl ?_ ?_; rotate_left; (focus (intro W hW; have hC := HC.out W hW; have k0 := hC.cell 0 _ rfl; have k1 := hC.cell 1 _ rfl; have k2 := hC.cell 2 _ rfl; have k3 := hC.cell 3 _ rfl; go_simp; (try with_reducible rfl); done)); (try simp only [Act.put, List.setIfInBounds_toArray, List.set_cons_zero, List.set_cons_succ])
  refine ⟨?_, ?_⟩
  · refine wpOp_stepT rfl rfl (fun Kk hK => ?_)
    go_simp
    obtain ⟨w10, hw10⟩ : ∃ W, W = w1.alloc (.cells #[.slice none 0 0] 109) := ⟨_, rfl⟩
    have hb10 : Below w1.heap.size w1 w10 := by rw [hw10]; exact (Below.refl _ _).alloc (Nat.le_refl _) _
    have hz10 : base ≤ w10.heap.size := Nat.le_trans hz1 hb10.size
    have hS10 : Below base w0 w10 := HS1.out.trans (hb10.mono hz1)
    have hN10 : FW w10 base w1.heap.size [] := by rw [hw10]; exact FW.fresh _ _ hz1
    rw [← hw10]
    clear hw10 hb10
    obtain ⟨p10, hg10⟩ : ∃ g, g = w1.heap.size := ⟨_, rfl⟩
    rw [← hg10] at hN10 ⊢
    clear hg10
    have HS10 := Lib.hid hS10
    have HF10 := Lib.hid hN10
    refine hK.out _ _ hS10 ?_
    clear hK Kk hS10 hN10
    refine wpOp_stepT rfl rfl (fun Kk hK => ?_)
    go_simp
    obtain ⟨w11, hw11⟩ : ∃ W, W = w10.alloc (.cells #[.int .i64 x.gen, .int .i64 x.epoch, .int .i64 x.recd, .int .i64 (x.chests.length : Int)] 3) := ⟨_, rfl⟩
    have hb11 : Below w10.heap.size w10 w11 := by rw [hw11]; exact (Below.refl _ _).alloc (Nat.le_refl _) _
    have hz11 : base ≤ w11.heap.size := Nat.le_trans hz10 hb11.size
    have hS11 : Below base w0 w11 := HS10.out.trans (hb11.mono hz10)
    have hN11 : RdI w11 w11.heap.size (.slice (some ⟨w10.heap.size, 0, none⟩) 4 4) [x.gen, x.epoch, x.recd, (x.chests.length : Int)] := by rw [hw11, World.size_alloc]; exact RdI.lit _ [x.gen, x.epoch, x.recd, (x.chests.length : Int)]
    have HF11 := Lib.hid (HF10.out.more hb11 (Nat.le_refl _))
    rw [← hw11]
    clear hw11 hb11
    obtain ⟨g11, hg11⟩ : ∃ g, g = w10.heap.size := ⟨_, rfl⟩
    rw [← hg11] at hN11 ⊢
    clear hg11
    have HS11 := Lib.hid hS11
    have HI11_10 := Lib.hid hN11
    refine hK.out _ _ hS11 ?_
    clear hK Kk hS11 hN11
    refine wpOp_stepT rfl rfl (fun Kk hK => ?_)
    go_simp
    go_at_call 57
    refine (HNUM.out _ _ _ _ HF11.out HI11_10.out).mono ?_
    rintro e w12 ⟨rfl, hf12, hb12, hk12⟩
    have hz12 : base ≤ w12.heap.size := hf12.size
    have hS12 : Below base w0 w12 := HS11.out.trans hb12
    have HF12 := Lib.hid hf12
    have HS12 := Lib.hid hS12
    refine hK.out _ _ hS12 ?_
    clear hK Kk hS12 hf12 hb12 hk12
    refine wpOp_stepT rfl rfl (fun Kk hK => ?_)
    go_simp
    go_at_call 57
    refine (HNU2.out _ _ HF12.out HS12.out hz12).mono ?_
    rintro e w13 ⟨rfl, hf13, hb13, hk13⟩
    have hz13 : base ≤ w13.heap.size := hf13.size
    have hS13 : Below base w0 w13 := HS12.out.trans hb13
    have HF13 := Lib.hid hf13
    have HS13 := Lib.hid hS13
    refine hK.out _ _ hS13 ?_
    clear hK Kk hS13 hf13 hb13 hk13
    refine PlanT.takeI (v := ?_) rfl rfl ?_ ?_; rotate_left; (focus (intro W hW;  go_simp; (try with_reducible rfl); done)); (try simp only [Act.put, List.setIfInBounds_toArray, List.set_cons_zero, List.set_cons_succ])
    refine PlanT.takeI (v := ?_) rfl rfl ?_ ?_; rotate_left; (focus (intro W hW;  go_simp; (try with_reducible rfl); done)); (try simp only [Act.put, List.setIfInBounds_toArray, List.set_cons_zero, List.set_cons_succ])
    obtain ⟨A13, c13, hwh13, how13, hpp13, _⟩ := HF13.out
    have q13 := hwh13.cell 0 _ rfl
    have HOW13 := Lib.hid how13
    refine wpOp_stepT rfl rfl (fun Kk hK => ?_)
    go_simp
    refine hK.out _ _ HS13.out ?_
    clear hK Kk
    refine PlanT.takeI (v := ?_) rfl rfl ?_ ?_; rotate_left; (focus (intro W hW;  go_simp; (try with_reducible rfl); done)); (try simp only [Act.put, List.setIfInBounds_toArray, List.set_cons_zero, List.set_cons_succ])
    refine PlanT.takeI (v := ?_) rfl rfl ?_ ?_; rotate_left; (focus (intro W hW;  go_simp; (try with_reducible rfl); done)); (try simp only [Act.put, List.setIfInBounds_toArray, List.set_cons_zero, List.set_cons_succ])
    simp only [PlanT]
    have HBF := Lib.hid (show Below w.heap.size w w13 from HBW.out.trans (HS13.out.mono (by omega)))
    clear how13 hwh13 hpp13
    go_wp2_with fail
    go_ret2
    exact ⟨_, rfl, by rw [HIN.out]; exact HOW13.out.rdB, HBF.out⟩
  · refine wpOp_stepT rfl rfl (fun Kk hK => ?_)
    go_simp
    obtain ⟨w14, hw14⟩ : ∃ W, W = w1.alloc (.cells #[.int .i64 x.gen, .int .i64 x.epoch, .int .i64 x.recd, .int .i64 (x.chests.length : Int)] 3) := ⟨_, rfl⟩
    have hb14 : Below w1.heap.size w1 w14 := by rw [hw14]; exact (Below.refl _ _).alloc (Nat.le_refl _) _
    have hz14 : base ≤ w14.heap.size := Nat.le_trans hz1 hb14.size
    have hS14 : Below base w0 w14 := HS1.out.trans (hb14.mono hz1)
    have hN14 : RdI w14 w14.heap.size (.slice (some ⟨w1.heap.size, 0, none⟩) 4 4) [x.gen, x.epoch, x.recd, (x.chests.length : Int)] := by rw [hw14, World.size_alloc]; exact RdI.lit _ [x.gen, x.epoch, x.recd, (x.chests.length : Int)]
    rw [← hw14]
    clear hw14 hb14
    obtain ⟨g14, hg14⟩ : ∃ g, g = w1.heap.size := ⟨_, rfl⟩
    rw [← hg14] at hN14 ⊢
    clear hg14
    have HS14 := Lib.hid hS14
    have HI14_10 := Lib.hid hN14
    refine hK.out _ _ hS14 ?_
    clear hK Kk hS14 hN14
    refine wpOp_stepT rfl rfl (fun Kk hK => ?_)
    go_simp
    obtain ⟨w15, hw15⟩ : ∃ W, W = w14.alloc (.cells #[.slice none 0 0] 109) := ⟨_, rfl⟩
    have hb15 : Below w14.heap.size w14 w15 := by rw [hw15]; exact (Below.refl _ _).alloc (Nat.le_refl _) _
    have hz15 : base ≤ w15.heap.size := Nat.le_trans hz14 hb15.size
    have hS15 : Below base w0 w15 := HS14.out.trans (hb15.mono hz14)
    have hN15 : FW w15 base w14.heap.size [] := by rw [hw15]; exact FW.fresh _ _ hz14
    have HI15_10 := Lib.hid (show RdI w15 w15.heap.size (.slice (some ⟨g14, 0, none⟩) 4 4) [x.gen, x.epoch, x.recd, (x.chests.length : Int)] from HI14_10.out.next hb15)
    rw [← hw15]
    clear hw15 hb15
    obtain ⟨p15, hg15⟩ : ∃ g, g = w14.heap.size := ⟨_, rfl⟩
    rw [← hg15] at hN15 ⊢
    clear hg15
    have HS15 := Lib.hid hS15
    have HF15 := Lib.hid hN15
    refine hK.out _ _ hS15 ?_
    clear hK Kk hS15 hN15
    refine wpOp_stepT rfl rfl (fun Kk hK => ?_)
    go_simp
    go_at_call 57
    refine (HNUM.out _ _ _ _ HF15.out HI15_10.out).mono ?_
    rintro e w16 ⟨rfl, hf16, hb16, hk16⟩
    have hz16 : base ≤ w16.heap.size := hf16.size
    have hS16 : Below base w0 w16 := HS15.out.trans hb16
    have HF16 := Lib.hid hf16
    have HS16 := Lib.hid hS16
    refine hK.out _ _ hS16 ?_
    clear hK Kk hS16 hf16 hb16 hk16
    refine wpOp_stepT rfl rfl (fun Kk hK => ?_)
    go_simp
    go_at_call 57
    refine (HNU2.out _ _ HF16.out HS16.out hz16).mono ?_
    rintro e w17 ⟨rfl, hf17, hb17, hk17⟩
    have hz17 : base ≤ w17.heap.size := hf17.size
    have hS17 : Below base w0 w17 := HS16.out.trans hb17
    have HF17 := Lib.hid hf17
    have HS17 := Lib.hid hS17
    refine hK.out _ _ hS17 ?_
    clear hK Kk hS17 hf17 hb17 hk17
    refine PlanT.takeI (v := ?_) rfl rfl ?_ ?_; rotate_left; (focus (intro W hW;  go_simp; (try with_reducible rfl); done)); (try simp only [Act.put, List.setIfInBounds_toArray, List.set_cons_zero, List.set_cons_succ])
    refine PlanT.takeI (v := ?_) rfl rfl ?_ ?_; rotate_left; (focus (intro W hW;  go_simp; (try with_reducible rfl); done)); (try simp only [Act.put, List.setIfInBounds_toArray, List.set_cons_zero, List.set_cons_succ])
    obtain ⟨A17, c17, hwh17, how17, hpp17, _⟩ := HF17.out
    have q17 := hwh17.cell 0 _ rfl
    have HOW17 := Lib.hid how17
    refine wpOp_stepT rfl rfl (fun Kk hK => ?_)
    go_simp
    refine hK.out _ _ HS17.out ?_
    clear hK Kk
    refine PlanT.takeI (v := ?_) rfl rfl ?_ ?_; rotate_left; (focus (intro W hW;  go_simp; (try with_reducible rfl); done)); (try simp only [Act.put, List.setIfInBounds_toArray, List.set_cons_zero, List.set_cons_succ])
    refine PlanT.takeI (v := ?_) rfl rfl ?_ ?_; rotate_left; (focus (intro W hW;  go_simp; (try with_reducible rfl); done)); (try simp only [Act.put, List.setIfInBounds_toArray, List.set_cons_zero, List.set_cons_succ])
    simp only [PlanT]
    have HBF := Lib.hid (show Below w.heap.size w w17 from HBW.out.trans (HS17.out.mono (by omega)))
    clear how17 hwh17 hpp17
    go_wp2_with fail
    go_ret2
    exact ⟨_, rfl, by rw [HIN.out]; exact HOW17.out.rdB, HBF.out⟩
end Go.Proofs.Ythoheikbpihflaa
namespace Go.Proofs.Ythoheikbpihflaa
open Go.RowKit
attribute [local go_sem] less_eq same_eq le_eq ge_eq gt_eq

theorem Rd.put {α : Type} {enc : α → List Value} {k : Nat} {w : World} {B b o n c : Nat} {l : List α} (h : Rd enc k w B (.slice (some ⟨b, o, none⟩) n c) l) {g : Nat} (hg : b ≠ g) (i : Nat) (u : Value) : Rd enc k (w.setCell ⟨g, i, none⟩ u) B (.slice (some ⟨b, o, none⟩) n c) l := by
  obtain ⟨A, c', hv, hc, hi⟩ := h
  refine ⟨A, c', hv, hc, fun j hj => ?_⟩
  obtain ⟨b', o', hA, hB, h1⟩ := hi j hj
  refine ⟨b', o', hA, hB, fun q u' hu => ?_⟩
  have e : b' = b := by
    injection hv with e1
    rw [hA] at e1
    simp only [Option.some.injEq, Addr.mk.injEq] at e1
    exact e1.1.symm
  exact (World.cell?_setCell_other w ⟨g, i, none⟩ ⟨b', _, none⟩ u (by simp; try omega)).trans (h1 q u' hu)
theorem Rd.nilput {α : Type} {enc : α → List Value} {k : Nat} (w : World) (B : Nat) : Rd enc k w B (.slice none 0 0) [] := Rd.nil _ _

/-- a text as bytes, in memory of its own -/
theorem conv_any (w : World) (t : List UInt8) : ∃ c w', (convert 9 56 (.string (strB t))).run Try.prog w = .ok (.slice (some ⟨w.heap.size, 0, none⟩) t.length c) w' ∧ RdB w' w'.heap.size (.slice (some ⟨w.heap.size, 0, none⟩) t.length c) t ∧ Below w.heap.size w w' ∧ w.heap.size < w'.heap.size := by
  have h := Lib.run_convert_string_bytes (P := Try.prog) w 9 56 5 (strB t) Try.underlying9 Try.underlying56 Try.underlying5
  have hsz : (strB t).size = t.length := by simp [strB, ByteArray.size]
  rw [hsz] at h
  have h2 := Lib.bytesWorld_size w 5 (strB t)
  refine ⟨_, _, h, ⟨_, _, rfl, grownCap_ge _ _ _ _, fun i hi => ⟨w.heap.size, 0, rfl, by omega, fun j u hu => ?_⟩⟩, ⟨rfl, ?_, rfl, by omega, fun j hj => Lib.bytesWorld_at_old w _ _ j hj⟩, by omega⟩
  · match j, hu with
    | 0, hu =>
      simp only [byteEnc, List.getElem?_cons_zero, Option.some.injEq] at hu
      subst hu
      have := Lib.bytesWorld_cell w 5 (strB t) i (by rw [hsz]; exact hi)
      rw [Nat.zero_add, Nat.mul_one, Nat.add_zero, this]
      simp [strB, List.getD, hi]
    | j + 1, hu => simp [byteEnc] at hu
  · rfl

end Go.Proofs.Ythoheikbpihflaa
namespace Go.Proofs.Ythoheikbpihflaa
open Go.RowKit
attribute [local go_sem] less_eq same_eq le_eq ge_eq gt_eq

theorem rdSpans_len (most : Nat) (S : Rest) : ∀ s ∈ (rdList rdSpan most S).1, s.1.size ≤ 65536 ∧ s.2.size ≤ 65536 := repL_all (p := fun s : K × K => s.1.size ≤ 65536 ∧ s.2.size ≤ 65536) rdSpan_len _ _
theorem rdChgs_len (most : Nat) (S : Rest) : ∀ c ∈ (rdList rdChg most S).1, c.key.size ≤ 65536 ∧ c.val.size ≤ 65536 := repL_all (p := fun c : Chg => c.key.size ≤ 65536 ∧ c.val.size ≤ 65536) rdChg_len _ _
theorem rdNums_len (most : Nat) (S : Rest) : ∀ n ∈ (rdList rdN most S).1, 0 ≤ n ∧ n < 9223372036854775808 := repL_all (p := fun n : Int => 0 ≤ n ∧ n < 9223372036854775808) rdN_lt _ _

set_option maxHeartbeats 8000000 in
set_option maxRecDepth 100000 in
theorem pgetSO (l : List UInt8) (v : Value) (w : World) (hv : RdB w w.heap.size v l) (hl : l.length < 4611686018427387904) :
    Calls Try.prog 38 #[v] w fun e w' => ∃ v1, e = .returned (.tuple #[sval (getSta l).1 v1, .int .i64 (getSta l).2]) ∧ OwnI w' w.heap.size v1 (getSta l).1.chests ∧ Below w.heap.size w w' := by
  obtain ⟨w1, hw1⟩ : ∃ w1, w1 = w.alloc (.cells #[.int .i64 0, .int .i64 0, .int .i64 0, .slice none 0 0] 35) := ⟨_, rfl⟩
  have hb1 : Below w.heap.size w w1 := by rw [hw1]; exact (Below.refl _ _).alloc (Nat.le_refl _) _
  have hV1 : Whole w1 w.heap.size 35 [.int .i64 0, .int .i64 0, .int .i64 0, .slice none 0 0] := by rw [hw1]; exact Whole.fresh _ _ _
  have hfr := ffrom_any l v w1 (hv.next hb1) hl
  obtain ⟨R, hD⟩ : ∃ R, R = getSta l := ⟨_, rfl⟩
  rw [← hD]
  unfold getSta rdSta at hD
  simp only at hD
  have hN1 := fun W base p h => fnum_any (some l) base p W h
  generalize rdN (some l) = r1 at hN1 hD
  obtain ⟨n1, S1⟩ := r1
  simp only at hN1 hD
  have hN2 := fun W base p h => fnum_any S1 base p W h
  generalize rdN S1 = r2 at hN2 hD
  obtain ⟨n2, S2⟩ := r2
  simp only at hN2 hD
  have hN3 := fun W base p h => fnum_any S2 base p W h
  generalize rdN S2 = r3 at hN3 hD
  obtain ⟨n3, S3⟩ := r3
  simp only at hN3 hD
  have hL1 := fun W base p h => fnums_rd 16 (by omega) S3 base p W h
  have hln1 := rdList_len rdN 16 S3
  have hel1 := rdNums_len 16 S3
  generalize rdList rdN 16 S3 = q1 at hL1 hln1 hel1 hD
  obtain ⟨L1, T1⟩ := q1
  simp only at hL1 hln1 hel1 hD
  have hsd := fun (W : World) (v1 : Value) (h1 : RdI W W.heap.size v1 L1) => soundS_any ⟨n1, n2, n3, L1⟩ (by simp only; omega) v1 W h1
  have hwh := fun W base p h => fwhole_any T1 base p W h
  obtain ⟨D1, hD1⟩ : ∃ D1, D1 = decide (T1 = some []) := ⟨_, rfl⟩
  obtain ⟨D2, hD2⟩ : ∃ D2, D2 = decide (soundS ⟨n1, n2, n3, L1⟩) := ⟨_, rfl⟩
  rw [← hD1] at hwh
  rw [← hD2] at hsd
  have hyes : D1 = true → D2 = true → R = (⟨n1, n2, n3, L1⟩, 0) := fun h1 h2 => by
    rw [hD, if_pos ⟨of_decide_eq_true (hD1 ▸ h1), of_decide_eq_true (hD2 ▸ h2)⟩]
  have hno : ¬ (D1 = true ∧ D2 = true) → R = (zeroS, 2) := fun h => by
    rw [hD, if_neg fun h' => h ⟨by rw [hD1]; exact decide_eq_true h'.1, by rw [hD2]; exact decide_eq_true h'.2⟩]
  obtain ⟨A0, c0, hvv, _, _⟩ := hv.at
  subst hvv
  simp only [sval] at hsd
  have HYES := Lib.hid hyes
  have HNO := Lib.hid hno
  have HSD := Lib.hid hsd
  have HWH := Lib.hid hwh
  have HFR := Lib.hid hfr
  have HN1 := Lib.hid hN1
  have HN2 := Lib.hid hN2
  have HN3 := Lib.hid hN3
  have HL1 := Lib.hid hL1
  have HW1 := Lib.hid hw1
  have HB1 := Lib.hid hb1
  have HV1 := Lib.hid hV1
  have hwlt : w.heap.size < w1.heap.size := hV1.size
  clear hyes hno hsd hwh hfr hD hD1 hD2 hv hw1 hb1 hV1 hN1 hN2 hN3 hL1 hel1
  go_enter Try.func38, Try.ntmps38
  go_wp2_with fail
  rw [← HW1.out]
  refine HFR.out.mono ?_
  rintro e w2 ⟨p, rfl, hf2, hb2, hp⟩
  obtain ⟨base, hbase⟩ : ∃ base, base = w1.heap.size := ⟨_, rfl⟩
  rw [← hbase] at hf2 hb2 hp
  subst hp
  have HF2 := Lib.hid hf2
  have HO2 := Lib.hid (show Only p w1 w2 from (Only.refl _ _).below (by rw [← hbase]; exact hb2))
  have HBASE := Lib.hid hbase
  clear hf2 hb2 hbase
  go_wp2_with fail
  refine (HN1.out _ _ _ HF2.out).mono ?_
  rintro e w3 ⟨rfl, hf3, ho3⟩
  have HF3 := Lib.hid hf3
  have HO3 := Lib.hid (HO2.out.trans ho3)
  clear hf3 ho3
  go_wp2_with fail
  refine (HN2.out _ _ _ HF3.out).mono ?_
  rintro e w4 ⟨rfl, hf4, ho4⟩
  have HF4 := Lib.hid hf4
  have HO4 := Lib.hid (HO3.out.trans ho4)
  clear hf4 ho4
  go_wp2_with fail
  refine (HN3.out _ _ _ HF4.out).mono ?_
  rintro e w5 ⟨rfl, hf5, ho5⟩
  have HF5 := Lib.hid hf5
  have HO5 := Lib.hid (HO4.out.trans ho5)
  clear hf5 ho5
  go_wp2_with fail
  have hpl1 : p < w5.heap.size := HF5.out.size
  refine (HL1.out _ _ _ HF5.out).mono ?_
  rintro e w6 ⟨A1, c1, rfl, how1, hf6, ho6⟩
  have HF6 := Lib.hid hf6
  have HO6 := Lib.hid (HO5.out.trans ho6)
  have HW1_6 := Lib.hid how1
  clear hf6 ho6 how1
  go_wp2_with fail
  obtain ⟨w7, hw7⟩ : ∃ W, W = w6.alloc (.cells #[.int .i64 n1, .int .i64 n2, .int .i64 n3, .slice A1 L1.length c1] 35) := ⟨_, rfl⟩
  have hba : Below w6.heap.size w6 w7 := by rw [hw7]; exact (Below.refl _ _).alloc (Nat.le_refl _) _
  have hMa : Whole w7 w6.heap.size 35 [.int .i64 n1, .int .i64 n2, .int .i64 n3, .slice A1 L1.length c1] := by rw [hw7]; exact Whole.fresh _ _ _
  rw [← hw7]
  have hbl : Below w1.heap.size w1 w6 := HO6.out.low (by rw [HBASE.out]; exact Nat.le_refl _) (Nat.le_refl _)
  have hVz := HV1.out.below hbl hwlt
  have HVA := Lib.hid (hVz.below hba hVz.size)
  have HBA := Lib.hid (show Below w.heap.size w w7 from (HB1.out.trans (hbl.mono (by omega))).trans (hba.mono (by have := hVz.size; omega)))
  have HWC := Lib.hid (HWH.out _ _ _ (HF6.out.more hba))
  have HWA1 := Lib.hid (HW1_6.out.below hba (Nat.le_refl _))
  obtain ⟨G, hG⟩ : ∃ G, G = w6.heap.size := ⟨_, rfl⟩
  rw [← hG] at hMa ⊢
  have HMA := Lib.hid hMa
  clear hw7 hba hMa hG hbl hVz
  refine HWC.out.mono ?_
  rintro e wb ⟨rfl, rfl⟩
  cases D1 with
  | false =>
    have hr := HNO.out (by simp)
    have HRE := Lib.hid hr; clear hr
    have q0 := HVA.out.cell 0 _ rfl
    have g0 := HVA.out.frozen 0
    have q1 := HVA.out.cell 1 _ rfl
    have g1 := HVA.out.frozen 1
    have q2 := HVA.out.cell 2 _ rfl
    have g2 := HVA.out.frozen 2
    have q3 := HVA.out.cell 3 _ rfl
    have g3 := HVA.out.frozen 3
    go_wp2_with fail
    have hVZ := ((((HVA.out.put 0 (.int .i64 0)).put 1 (.int .i64 0)).put 2 (.int .i64 0)).put 3 (.slice none 0 0))
    have j0 := hVZ.cell 0 _ rfl
    have j1 := hVZ.cell 1 _ rfl
    have j2 := hVZ.cell 2 _ rfl
    have j3 := hVZ.cell 3 _ rfl
    rw [HRE.out]
    refine bodyPost_ret (v := .tuple #[.agg #[.int .i64 0, .int .i64 0, .int .i64 0, .slice none 0 0], .int .i64 2]) (by simp [results, Try.results38, go_sem, j0, j1, j2, j3]) rfl ⟨_, rfl, Own.nil _ _, ((((HBA.out.setCell (Nat.le_refl _) _).setCell (Nat.le_refl _) _).setCell (Nat.le_refl _) _).setCell (Nat.le_refl _) _)⟩
  | true =>
    have kk0 := HMA.out.cell 0 _ rfl
    have kk1 := HMA.out.cell 1 _ rfl
    have kk2 := HMA.out.cell 2 _ rfl
    have kk3 := HMA.out.cell 3 _ rfl
    have hsc := HSD.out wb _ (Own.rd encI_len HWA1.out)
    have HSC := Lib.hid hsc; clear hsc
    go_wp2_with fail
    refine HSC.out.mono ?_
    rintro e wc ⟨rfl, hbc⟩
    have HVC := Lib.hid (HVA.out.below hbc HVA.out.size)
    have HMC := Lib.hid (HMA.out.below hbc HMA.out.size)
    have HBC := Lib.hid (HBA.out.trans (hbc.mono (by have := HVA.out.size; omega)))
    have HWX1 := Lib.hid (HWA1.out.below hbc (Nat.le_refl _))
    clear hbc kk0 kk1 kk2 kk3
    cases D2 with
    | false =>
      have hr := HNO.out (by simp)
      have HRE := Lib.hid hr; clear hr
      have q0 := HVC.out.cell 0 _ rfl
      have g0 := HVC.out.frozen 0
      have q1 := HVC.out.cell 1 _ rfl
      have g1 := HVC.out.frozen 1
      have q2 := HVC.out.cell 2 _ rfl
      have g2 := HVC.out.frozen 2
      have q3 := HVC.out.cell 3 _ rfl
      have g3 := HVC.out.frozen 3
      go_wp2_with fail
      have hVZ := ((((HVC.out.put 0 (.int .i64 0)).put 1 (.int .i64 0)).put 2 (.int .i64 0)).put 3 (.slice none 0 0))
      have j0 := hVZ.cell 0 _ rfl
      have j1 := hVZ.cell 1 _ rfl
      have j2 := hVZ.cell 2 _ rfl
      have j3 := hVZ.cell 3 _ rfl
      rw [HRE.out]
      refine bodyPost_ret (v := .tuple #[.agg #[.int .i64 0, .int .i64 0, .int .i64 0, .slice none 0 0], .int .i64 2]) (by simp [results, Try.results38, go_sem, j0, j1, j2, j3]) rfl ⟨_, rfl, Own.nil _ _, ((((HBC.out.setCell (Nat.le_refl _) _).setCell (Nat.le_refl _) _).setCell (Nat.le_refl _) _).setCell (Nat.le_refl _) _)⟩
    | true =>
      have hr := HYES.out (by simp) (by simp)
      have HRE := Lib.hid hr; clear hr
      have kk0 := HMC.out.cell 0 _ rfl
      have kk1 := HMC.out.cell 1 _ rfl
      have kk2 := HMC.out.cell 2 _ rfl
      have kk3 := HMC.out.cell 3 _ rfl
      have q0 := HVC.out.cell 0 _ rfl
      have g0 := HVC.out.frozen 0
      have q1 := HVC.out.cell 1 _ rfl
      have g1 := HVC.out.frozen 1
      have q2 := HVC.out.cell 2 _ rfl
      have g2 := HVC.out.frozen 2
      have q3 := HVC.out.cell 3 _ rfl
      have g3 := HVC.out.frozen 3
      go_wp2_with fail
      have hVZ := ((((HVC.out.put 0 (.int .i64 n1)).put 1 (.int .i64 n2)).put 2 (.int .i64 n3)).put 3 (.slice A1 L1.length c1))
      have j0 := hVZ.cell 0 _ rfl
      have j1 := hVZ.cell 1 _ rfl
      have j2 := hVZ.cell 2 _ rfl
      have j3 := hVZ.cell 3 _ rfl
      rw [HRE.out]
      refine bodyPost_ret (v := .tuple #[.agg #[.int .i64 n1, .int .i64 n2, .int .i64 n3, .slice A1 L1.length c1], .int .i64 0]) (by simp [results, Try.results38, go_sem, j0, j1, j2, j3]) rfl ⟨_, rfl, ((((HWX1.out.put HVC.out (by decide) 0 (.int .i64 n1)).put (HVC.out.put 0 (.int .i64 n1)) (by decide) 1 (.int .i64 n2)).put ((HVC.out.put 0 (.int .i64 n1)).put 1 (.int .i64 n2)) (by decide) 2 (.int .i64 n3)).put (((HVC.out.put 0 (.int .i64 n1)).put 1 (.int .i64 n2)).put 2 (.int .i64 n3)) (by decide) 3 (.slice A1 L1.length c1)).lower (by have h1 := HO5.out.size; omega), ((((HBC.out.setCell (Nat.le_refl _) _).setCell (Nat.le_refl _) _).setCell (Nat.le_refl _) _).setCell (Nat.le_refl _) _)⟩

theorem pgetS (l : List UInt8) (v : Value) (w : World) (hv : RdB w w.heap.size v l) (hl : l.length < 4611686018427387904) :
    Calls Try.prog 38 #[v] w fun e w' => ∃ v1, e = .returned (.tuple #[sval (getSta l).1 v1, .int .i64 (getSta l).2]) ∧ RdI w' w'.heap.size v1 (getSta l).1.chests ∧ Below w.heap.size w w' := by
  refine (pgetSO l v w hv hl).mono ?_
  rintro e w' ⟨v1, h1, h2, h3⟩
  exact ⟨v1, h1, h2.rdI, h3⟩

end Go.Proofs.Ythoheikbpihflaa
namespace Go.Proofs.Ythoheikbpihflaa
open Go.RowKit
attribute [local go_sem] less_eq same_eq le_eq ge_eq gt_eq

end Go.Proofs.Ythoheikbpihflaa
namespace Go.Proofs.Ythoheikbpihflaa
open Go.RowKit

theorem staB_len {s : Sta} (h : soundS s) (hf : s.gen < 9223372036854775808 ∧ s.epoch < 9223372036854775808 ∧ s.recd < 9223372036854775808) : (staB s).length ≤ 1000 := by
  obtain ⟨_, h2, h3⟩ := h
  have e1 := encs_len [s.gen, s.epoch, s.recd, (s.chests.length : Int)] (by
    intro n hn
    simp only [List.mem_cons, List.not_mem_nil, or_false] at hn
    omega)
  have e2 := encs_len s.chests (fun n hn => by have := h3 n hn; omega)
  unfold staB
  rw [List.length_append]
  simp only [List.length_cons, List.length_nil] at e1
  omega
theorem encs4_len {a b c d : Int} (h : a < 9223372036854775808 ∧ b < 9223372036854775808 ∧ c < 9223372036854775808 ∧ d < 9223372036854775808) : (encs [a, b, c, d]).length ≤ 36 := by
  have e1 := encs_len [a, b, c, d] (by
    intro n hn
    simp only [List.mem_cons, List.not_mem_nil, or_false] at hn
    omega)
  simpa using e1
theorem nums4 {a b c d : Int} (h : 0 ≤ a ∧ 0 ≤ b ∧ 0 ≤ c ∧ 0 ≤ d) : numsAns [a, b, c, d] = (encs [a, b, c, d], 0) := by
  unfold numsAns
  rw [if_neg (by simp), if_neg (by simp; omega)]

end Go.Proofs.Ythoheikbpihflaa
namespace Go.Proofs.Ythoheikbpihflaa
open Go.RowKit

def encBal (b : Bal) : List Value := [.int .i64 b.1, .int .i64 b.2]
theorem encBal_len (b : Bal) : (encBal b).length = 2 := rfl
abbrev RdBl (w : World) (B : Nat) (v : Value) (l : List Bal) : Prop := Rd encBal 2 w B v l
theorem RdBl.at {w : World} {B : Nat} {v : Value} {l : List Bal} (h : RdBl w B v l) : ∃ A c, v = .slice A l.length c ∧ l.length ≤ c ∧ ∀ i (_ : i < l.length), ∃ b o, A = some ⟨b, o, none⟩ ∧ b < B ∧ w.cell? ⟨b, o + i * 2, none⟩ = some (.int .i64 l[i].1) ∧ w.cell? ⟨b, o + i * 2 + 1, none⟩ = some (.int .i64 l[i].2) := by
  obtain ⟨A, c, hv, hc, hi⟩ := h
  refine ⟨A, c, hv, hc, fun i hs => ?_⟩
  obtain ⟨b, o, hA, hB, hk⟩ := hi i hs
  exact ⟨b, o, hA, hB, hk 0 _ rfl, hk 1 _ rfl⟩
theorem RdBl.two (w : World) (a b c d : Int) : RdBl (w.alloc (.cells #[.int .i64 a, .int .i64 b, .int .i64 c, .int .i64 d] 32)) (w.heap.size + 1) (.slice (some ⟨w.heap.size, 0, none⟩) 2 2) [(a, b), (c, d)] := by
  refine ⟨_, 2, rfl, Nat.le_refl _, fun i hi => ⟨w.heap.size, 0, rfl, Nat.lt_succ_self _, fun j u hu => ?_⟩⟩
  have h := Whole.fresh w 32 [.int .i64 a, .int .i64 b, .int .i64 c, .int .i64 d]
  have hj : j < 2 := by
    rcases Nat.lt_or_ge j 2 with h | h
    · exact h
    · rw [List.getElem?_eq_none (by rw [encBal_len]; exact h)] at hu; cases hu
  match i, hi with
  | 0, _ =>
    match j, hj with
    | 0, _ => exact h.cell 0 u hu
    | 1, _ => exact h.cell 1 u hu
  | 1, _ =>
    match j, hj with
    | 0, _ => exact h.cell 2 u hu
    | 1, _ => exact h.cell 3 u hu
/-- the numbers of ballots -/
def balNums (l : List Bal) : List Int := l.flatMap fun b => [b.1, b.2]
theorem balNums_len (l : List Bal) : (balNums l).length = l.length * 2 := by
  induction l with
  | nil => rfl
  | cons b l ih => simp [balNums] at ih ⊢; omega
theorem balNums_succ (l : List Bal) (i : Nat) (h : i < l.length) : balNums (l.take (i + 1)) = balNums (l.take i) ++ [l[i].1, l[i].2] := by
  rw [List.take_succ_eq_append_getElem h]
  unfold balNums
  rw [List.flatMap_append]
  rfl

set_option maxHeartbeats 2000000 in
set_option maxRecDepth 100000 in
theorem putBallots_any (l : List Bal) (hr : ∀ n ∈ balNums l, n < 9223372036854775808) (hl : l.length ≤ 1000) (v : Value) (w : World) (hv : RdBl w w.heap.size v l) :
    Calls Try.prog 54 #[v] w fun e w' => ∃ v', e = .returned (.tuple #[v', .int .i64 (numsAns (balNums l)).2]) ∧ OwnB w' w.heap.size v' (numsAns (balNums l)).1 ∧ Below w.heap.size w w' := by
  obtain ⟨A, c, rfl, hc, hi⟩ := hv.at
  have HI := Lib.hid hi; clear hi hv
  have hnl := balNums_len l
  have hnu := fun W v' (h : RdI W W.heap.size v' (balNums l)) => numsO_any (balNums l) hr v' W h (by omega)
  generalize numsAns (balNums l) = R at hnu ⊢
  have HNU := Lib.hid hnu
  clear hr hnl hnu
  obtain ⟨g, hg⟩ : ∃ g, g = w.heap.size := ⟨_, rfl⟩
  have HG := Lib.hid hg; clear hg
  go_enter Try.func54, Try.ntmps54
  go_wp2_with fail
  go_loopw [4, 9] (fun ov iv wr => ∃ (i : Nat) (A' : Option Addr) (c' : Nat), i ≤ l.length ∧ iv = .int .i64 i ∧ ov = .slice A' (balNums (l.take i)).length c' ∧ Hid (OwnI wr g (.slice A' (balNums (l.take i)).length c') (balNums (l.take i))) ∧ Hid (Below g w wr) ∧ Hid (g ≤ wr.heap.size)) (fun _ iv _ => l.length - (intOf iv).toNat)
  case atStart => exact ⟨0, none, 0, Nat.zero_le _, rfl, rfl, Lib.hid (Own.nil _ _), Lib.hid (by rw [HG.out]; exact Below.refl _ _), Lib.hid (by rw [HG.out]; exact Nat.le_refl _)⟩
  case round =>
    obtain ⟨i, A', c', hil, rfl, rfl, HO, HB, HGS⟩ := hrel
    by_cases hlt : i < l.length
    · obtain ⟨b, o, rfl, hbB, h1, h2⟩ := HI.out i hlt
      have k0 := (HB.out.cell (p := ⟨b, o + i * 2, none⟩) (by rw [HG.out]; exact hbB)).trans h1
      have k1 := (HB.out.cell (p := ⟨b, o + i * 2 + 1, none⟩) (by rw [HG.out]; exact hbB)).trans h2
      have hnx := balNums_succ l i hlt
      have hln := balNums_len (l.take i)
      have hlt2 : (l.take i).length ≤ 1000 := by rw [List.length_take]; omega
      generalize l[i] = x at h1 h2 k0 k1 hnx
      obtain ⟨x1, x2⟩ := x
      simp only at k0 k1 hnx
      clear h1 h2
      have hbd : (balNums (l.take i)).length + [x1, x2].length ≤ 28147497670000 := by rw [hln]; simp only [List.length_cons, List.length_nil]; omega
      have HNX := Lib.hid hnx
      have HBD := Lib.hid hbd
      clear hnx hln hlt2 hbd
      generalize balNums (l.take i) = N at HO HNX HBD
      have h0 : (0 : Int) ≤ (i : Int) := by omega
      have h1 : (i : Int) < (l.length : Int) := by omega
      have hgs := HGS.out
      have HOa := Lib.hid (show OwnI ((wr.alloc (.cells #[.int .i64 x1, .int .i64 x2] 32)).alloc (.cells #[.int .i64 x1, .int .i64 x2] 3)) g (.slice A' N.length c') N from (HO.out.alloc _).alloc _)
      have HRa := Lib.hid (show RdI ((wr.alloc (.cells #[.int .i64 x1, .int .i64 x2] 32)).alloc (.cells #[.int .i64 x1, .int .i64 x2] 3)) (wr.heap.size + 1 + 1) (.slice (some ⟨wr.heap.size + 1, 0, none⟩) 2 2) [x1, x2] from by
        have h := RdI.lit (wr.alloc (.cells #[.int .i64 x1, .int .i64 x2] 32)) [x1, x2]
        rw [World.size_alloc] at h
        exact h)
      have HBa := Lib.hid (show Below g w ((wr.alloc (.cells #[.int .i64 x1, .int .i64 x2] 32)).alloc (.cells #[.int .i64 x1, .int .i64 x2] 3)) from (HB.out.alloc hgs _).alloc (by rw [World.size_alloc]; omega) _)
      have HSa := Lib.hid (show g ≤ ((wr.alloc (.cells #[.int .i64 x1, .int .i64 x2] 32)).alloc (.cells #[.int .i64 x1, .int .i64 x2] 3)).heap.size from by rw [World.size_alloc, World.size_alloc]; omega)
      clear hgs
      go_wp2_with (at_builtin; go_must (refine wpList_addI rfl _ _ rfl g _ N rfl HOa.out _ _ [x1, x2] rfl HRa.out HBD.out HSa.out g w HBa.out (Nat.le_refl _) ?_))
      intro A2 c2 w2 ho2 hb2 hg2
      rw [← HNX.out] at ho2
      have HLN := Lib.hid (show N.length + 1 + 1 = (balNums (l.take (i + 1))).length from by rw [HNX.out]; simp)
      have HO2 := Lib.hid (show OwnI w2 g (.slice A2 (balNums (l.take (i + 1))).length c2) (balNums (l.take (i + 1))) from by rw [← HLN.out]; exact ho2.out)
      clear ho2
      clear HOa HRa HBa HSa HO HB HGS
      go_wp2_with fail
      go_roundw
      case rel => exact ⟨i + 1, A2, c2, by omega, by go_num, by (first | rw [← HLN.out] | (rw [← HLN.out, List.length_append]; rfl) | (rw [HNX.out])), HO2, hb2, hg2⟩
      case measure => simp [intOf]; omega
    · obtain rfl : i = l.length := by omega
      rw [List.take_length] at HO
      have HC := Lib.hid (HNU.out wr _ (OwnI.rdI HO.out))
      clear HNU HI
      rw [List.take_length]
      go_wp2_with fail
      refine HC.out.mono ?_
      rintro e w3 ⟨v3, rfl, ho, hb3⟩
      have HO3 := Lib.hid (ho.lower HGS.out)
      have HB3 := Lib.hid (HB.out.trans (hb3.mono HGS.out))
      clear ho hb3
      go_wp2_with fail
      go_ret2
      exact ⟨v3, rfl, by rw [← HG.out]; exact HO3.out, by rw [← HG.out]; exact HB3.out⟩
end Go.Proofs.Ythoheikbpihflaa
namespace Go.Proofs.Ythoheikbpihflaa
open Go.RowKit

theorem pputS_any (x : Sta) (hr : x.gen < 9223372036854775808 ∧ x.epoch < 9223372036854775808 ∧ x.recd < 9223372036854775808) (hft : x.chests.length < 4611686018427387904) (v : Value) (w : World) (hv : RdI w w.heap.size v x.chests) :
    Calls Try.prog 43 #[sval x v] w fun e w' => ∃ v', e = .returned (.tuple #[v', .int .i64 (putSta x).2]) ∧ RdB w' w'.heap.size v' (putSta x).1 ∧ Below w.heap.size w w' := by
  unfold putSta
  by_cases hs : soundS x
  · rw [if_pos hs]
    exact pputS_ok x hs hr hft v w hv
  · rw [if_neg hs]
    refine (pputS_bad x hs hr hft v w hv).mono ?_
    rintro e w' ⟨rfl, hb⟩
    exact ⟨_, rfl, Rd.nil _ _, hb⟩
/-- what the four numbers and the state say of the vow -/
theorem encV_cases (x : Vw) (hf : x.fits) : ((numsAns [x.prom.1, x.prom.2, x.at'.1, x.at'.2]).2 ≠ 0 ∧ encV x = ([], 2)) ∨ ((numsAns [x.prom.1, x.prom.2, x.at'.1, x.at'.2]).2 = 0 ∧ (putSta x.took).2 ≠ 0 ∧ encV x = ([], 2)) ∨
    ((numsAns [x.prom.1, x.prom.2, x.at'.1, x.at'.2]).2 = 0 ∧ (putSta x.took).2 = 0 ∧ lessB x.prom x.at' = true ∧ encV x = ([], 2)) ∨
    ((numsAns [x.prom.1, x.prom.2, x.at'.1, x.at'.2]).2 = 0 ∧ (putSta x.took).2 = 0 ∧ lessB x.prom x.at' = false ∧ encV x = ((numsAns [x.prom.1, x.prom.2, x.at'.1, x.at'.2]).1 ++ (putSta x.took).1, 0) ∧ (numsAns [x.prom.1, x.prom.2, x.at'.1, x.at'.2]).1.length ≤ 36 ∧ (putSta x.took).1.length ≤ 1000) := by
  by_cases h4 : 0 ≤ x.prom.1 ∧ 0 ≤ x.prom.2 ∧ 0 ≤ x.at'.1 ∧ 0 ≤ x.at'.2
  · have hn := nums4 h4
    have hl := encs4_len hf.1
    by_cases hs : soundS x.took
    · have hp : putSta x.took = (staB x.took, 0) := by unfold putSta; rw [if_pos hs]
      cases hL : lessB x.prom x.at' with
      | true =>
        refine .inr (.inr (.inl ⟨by rw [hn], by rw [hp], rfl, ?_⟩))
        unfold encV
        rw [if_neg]
        rintro ⟨_, _, h⟩
        rw [h] at hL
        cases hL
      | false =>
        refine .inr (.inr (.inr ⟨by rw [hn], by rw [hp], rfl, ?_, by rw [hn]; exact hl, by rw [hp]; exact staB_len hs hf.2⟩))
        unfold encV
        rw [if_pos ⟨h4, hs, hL⟩, hn, hp]
        rfl
    · refine .inr (.inl ⟨by rw [hn], by unfold putSta; rw [if_neg hs]; decide, ?_⟩)
      unfold encV
      rw [if_neg]
      rintro ⟨_, h, _⟩
      exact hs h
  · refine .inl ⟨?_, ?_⟩
    · unfold numsAns
      rw [if_neg (by simp), if_pos (by simp; omega)]
      decide
    · unfold encV
      rw [if_neg]
      rintro ⟨h, _, _⟩
      exact h4 h

set_option maxHeartbeats 4000000 in
set_option maxRecDepth 100000 in
theorem vencodeO_any (x : Vw) (v : Value) (w : World) (hv : RdI w w.heap.size v x.took.chests) (hl : x.took.chests.length ≤ 17592186043904) (hf : x.fits) :
    Calls Try.prog 41 #[vwv x v] w fun e w' => ∃ v', e = .returned (.tuple #[v', .int .i64 (encV x).2]) ∧ OwnB w' w.heap.size v' (encV x).1 ∧ Below w.heap.size w w' := by
  have hcs := encV_cases x hf
  have hfi := hf.1
  have hpb := fun W v' (h : RdBl W W.heap.size v' [x.prom, x.at']) => putBallots_any [x.prom, x.at'] (by
    intro n hn
    simp only [balNums, List.flatMap_cons, List.flatMap_nil, List.mem_append, List.mem_cons, List.not_mem_nil, or_false] at hn
    omega) (by simp) v' W h
  have hps := fun W (h : RdI W W.heap.size v x.took.chests) => pputS_any x.took hf.2 (by omega) v W h
  rw [show balNums [x.prom, x.at'] = [x.prom.1, x.prom.2, x.at'.1, x.at'.2] from rfl] at hpb
  generalize numsAns [x.prom.1, x.prom.2, x.at'.1, x.at'.2] = R at hcs hpb
  generalize putSta x.took = S at hcs hps
  generalize encV x = E at hcs ⊢
  obtain ⟨R1, R2⟩ := R
  obtain ⟨S1, S2⟩ := S
  have hv0 := hv
  obtain ⟨A0, c0, rfl, _, _⟩ := hv0.at
  obtain ⟨⟨p1, p2⟩, ⟨a1, a2⟩, ⟨g, ep, rc, ch⟩⟩ := x
  have hl0 := fun W => pless_any (p1, p2) (a1, a2) W
  unfold vwv
  unfold blv at hl0
  unfold sval at hps
  simp only at hcs hpb hps hl0 hv ⊢
  generalize lessB (p1, p2) (a1, a2) = r at hcs hl0
  have HL := Lib.hid hl0
  have HPS := Lib.hid hps
  have HCS := Lib.hid hcs
  clear hl0 hps hcs hfi hf hl hv0
  obtain ⟨w1, hw1⟩ : ∃ w1, w1 = w.alloc (.cells #[.int .i64 p1, .int .i64 p2, .int .i64 a1, .int .i64 a2, .int .i64 g, .int .i64 ep, .int .i64 rc, .slice A0 ch.length c0] 37) := ⟨_, rfl⟩
  obtain ⟨w2, hw2⟩ : ∃ w2, w2 = w1.alloc (.cells #[.int .i64 p1, .int .i64 p2, .int .i64 a1, .int .i64 a2] 32) := ⟨_, rfl⟩
  have hs1 : w1.heap.size = w.heap.size + 1 := by rw [hw1]; simp
  have hs2 : w2.heap.size = w.heap.size + 1 + 1 := by rw [hw2, World.size_alloc, hs1]
  have hX : Whole w2 w.heap.size 37 [.int .i64 p1, .int .i64 p2, .int .i64 a1, .int .i64 a2, .int .i64 g, .int .i64 ep, .int .i64 rc, .slice A0 ch.length c0] := by
    rw [hw2, hw1]; exact (Whole.fresh w _ [.int .i64 p1, .int .i64 p2, .int .i64 a1, .int .i64 a2, .int .i64 g, .int .i64 ep, .int .i64 rc, .slice A0 ch.length c0]).alloc _
  have hb2 : Below w.heap.size w w2 := by rw [hw2, hw1]; exact ((Below.refl _ w).alloc (Nat.le_refl _) _).alloc (by simp) _
  have hRB : RdBl w2 w2.heap.size (.slice (some ⟨w.heap.size + 1, 0, none⟩) 2 2) [(p1, p2), (a1, a2)] := by
    rw [hw2, World.size_alloc, ← hs1]; exact RdBl.two w1 p1 p2 a1 a2
  have HPB := Lib.hid (hpb w2 _ hRB)
  have HV := Lib.hid hv
  have HX := Lib.hid hX
  have HB2 := Lib.hid hb2
  have HS2 := Lib.hid hs2
  clear hpb hRB hv hX hb2 hs2 hs1
  go_enter Try.func41, Try.ntmps41
  go_wp2_with fail
  rw [← hw1, ← hw2]
  clear hw1 hw2
  refine HPB.out.mono ?_
  rintro e w3 ⟨v3, rfl, ho3, hb3⟩
  have hs2 := HS2.out
  have hX3 := HX.out.below hb3 (by omega)
  have HB3 := Lib.hid (HB2.out.trans (hb3.mono (by omega)))
  have HO3 := Lib.hid ho3
  have HC := Lib.hid (HPS.out w3 ((HV.out.below HB3.out (Nat.le_refl _)).mono HB3.out.size))
  have hz3 : w2.heap.size ≤ w3.heap.size := hb3.size
  have x4 := hX3.cell 4 _ rfl
  have x5 := hX3.cell 5 _ rfl
  have x6 := hX3.cell 6 _ rfl
  have x7 := hX3.cell 7 _ rfl
  have HX3 := Lib.hid hX3
  clear hX3 ho3 hb3
  go_wp2_with fail
  refine HC.out.mono ?_
  rintro e w4 ⟨v4, rfl, hr4, hb4⟩
  have hX4 := HX3.out.below hb4 (by omega)
  have HB4 := Lib.hid (HB3.out.trans (hb4.mono (by omega)))
  have HO4 := Lib.hid (HO3.out.below hb4 (Nat.le_refl _))
  have HR4 := Lib.hid hr4
  have hz4 : w3.heap.size ≤ w4.heap.size := hb4.size
  clear hr4 hb4 x4 x5 x6 x7
  rcases HCS.out with ⟨h1, hE⟩ | ⟨h1, h2, hE⟩ | ⟨h1, h2, h3, hE⟩ | ⟨h1, h2, h3, hE, hn1, hn2⟩
  · have HE := Lib.hid hE
    clear hE HCS hX4
    go_wp2_with fail
    go_ret2
    exact ⟨_, by rw [HE.out]; rfl, by rw [HE.out]; exact Own.nil _ _, HB4.out⟩
  · have HE := Lib.hid hE
    clear hE HCS hX4
    subst h1
    go_wp2_with fail
    go_ret2
    exact ⟨_, by rw [HE.out]; rfl, by rw [HE.out]; exact Own.nil _ _, HB4.out⟩
  · have HE := Lib.hid hE
    subst h1 h2
    rw [h3] at HL
    have x0 := hX4.cell 0 _ rfl
    have x1 := hX4.cell 1 _ rfl
    have x2 := hX4.cell 2 _ rfl
    have x3 := hX4.cell 3 _ rfl
    clear hE HCS hX4 h3
    go_wp2_with fail
    refine (HL.out w4).mono ?_
    rintro e w5 ⟨rfl, hb5⟩
    have HB5 := Lib.hid (HB4.out.trans (hb5.mono (by omega)))
    clear hb5 x0 x1 x2 x3
    go_wp2_with fail
    go_ret2
    exact ⟨_, by rw [HE.out]; rfl, by rw [HE.out]; exact Own.nil _ _, HB5.out⟩
  · have HE := Lib.hid hE
    subst h1 h2
    rw [h3] at HL
    have x0 := hX4.cell 0 _ rfl
    have x1 := hX4.cell 1 _ rfl
    have x2 := hX4.cell 2 _ rfl
    have x3 := hX4.cell 3 _ rfl
    have HN := Lib.hid (show R1.length + S1.length ≤ 100000 from by omega)
    clear hE HCS hX4 h3 hn1 hn2
    go_wp2_with fail
    refine (HL.out w4).mono ?_
    rintro e w5 ⟨rfl, hb5⟩
    have HB5 := Lib.hid (HB4.out.trans (hb5.mono (by omega)))
    have HO5 := Lib.hid ((HO4.out.below hb5 (Nat.le_refl _)).lower (base' := w.heap.size) (by omega))
    have HR5 := Lib.hid (HR4.out.below hb5 (Nat.le_refl _))
    have HZ := Lib.hid HB5.out.size
    clear hb5 x0 x1 x2 x3
    go_wp2_with (at_builtin; go_must (refine wpList_addB rfl _ _ rfl w.heap.size v3 R1 rfl HO5.out w4.heap.size v4 S1 rfl HR5.out (by have := HN.out; omega) HZ.out w.heap.size w HB5.out (Nat.le_refl _) ?_))
    intro A6 c6 w6 ho6 hb6 _
    go_wp2_with fail
    go_ret2
    exact ⟨_, by rw [HE.out]; rfl, by rw [HE.out]; exact ho6.out, hb6.out⟩
set_option maxRecDepth 100000 in
theorem vencode_any (x : Vw) (v : Value) (w : World) (hv : RdI w w.heap.size v x.took.chests) (hl : x.took.chests.length ≤ 17592186043904) (hf : x.fits) :
    Calls Try.prog 41 #[vwv x v] w fun e w' => ∃ v', e = .returned (.tuple #[v', .int .i64 (encV x).2]) ∧ RdB w' w'.heap.size v' (encV x).1 ∧ Below w.heap.size w w' := by
  refine (vencodeO_any x v w hv hl hf).mono ?_
  rintro e w' ⟨v', rfl, ho, hb⟩
  exact ⟨v', rfl, ho.rdB, hb⟩
end Go.Proofs.Ythoheikbpihflaa
namespace Go.Proofs.Ythoheikbpihflaa
open Go.RowKit

/-- the bytes that are left behind so many numbers -/
def stg (l : List UInt8) : Nat → Rest
  | 0 => some l
  | k + 1 => (rdN (stg l k)).2
def stn (l : List UInt8) (k : Nat) : Int := (rdN (stg l k)).1
theorem rd4_stg (l : List UInt8) : rd4 (some l) = ((stn l 0, stn l 1, stn l 2, stn l 3), stg l 4) := rfl
theorem stg_none {l : List UInt8} {k : Nat} (h : stg l k = none) : ∀ m, stg l (k + m) = none
  | 0 => h
  | m + 1 => by
    show (rdN (stg l (k + m))).2 = none
    rw [stg_none h m]
    rfl
/-- what stands in the ballots when so many numbers are read -/
def stc (l : List UInt8) (k j : Nat) : Value := if j < k then .int .i64 (stn l j) else .int .i64 0
structure GbAt (l : List UInt8) (g : Nat) (w : World) (k : Nat) (W : World) (r : List UInt8) (A : Option Addr) (c : Nat) : Prop where
  st : stg l k = some r
  rd : RdB W g (.slice A r.length c) r
  len : r.length < 4611686018427387904
  p : Whole W g 32 [stc l k 0, stc l k 1]
  q : Whole W (g + 1) 32 [stc l k 2, stc l k 3]
  li : Whole W (g + 2) 86 [.pointer (some ⟨g, 0, none⟩), .pointer (some ⟨g + 1, 0, none⟩)]
  mv : Mv (fun b => b = g ∨ b = g + 1) w W
  sz : g + 3 ≤ W.heap.size
theorem GbAt.more {l r : List UInt8} {g k : Nat} {w W W2 : World} {A : Option Addr} {c : Nat} (h : GbAt l g w k W r A c) (hb : Below W.heap.size W W2) : GbAt l g w k W2 r A c :=
  ⟨h.st, h.rd.below hb (by have := h.sz; omega), h.len, h.p.below hb h.p.size, h.q.below hb h.q.size, h.li.below hb h.li.size, h.mv.trans (Mv.of_new hb (fun _ => False)) (fun _ _ h => h.elim), Nat.le_trans h.sz hb.size⟩
theorem GbAt.cell {l r : List UInt8} {g w W A c} {i j : Nat} (h : GbAt l g w (2 * i + j) W r A c) (hi : i < 2) (hj : j < 2) : ∃ z, W.cell? ⟨g + i, j, none⟩ = some (.int .i64 z) ∧ W.frozen? ⟨g + i, j, none⟩ = false := by
  have hz : ∀ k j, ∃ z, stc l k j = .int .i64 z := fun k j => by unfold stc; split <;> exact ⟨_, rfl⟩
  match i, hi with
  | 0, _ =>
    match j, hj with
    | 0, _ => obtain ⟨z, e⟩ := hz 0 0; exact ⟨z, h.p.cell 0 _ (by show some _ = _; rw [← e]), h.p.frozen 0⟩
    | 1, _ => obtain ⟨z, e⟩ := hz 1 1; exact ⟨z, h.p.cell 1 _ (by show some _ = _; rw [← e]), h.p.frozen 1⟩
  | 1, _ =>
    match j, hj with
    | 0, _ => obtain ⟨z, e⟩ := hz 2 2; exact ⟨z, h.q.cell 0 _ (by show some _ = _; rw [← e]), h.q.frozen 0⟩
    | 1, _ => obtain ⟨z, e⟩ := hz 3 3; exact ⟨z, h.q.cell 1 _ (by show some _ = _; rw [← e]), h.q.frozen 1⟩
theorem GbAt.ptr {l r : List UInt8} {g w W A c} {k i : Nat} (h : GbAt l g w k W r A c) (hi : i < 2) : W.cell? ⟨g + 2, i, none⟩ = some (.pointer (some ⟨g + i, 0, none⟩)) := by
  match i, hi with
  | 0, _ => exact h.li.cell 0 _ rfl
  | 1, _ => exact h.li.cell 1 _ rfl
/-- one number more -/
theorem GbAt.step {l r : List UInt8} {g : Nat} {w W : World} {A : Option Addr} {c i j n u : Nat} (h : GbAt l g w (2 * i + j) W r A c) (hi : i < 2) (hj : j < 2) (hn : numAns r = (n, u, 0)) (A' : Option Addr) (c' : Nat)
    (hr : RdB W g (.slice A' (r.drop u).length c') (r.drop u)) : GbAt l g w (2 * i + (j + 1)) (W.setCell ⟨g + i, j, none⟩ (.int .i64 (n : Int))) (r.drop u) A' c' := by
  have hrd : rdN (some r) = ((n : Int), some (r.drop u)) := by rw [rdN, hn]; rfl
  have hst : stg l (2 * i + (j + 1)) = some (r.drop u) := by
    show (rdN (stg l (2 * i + j))).2 = _
    rw [h.st, hrd]
  have hsn : stn l (2 * i + j) = (n : Int) := by unfold stn; rw [h.st, hrd]
  have hb : Below g W (W.setCell ⟨g + i, j, none⟩ (.int .i64 (n : Int))) := (Below.refl _ _).setCell (by show g ≤ g + i; omega) _
  have hpq : Whole (W.setCell ⟨g + i, j, none⟩ (.int .i64 (n : Int))) g 32 [stc l (2 * i + (j + 1)) 0, stc l (2 * i + (j + 1)) 1] ∧ Whole (W.setCell ⟨g + i, j, none⟩ (.int .i64 (n : Int))) (g + 1) 32 [stc l (2 * i + (j + 1)) 2, stc l (2 * i + (j + 1)) 3] := by
    match i, hi with
    | 0, _ =>
      match j, hj with
      | 0, _ => exact ⟨by have := h.p.put 0 (.int .i64 (n : Int)); rw [← hsn] at this; rw [← hsn]; exact this, h.q.away (by show g + 1 ≠ g; omega) _⟩
      | 1, _ => exact ⟨by have := h.p.put 1 (.int .i64 (n : Int)); rw [← hsn] at this; rw [← hsn]; exact this, h.q.away (by show g + 1 ≠ g; omega) _⟩
    | 1, _ =>
      match j, hj with
      | 0, _ => exact ⟨h.p.away (by show g ≠ g + 1; omega) _, by have := h.q.put 0 (.int .i64 (n : Int)); rw [← hsn] at this; rw [← hsn]; exact this⟩
      | 1, _ => exact ⟨h.p.away (by show g ≠ g + 1; omega) _, by have := h.q.put 1 (.int .i64 (n : Int)); rw [← hsn] at this; rw [← hsn]; exact this⟩
  exact ⟨hst, hr.below hb (Nat.le_refl _), by rw [List.length_drop]; have := h.len; omega, hpq.1, hpq.2, h.li.away (by show g + 2 ≠ g + i; omega) _, h.mv.setCell (fun _ => by show g + i = g ∨ g + i = g + 1; omega) _, by simp; exact h.sz⟩
theorem GbAt.drew {l r : List UInt8} {g k : Nat} {w W : World} {A : Option Addr} {c : Nat} (h : GbAt l g w k W r A c) : GbAt l g w k W.drew r A c := h.more ((Below.refl _ _).drew)
theorem GbAt.bad {l r : List UInt8} {g : Nat} {w W : World} {A : Option Addr} {c i j : Nat} (h : GbAt l g w (2 * i + j) W r A c) (hi : i < 2) (hj : j < 2) (hn : (numAns r).2.2 ≠ 0) : stg l 4 = none := by
  have h1 : stg l (2 * i + j + 1) = none := by
    show (rdN (stg l (2 * i + j))).2 = none
    rw [h.st, rdN, if_neg hn]
  have := stg_none h1 (3 - (2 * i + j))
  rwa [show 2 * i + j + 1 + (3 - (2 * i + j)) = 4 by omega] at this
end Go.Proofs.Ythoheikbpihflaa

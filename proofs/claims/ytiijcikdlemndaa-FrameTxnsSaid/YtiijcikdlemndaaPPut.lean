/- The program's PutTxn, PutBatch, PutState. -/
import Derived.Test.YtiijcikdlemndaaPMsg
namespace Go.Proofs.Ytiijcikdlemndaa
open Go.RowKit
attribute [local go_sem] less_eq same_eq le_eq ge_eq gt_eq

set_option maxHeartbeats 2000000 in
set_option maxRecDepth 100000 in
theorem pputT_bad (t : Txn) (hs : ¬ soundT t) (hr : t.read < 9223372036854775808) (hft : fitT t) (v1 v2 : Value) (w : World) (hv1 : RdP w w.heap.size v1 t.reads) (hv2 : RdC w w.heap.size v2 t.chgs) :
    Calls Try.prog 15 #[tval t v1 v2] w fun e w' => e = .returned (.tuple #[.slice none 0 0, .int .i64 2]) ∧ Below w.heap.size w w' := by
  have hb1 : Below w.heap.size w (w.alloc (.cells #[.int .i64 t.read, v1, v2] 36)) := (Below.refl _ _).alloc (Nat.le_refl _) _
  have hsnd := soundT_any t hft v1 v2 (w.alloc (.cells #[.int .i64 t.read, v1, v2] 36)) (hv1.next hb1) (hv2.next hb1)
  have HV1 := Lib.hid (Whole.fresh w 36 [.int .i64 t.read, v1, v2])
  have HB1 := Lib.hid hb1; clear hb1
  have HVA := Lib.hid hv1
  have HVB := Lib.hid hv2
  obtain ⟨A1, cc1, hvv1, _, _⟩ := hv1.at
  obtain ⟨A2, cc2, hvv2, _, _⟩ := hv2.at
  subst hvv1 hvv2
  clear hv1 hv2
  unfold tval at hsnd ⊢
  rw [decide_eq_false hs] at hsnd
  have HSND := Lib.hid hsnd; clear hsnd
  go_enter Try.func15, Try.ntmps15
  go_wp2_with fail
  refine HSND.out.mono ?_
  rintro e w2 ⟨rfl, hb2⟩
  have HB2 := Lib.hid (HB1.out.trans (hb2.mono (by simp))); clear hb2
  go_wp2_with fail
  go_ret2
  exact ⟨rfl, HB2.out⟩

set_option maxHeartbeats 8000000 in
set_option maxRecDepth 100000 in
theorem pputT_ok (t : Txn) (hs : soundT t) (hr : t.read < 9223372036854775808) (hft : fitT t) (v1 v2 : Value) (w : World) (hv1 : RdP w w.heap.size v1 t.reads) (hv2 : RdC w w.heap.size v2 t.chgs) :
    Calls Try.prog 15 #[tval t v1 v2] w fun e w' => ∃ v', e = .returned (.tuple #[v', .int .i64 0]) ∧ RdB w' w'.heap.size v' (txnB t) ∧ Below w.heap.size w w' := by
  have hb1 : Below w.heap.size w (w.alloc (.cells #[.int .i64 t.read, v1, v2] 36)) := (Below.refl _ _).alloc (Nat.le_refl _) _
  have hsnd := soundT_any t hft v1 v2 (w.alloc (.cells #[.int .i64 t.read, v1, v2] 36)) (hv1.next hb1) (hv2.next hb1)
  have HV1 := Lib.hid (Whole.fresh w 36 [.int .i64 t.read, v1, v2])
  have HB1 := Lib.hid hb1; clear hb1
  have HVA := Lib.hid hv1
  have HVB := Lib.hid hv2
  obtain ⟨A1, cc1, hvv1, _, _⟩ := hv1.at
  obtain ⟨A2, cc2, hvv2, _, _⟩ := hv2.at
  subst hvv1 hvv2
  clear hv1 hv2
  unfold tval at hsnd ⊢
  rw [decide_eq_true hs] at hsnd
  have HSND := Lib.hid hsnd; clear hsnd
  have hin : txnB t = (([] ++ encs [t.read]) ++ listB spanB t.reads) ++ listB chgB t.chgs := by simp [txnB, encs]
  have hs2 := hs
  obtain ⟨s1, s2, s3, s4, s5⟩ := hs2
  have hsp : ∀ s ∈ t.reads, s.1.size ≤ 65536 ∧ s.2.size ≤ 65536 := fun s h => by have := s3 s h; unfold okSpan at this; omega
  have hch : ∀ c ∈ t.chgs, 0 ≤ c.kind ∧ c.kind < 9223372036854775808 ∧ c.key.size ≤ 65536 ∧ c.val.size ≤ 65536 := fun c h => okC (allAns_all s5 c h)
  have hel := encs_len [t.read] (by simpa using hr)
  have hl2 := listB_len (f := spanB) (c := 131090) (by omega) (fun s h => spanB_len s (hsp s h))
  have hnum := fun (W : World) (v : Value) (base p : Nat) (h1 : FW W base p []) (h2 : RdI W W.heap.size v [t.read]) => fnums_any [t.read] (by simp; omega) (by simp) v base p [] W h1 h2 (by simp)
  have h1l : ([] ++ encs [t.read]).length ≤ 9 := by simpa using hel
  generalize [] ++ encs [t.read] = L1 at hin hnum h1l
  have hspn := fun (W : World) (base p : Nat) (h1 : FW W base p L1) (h2 : Rd cellsS 2 W base (.slice A1 t.reads.length cc1) t.reads) => fspans_any t.reads hsp (by omega) _ base p L1 W h1 h2 (by omega)
  have h2l : (L1 ++ listB spanB t.reads).length ≤ 4000000 := by rw [List.length_append]; omega
  generalize L1 ++ listB spanB t.reads = L2 at hin hspn h2l
  have hchg := fun (W : World) (base p : Nat) (h1 : FW W base p L2) (h2 : RdC W base (.slice A2 t.chgs.length cc2) t.chgs) => fchgs_any t.chgs hch (by omega) _ base p L2 W h1 h2 (by omega)
  generalize L2 ++ listB chgB t.chgs = L3 at hin hchg
  have HNUM := Lib.hid hnum
  have HSP := Lib.hid hspn
  have HCH := Lib.hid hchg
  have HIN := Lib.hid hin
  clear hnum hspn hchg hin hel hl2 h1l h2l hsp hch hs s1 s2 s3 s4 s5 hr hft
  go_enter Try.func15, Try.ntmps15
  go_wp2_with fail
  refine HSND.out.mono ?_
  rintro e w0 ⟨rfl, hb2⟩
  have hV0 := HV1.out.below hb2 (by simp)
  have hbw : Below w.heap.size w w0 := HB1.out.trans (hb2.mono (by simp))
  have HV0 := Lib.hid hV0; clear hV0
  have HBW := Lib.hid hbw; clear hbw hb2
  have hlt0 : w.heap.size < w0.heap.size := HV0.out.size
  go_wp2_with fail
  obtain ⟨base, hbase⟩ : ∃ base, base = w0.heap.size := ⟨_, rfl⟩
  have hG0 : w.heap.size < base := by omega
  have HC := Lib.hid (fun W (hW : Below base w0 W) => HV0.out.below hW hG0)
  have HSPN := Lib.hid (fun (W : World) (p : Nat) (h1 : FW W base p L1) (hW : Below base w0 W) => HSP.out W base p h1 (((HVA.out.below HBW.out (Nat.le_refl _)).below hW (by omega)).mono (by omega)))
  have HCHG := Lib.hid (fun (W : World) (p : Nat) (h1 : FW W base p L2) (hW : Below base w0 W) => HCH.out W base p h1 (((HVB.out.below HBW.out (Nat.le_refl _)).below hW (by omega)).mono (by omega)))
  clear HSP HCH
  refine wp_region_planT (fun W => Below base w0 W) (.take 1 (.take 2 (.take 5 (.take 6 (.take 8 (.take 9 (.fork 0 (.step 3 (.step 4 (.step 7 (.step 10 (.take 11 (.take 12 (.step 13 (.take 14 (.take 15 .done))))))))) 3 (.step 0 (.step 4 (.step 7 (.step 10 (.take 11 (.take 12 (.step 13 (.take 14 (.take 15 .done)))))))))))))))) (by kernel_rfl) (by kernel_rfl) (fun _ _ d _ _ h => by cases d <;> exact h) ((Below.refl _ _).drew) ?_
  have hS1 : Below base w0 w0.drew := (Below.refl _ _).drew
  have hz1 : base ≤ w0.drew.heap.size := by rw [hbase]; exact Nat.le_refl _
  have HBASE := Lib.hid hbase; clear hbase
  generalize w0.drew = w1 at hS1 hz1 ⊢
  have HS1 := Lib.hid hS1; clear hS1
  refine PlanT.takeI (v := ?_) rfl rfl ?_ ?_; rotate_left; (focus (intro W hW; have hC := HC.out W hW; have k0 := hC.cell 0 _ rfl; have k1 := hC.cell 1 _ rfl; have k2 := hC.cell 2 _ rfl; go_simp; (try with_reducible rfl); done)); (try simp only [Act.put, List.setIfInBounds_toArray, List.set_cons_zero, List.set_cons_succ])
  refine PlanT.takeI (v := ?_) rfl rfl ?_ ?_; rotate_left; (focus (intro W hW; have hC := HC.out W hW; have k0 := hC.cell 0 _ rfl; have k1 := hC.cell 1 _ rfl; have k2 := hC.cell 2 _ rfl; go_simp; (try with_reducible rfl); done)); (try simp only [Act.put, List.setIfInBounds_toArray, List.set_cons_zero, List.set_cons_succ])
  refine PlanT.takeI (v := ?_) rfl rfl ?_ ?_; rotate_left; (focus (intro W hW; have hC := HC.out W hW; have k0 := hC.cell 0 _ rfl; have k1 := hC.cell 1 _ rfl; have k2 := hC.cell 2 _ rfl; go_simp; (try with_reducible rfl); done)); (try simp only [Act.put, List.setIfInBounds_toArray, List.set_cons_zero, List.set_cons_succ])
  refine PlanT.takeI (v := ?_) rfl rfl ?_ ?_; rotate_left; (focus (intro W hW; have hC := HC.out W hW; have k0 := hC.cell 0 _ rfl; have k1 := hC.cell 1 _ rfl; have k2 := hC.cell 2 _ rfl; go_simp; (try with_reducible rfl); done)); (try simp only [Act.put, List.setIfInBounds_toArray, List.set_cons_zero, List.set_cons_succ])
  refine PlanT.takeI (v := ?_) rfl rfl ?_ ?_; rotate_left; (focus (intro W hW; have hC := HC.out W hW; have k0 := hC.cell 0 _ rfl; have k1 := hC.cell 1 _ rfl; have k2 := hC.cell 2 _ rfl; go_simp; (try with_reducible rfl); done)); (try simp only [Act.put, List.setIfInBounds_toArray, List.set_cons_zero, List.set_cons_succ])
  refine PlanT.takeI (v := ?_) rfl rfl ?_ ?_; rotate_left; (focus (intro W hW; have hC := HC.out W hW; have k0 := hC.cell 0 _ rfl; have k1 := hC.cell 1 _ rfl; have k2 := hC.cell 2 _ rfl; go_simp; (try with_reducible rfl); done)); (try simp only [Act.put, List.setIfInBounds_toArray, List.set_cons_zero, List.set_cons_succ])
  refine ⟨?_, ?_⟩
  · refine wpOp_stepT rfl rfl (fun Kk hK => ?_)
    go_simp
    obtain ⟨w10, hw10⟩ : ∃ W, W = w1.alloc (.cells #[.slice none 0 0] 64) := ⟨_, rfl⟩
    have hb10 : Below w1.heap.size w1 w10 := by rw [hw10]; exact (Below.refl _ _).alloc (Nat.le_refl _) _
    have hz10 : base ≤ w10.heap.size := Nat.le_trans hz1 hb10.size
    have hS10 : Below base w0 w10 := HS1.out.trans (hb10.mono hz1)
    have hN10 : FW w10 base w1.heap.size [] := by rw [hw10]; exact FW.fresh _ _ hz1
    rw [← hw10]
    clear hw10 hb10
    obtain ⟨p10, hg10⟩ : ∃ g, g = w1.heap.size := ⟨_, rfl⟩
    rw [← hg10] at hN10 ⊢
    clear hg10
    have HS10 := Lib.hid hS10
    have HF10 := Lib.hid hN10
    refine hK.out _ _ hS10 ?_
    clear hK Kk hS10 hN10
    refine wpOp_stepT rfl rfl (fun Kk hK => ?_)
    go_simp
    obtain ⟨w11, hw11⟩ : ∃ W, W = w10.alloc (.cells #[.int .i64 t.read] 3) := ⟨_, rfl⟩
    have hb11 : Below w10.heap.size w10 w11 := by rw [hw11]; exact (Below.refl _ _).alloc (Nat.le_refl _) _
    have hz11 : base ≤ w11.heap.size := Nat.le_trans hz10 hb11.size
    have hS11 : Below base w0 w11 := HS10.out.trans (hb11.mono hz10)
    have hN11 : RdI w11 w11.heap.size (.slice (some ⟨w10.heap.size, 0, none⟩) 1 1) [t.read] := by rw [hw11, World.size_alloc]; exact RdI.lit _ [t.read]
    have HF11 := Lib.hid (HF10.out.more hb11 (Nat.le_refl _))
    rw [← hw11]
    clear hw11 hb11
    obtain ⟨g11, hg11⟩ : ∃ g, g = w10.heap.size := ⟨_, rfl⟩
    rw [← hg11] at hN11 ⊢
    clear hg11
    have HS11 := Lib.hid hS11
    have HI11_3 := Lib.hid hN11
    refine hK.out _ _ hS11 ?_
    clear hK Kk hS11 hN11
    refine wpOp_stepT rfl rfl (fun Kk hK => ?_)
    go_simp
    go_at_call 31
    refine (HNUM.out _ _ _ _ HF11.out HI11_3.out).mono ?_
    rintro e w12 ⟨rfl, hf12, hb12, hk12⟩
    have hz12 : base ≤ w12.heap.size := hf12.size
    have hS12 : Below base w0 w12 := HS11.out.trans hb12
    have HF12 := Lib.hid hf12
    have HS12 := Lib.hid hS12
    refine hK.out _ _ hS12 ?_
    clear hK Kk hS12 hf12 hb12 hk12
    refine wpOp_stepT rfl rfl (fun Kk hK => ?_)
    go_simp
    go_at_call 47
    refine (HSPN.out _ _ HF12.out HS12.out).mono ?_
    rintro e w13 ⟨rfl, hf13, hb13, hk13⟩
    have hz13 : base ≤ w13.heap.size := hf13.size
    have hS13 : Below base w0 w13 := HS12.out.trans hb13
    have HF13 := Lib.hid hf13
    have HS13 := Lib.hid hS13
    refine hK.out _ _ hS13 ?_
    clear hK Kk hS13 hf13 hb13 hk13
    refine wpOp_stepT rfl rfl (fun Kk hK => ?_)
    go_simp
    go_at_call 48
    refine (HCHG.out _ _ HF13.out HS13.out).mono ?_
    rintro e w14 ⟨rfl, hf14, hb14, hk14⟩
    have hz14 : base ≤ w14.heap.size := hf14.size
    have hS14 : Below base w0 w14 := HS13.out.trans hb14
    have HF14 := Lib.hid hf14
    have HS14 := Lib.hid hS14
    refine hK.out _ _ hS14 ?_
    clear hK Kk hS14 hf14 hb14 hk14
    refine PlanT.takeI (v := ?_) rfl rfl ?_ ?_; rotate_left; (focus (intro W hW;  go_simp; (try with_reducible rfl); done)); (try simp only [Act.put, List.setIfInBounds_toArray, List.set_cons_zero, List.set_cons_succ])
    refine PlanT.takeI (v := ?_) rfl rfl ?_ ?_; rotate_left; (focus (intro W hW;  go_simp; (try with_reducible rfl); done)); (try simp only [Act.put, List.setIfInBounds_toArray, List.set_cons_zero, List.set_cons_succ])
    obtain ⟨A14, c14, hwh14, how14, hpp14, _⟩ := HF14.out
    have q14 := hwh14.cell 0 _ rfl
    have HOW14 := Lib.hid how14
    refine wpOp_stepT rfl rfl (fun Kk hK => ?_)
    go_simp
    refine hK.out _ _ HS14.out ?_
    clear hK Kk
    refine PlanT.takeI (v := ?_) rfl rfl ?_ ?_; rotate_left; (focus (intro W hW;  go_simp; (try with_reducible rfl); done)); (try simp only [Act.put, List.setIfInBounds_toArray, List.set_cons_zero, List.set_cons_succ])
    refine PlanT.takeI (v := ?_) rfl rfl ?_ ?_; rotate_left; (focus (intro W hW;  go_simp; (try with_reducible rfl); done)); (try simp only [Act.put, List.setIfInBounds_toArray, List.set_cons_zero, List.set_cons_succ])
    simp only [PlanT]
    have HBF := Lib.hid (show Below w.heap.size w w14 from HBW.out.trans (HS14.out.mono (by omega)))
    clear how14 hwh14 hpp14
    go_wp2_with fail
    go_ret2
    exact ⟨_, rfl, by rw [HIN.out]; exact HOW14.out.rdB, HBF.out⟩
  · refine wpOp_stepT rfl rfl (fun Kk hK => ?_)
    go_simp
    obtain ⟨w15, hw15⟩ : ∃ W, W = w1.alloc (.cells #[.int .i64 t.read] 3) := ⟨_, rfl⟩
    have hb15 : Below w1.heap.size w1 w15 := by rw [hw15]; exact (Below.refl _ _).alloc (Nat.le_refl _) _
    have hz15 : base ≤ w15.heap.size := Nat.le_trans hz1 hb15.size
    have hS15 : Below base w0 w15 := HS1.out.trans (hb15.mono hz1)
    have hN15 : RdI w15 w15.heap.size (.slice (some ⟨w1.heap.size, 0, none⟩) 1 1) [t.read] := by rw [hw15, World.size_alloc]; exact RdI.lit _ [t.read]
    rw [← hw15]
    clear hw15 hb15
    obtain ⟨g15, hg15⟩ : ∃ g, g = w1.heap.size := ⟨_, rfl⟩
    rw [← hg15] at hN15 ⊢
    clear hg15
    have HS15 := Lib.hid hS15
    have HI15_3 := Lib.hid hN15
    refine hK.out _ _ hS15 ?_
    clear hK Kk hS15 hN15
    refine wpOp_stepT rfl rfl (fun Kk hK => ?_)
    go_simp
    obtain ⟨w16, hw16⟩ : ∃ W, W = w15.alloc (.cells #[.slice none 0 0] 64) := ⟨_, rfl⟩
    have hb16 : Below w15.heap.size w15 w16 := by rw [hw16]; exact (Below.refl _ _).alloc (Nat.le_refl _) _
    have hz16 : base ≤ w16.heap.size := Nat.le_trans hz15 hb16.size
    have hS16 : Below base w0 w16 := HS15.out.trans (hb16.mono hz15)
    have hN16 : FW w16 base w15.heap.size [] := by rw [hw16]; exact FW.fresh _ _ hz15
    have HI16_3 := Lib.hid (show RdI w16 w16.heap.size (.slice (some ⟨g15, 0, none⟩) 1 1) [t.read] from HI15_3.out.next hb16)
    rw [← hw16]
    clear hw16 hb16
    obtain ⟨p16, hg16⟩ : ∃ g, g = w15.heap.size := ⟨_, rfl⟩
    rw [← hg16] at hN16 ⊢
    clear hg16
    have HS16 := Lib.hid hS16
    have HF16 := Lib.hid hN16
    refine hK.out _ _ hS16 ?_
    clear hK Kk hS16 hN16
    refine wpOp_stepT rfl rfl (fun Kk hK => ?_)
    go_simp
    go_at_call 31
    refine (HNUM.out _ _ _ _ HF16.out HI16_3.out).mono ?_
    rintro e w17 ⟨rfl, hf17, hb17, hk17⟩
    have hz17 : base ≤ w17.heap.size := hf17.size
    have hS17 : Below base w0 w17 := HS16.out.trans hb17
    have HF17 := Lib.hid hf17
    have HS17 := Lib.hid hS17
    refine hK.out _ _ hS17 ?_
    clear hK Kk hS17 hf17 hb17 hk17
    refine wpOp_stepT rfl rfl (fun Kk hK => ?_)
    go_simp
    go_at_call 47
    refine (HSPN.out _ _ HF17.out HS17.out).mono ?_
    rintro e w18 ⟨rfl, hf18, hb18, hk18⟩
    have hz18 : base ≤ w18.heap.size := hf18.size
    have hS18 : Below base w0 w18 := HS17.out.trans hb18
    have HF18 := Lib.hid hf18
    have HS18 := Lib.hid hS18
    refine hK.out _ _ hS18 ?_
    clear hK Kk hS18 hf18 hb18 hk18
    refine wpOp_stepT rfl rfl (fun Kk hK => ?_)
    go_simp
    go_at_call 48
    refine (HCHG.out _ _ HF18.out HS18.out).mono ?_
    rintro e w19 ⟨rfl, hf19, hb19, hk19⟩
    have hz19 : base ≤ w19.heap.size := hf19.size
    have hS19 : Below base w0 w19 := HS18.out.trans hb19
    have HF19 := Lib.hid hf19
    have HS19 := Lib.hid hS19
    refine hK.out _ _ hS19 ?_
    clear hK Kk hS19 hf19 hb19 hk19
    refine PlanT.takeI (v := ?_) rfl rfl ?_ ?_; rotate_left; (focus (intro W hW;  go_simp; (try with_reducible rfl); done)); (try simp only [Act.put, List.setIfInBounds_toArray, List.set_cons_zero, List.set_cons_succ])
    refine PlanT.takeI (v := ?_) rfl rfl ?_ ?_; rotate_left; (focus (intro W hW;  go_simp; (try with_reducible rfl); done)); (try simp only [Act.put, List.setIfInBounds_toArray, List.set_cons_zero, List.set_cons_succ])
    obtain ⟨A19, c19, hwh19, how19, hpp19, _⟩ := HF19.out
    have q19 := hwh19.cell 0 _ rfl
    have HOW19 := Lib.hid how19
    refine wpOp_stepT rfl rfl (fun Kk hK => ?_)
    go_simp
    refine hK.out _ _ HS19.out ?_
    clear hK Kk
    refine PlanT.takeI (v := ?_) rfl rfl ?_ ?_; rotate_left; (focus (intro W hW;  go_simp; (try with_reducible rfl); done)); (try simp only [Act.put, List.setIfInBounds_toArray, List.set_cons_zero, List.set_cons_succ])
    refine PlanT.takeI (v := ?_) rfl rfl ?_ ?_; rotate_left; (focus (intro W hW;  go_simp; (try with_reducible rfl); done)); (try simp only [Act.put, List.setIfInBounds_toArray, List.set_cons_zero, List.set_cons_succ])
    simp only [PlanT]
    have HBF := Lib.hid (show Below w.heap.size w w19 from HBW.out.trans (HS19.out.mono (by omega)))
    clear how19 hwh19 hpp19
    go_wp2_with fail
    go_ret2
    exact ⟨_, rfl, by rw [HIN.out]; exact HOW19.out.rdB, HBF.out⟩

set_option maxHeartbeats 2000000 in
set_option maxRecDepth 100000 in
theorem pputB_bad (x : Bat) (hs : ¬ soundB x) (hr : x.prev < 9223372036854775808 ∧ x.version < 9223372036854775808 ∧ x.known < 9223372036854775808) (hft : fitB x) (v : Value) (w : World) (hv : RdC w w.heap.size v x.chgs) :
    Calls Try.prog 20 #[bval x v] w fun e w' => e = .returned (.tuple #[.slice none 0 0, .int .i64 2]) ∧ Below w.heap.size w w' := by
  have hb1 : Below w.heap.size w (w.alloc (.cells #[.int .i64 x.prev, .int .i64 x.version, .int .i64 x.known, v] 43)) := (Below.refl _ _).alloc (Nat.le_refl _) _
  have hsnd := soundB_any x hft v (w.alloc (.cells #[.int .i64 x.prev, .int .i64 x.version, .int .i64 x.known, v] 43)) (hv.next hb1)
  have HV1 := Lib.hid (Whole.fresh w 43 [.int .i64 x.prev, .int .i64 x.version, .int .i64 x.known, v])
  have HB1 := Lib.hid hb1; clear hb1
  have HVB := Lib.hid hv
  obtain ⟨A2, cc2, hvv2, _, _⟩ := hv.at
  subst hvv2
  clear hv
  unfold bval at hsnd ⊢
  rw [decide_eq_false hs] at hsnd
  have HSND := Lib.hid hsnd; clear hsnd
  go_enter Try.func20, Try.ntmps20
  go_wp2_with fail
  refine HSND.out.mono ?_
  rintro e w2 ⟨rfl, hb2⟩
  have HB2 := Lib.hid (HB1.out.trans (hb2.mono (by simp))); clear hb2
  go_wp2_with fail
  go_ret2
  exact ⟨rfl, HB2.out⟩

set_option maxHeartbeats 8000000 in
set_option maxRecDepth 100000 in
theorem pputB_ok (x : Bat) (hs : soundB x) (hr : x.prev < 9223372036854775808 ∧ x.version < 9223372036854775808 ∧ x.known < 9223372036854775808) (hft : fitB x) (v : Value) (w : World) (hv : RdC w w.heap.size v x.chgs) :
    Calls Try.prog 20 #[bval x v] w fun e w' => ∃ v', e = .returned (.tuple #[v', .int .i64 0]) ∧ RdB w' w'.heap.size v' (batB x) ∧ Below w.heap.size w w' := by
  have hb1 : Below w.heap.size w (w.alloc (.cells #[.int .i64 x.prev, .int .i64 x.version, .int .i64 x.known, v] 43)) := (Below.refl _ _).alloc (Nat.le_refl _) _
  have hsnd := soundB_any x hft v (w.alloc (.cells #[.int .i64 x.prev, .int .i64 x.version, .int .i64 x.known, v] 43)) (hv.next hb1)
  have HV1 := Lib.hid (Whole.fresh w 43 [.int .i64 x.prev, .int .i64 x.version, .int .i64 x.known, v])
  have HB1 := Lib.hid hb1; clear hb1
  have HVB := Lib.hid hv
  obtain ⟨A2, cc2, hvv2, _, _⟩ := hv.at
  subst hvv2
  clear hv
  unfold bval at hsnd ⊢
  rw [decide_eq_true hs] at hsnd
  have HSND := Lib.hid hsnd; clear hsnd
  have hin : batB x = ([] ++ encs [x.prev, x.version, x.known]) ++ listB chgB x.chgs := by simp [batB]
  have hs2 := hs
  obtain ⟨⟨s1, s2, s3⟩, s4, s5⟩ := hs2
  obtain ⟨r1, r2, r3⟩ := hr
  have hch : ∀ c ∈ x.chgs, 0 ≤ c.kind ∧ c.kind < 9223372036854775808 ∧ c.key.size ≤ 65536 ∧ c.val.size ≤ 65536 := fun c h => okC (allAns_all s5 c h)
  have hrng : ∀ n ∈ [x.prev, x.version, x.known], 0 ≤ n ∧ n < 9223372036854775808 := by
    simp only [List.mem_cons, List.not_mem_nil, or_false, forall_eq_or_imp, forall_eq]
    omega
  have hel := encs_len [x.prev, x.version, x.known] (fun n h => (hrng n h).2)
  have hnum := fun (W : World) (v : Value) (base p : Nat) (h1 : FW W base p []) (h2 : RdI W W.heap.size v [x.prev, x.version, x.known]) => fnums_any [x.prev, x.version, x.known] hrng (by simp) v base p [] W h1 h2 (by simp)
  have h1l : ([] ++ encs [x.prev, x.version, x.known]).length ≤ 27 := by simpa using hel
  generalize [] ++ encs [x.prev, x.version, x.known] = L1 at hin hnum h1l
  have hchg := fun (W : World) (base p : Nat) (h1 : FW W base p L1) (h2 : RdC W base (.slice A2 x.chgs.length cc2) x.chgs) => fchgs_any x.chgs hch s4 _ base p L1 W h1 h2 (by omega)
  generalize L1 ++ listB chgB x.chgs = L3 at hin hchg
  have HNUM := Lib.hid hnum
  have HCH := Lib.hid hchg
  have HIN := Lib.hid hin
  clear hnum hchg hin hel h1l hch hrng hs s1 s2 s3 s4 s5 r1 r2 r3 hft
  go_enter Try.func20, Try.ntmps20
  go_wp2_with fail
  refine HSND.out.mono ?_
  rintro e w0 ⟨rfl, hb2⟩
  have hV0 := HV1.out.below hb2 (by simp)
  have hbw : Below w.heap.size w w0 := HB1.out.trans (hb2.mono (by simp))
  have HV0 := Lib.hid hV0; clear hV0
  have HBW := Lib.hid hbw; clear hbw hb2
  have hlt0 : w.heap.size < w0.heap.size := HV0.out.size
  go_wp2_with fail
  obtain ⟨base, hbase⟩ : ∃ base, base = w0.heap.size := ⟨_, rfl⟩
  have hG0 : w.heap.size < base := by omega
  have HC := Lib.hid (fun W (hW : Below base w0 W) => HV0.out.below hW hG0)
  have HCHG := Lib.hid (fun (W : World) (p : Nat) (h1 : FW W base p L1) (hW : Below base w0 W) => HCH.out W base p h1 (((HVB.out.below HBW.out (Nat.le_refl _)).below hW (by omega)).mono (by omega)))
  clear HCH
  refine wp_region_planT (fun W => Below base w0 W) (.take 1 (.take 2 (.take 3 (.take 4 (.take 5 (.take 6 (.take 9 (.take 10 (.fork 0 (.step 7 (.step 8 (.step 11 (.take 12 (.take 13 (.step 14 (.take 15 (.take 16 .done)))))))) 7 (.step 0 (.step 8 (.step 11 (.take 12 (.take 13 (.step 14 (.take 15 (.take 16 .done))))))))))))))))) (by kernel_rfl) (by kernel_rfl) (fun _ _ d _ _ h => by cases d <;> exact h) ((Below.refl _ _).drew) ?_
  have hS1 : Below base w0 w0.drew := (Below.refl _ _).drew
  have hz1 : base ≤ w0.drew.heap.size := by rw [hbase]; exact Nat.le_refl _
  have HBASE := Lib.hid hbase; clear hbase
  generalize w0.drew = w1 at hS1 hz1 ⊢
  have HS1 := Lib.hid hS1; clear hS1
  refine PlanT.takeI (v := ?_) rfl rfl ?_ ?_; rotate_left; (focus (intro W hW; have hC := HC.out W hW; have k0 := hC.cell 0 _ rfl; have k1 := hC.cell 1 _ rfl; have k2 := hC.cell 2 _ rfl; have k3 := hC.cell 3 _ rfl; go_simp; (try with_reducible rfl); done)); (try simp only [Act.put, List.setIfInBounds_toArray, List.set_cons_zero, List.set_cons_succ])
  refine PlanT.takeI (v := ?_) rfl rfl ?_ ?_; rotate_left; (focus (intro W hW; have hC := HC.out W hW; have k0 := hC.cell 0 _ rfl; have k1 := hC.cell 1 _ rfl; have k2 := hC.cell 2 _ rfl; have k3 := hC.cell 3 _ rfl; go_simp; (try with_reducible rfl); done)); (try simp only [Act.put, List.setIfInBounds_toArray, List.set_cons_zero, List.set_cons_succ])
  refine PlanT.takeI (v := ?_) rfl rfl ?_ ?_; rotate_left; (focus (intro W hW; have hC := HC.out W hW; have k0 := hC.cell 0 _ rfl; have k1 := hC.cell 1 _ rfl; have k2 := hC.cell 2 _ rfl; have k3 := hC.cell 3 _ rfl; go_simp; (try with_reducible rfl); done)); (try simp only [Act.put, List.setIfInBounds_toArray, List.set_cons_zero, List.set_cons_succ])
  refine PlanT.takeI (v := ?_) rfl rfl ?_ ?_; rotate_left; (focus (intro W hW; have hC := HC.out W hW; have k0 := hC.cell 0 _ rfl; have k1 := hC.cell 1 _ rfl; have k2 := hC.cell 2 _ rfl; have k3 := hC.cell 3 _ rfl; go_simp; (try with_reducible rfl); done)); (try simp only [Act.put, List.setIfInBounds_toArray, List.set_cons_zero, List.set_cons_succ])
  refine PlanT.takeI (v := ?_) rfl rfl ?_ ?_; rotate_left; (focus (intro W hW; have hC := HC.out W hW; have k0 := hC.cell 0 _ rfl; have k1 := hC.cell 1 _ rfl; have k2 := hC.cell 2 _ rfl; have k3 := hC.cell 3 _ rfl; go_simp; (try with_reducible rfl); done)); (try simp only [Act.put, List.setIfInBounds_toArray, List.set_cons_zero, List.set_cons_succ])
  refine PlanT.takeI (v := ?_) rfl rfl ?_ ?_; rotate_left; (focus (intro W hW; have hC := HC.out W hW; have k0 := hC.cell 0 _ rfl; have k1 := hC.cell 1 _ rfl; have k2 := hC.cell 2 _ rfl; have k3 := hC.cell 3 _ rfl; go_simp; (try with_reducible rfl); done)); (try simp only [Act.put, List.setIfInBounds_toArray, List.set_cons_zero, List.set_cons_succ])
  refine PlanT.takeI (v := ?_) rfl rfl ?_ ?_; rotate_left; (focus (intro W hW; have hC := HC.out W hW; have k0 := hC.cell 0 _ rfl; have k1 := hC.cell 1 _ rfl; have k2 := hC.cell 2 _ rfl; have k3 := hC.cell 3 _ rfl; go_simp; (try with_reducible rfl); done)); (try simp only [Act.put, List.setIfInBounds_toArray, List.set_cons_zero, List.set_cons_succ])
  refine PlanT.takeI (v := ?_) rfl rfl ?_ ?_; rotate_left; (focus (intro W hW; have hC := HC.out W hW; have k0 := hC.cell 0 _ rfl; have k1 := hC.cell 1 _ rfl; have k2 := hC.cell 2 _ rfl; have k3 := hC.cell 3 _ rfl; go_simp; (try with_reducible rfl); done)); (try simp only [Act.put, List.setIfInBounds_toArray, List.set_cons_zero, List.set_cons_succ])
  refine ⟨?_, ?_⟩
  · refine wpOp_stepT rfl rfl (fun Kk hK => ?_)
    go_simp
    obtain ⟨w10, hw10⟩ : ∃ W, W = w1.alloc (.cells #[.slice none 0 0] 64) := ⟨_, rfl⟩
    have hb10 : Below w1.heap.size w1 w10 := by rw [hw10]; exact (Below.refl _ _).alloc (Nat.le_refl _) _
    have hz10 : base ≤ w10.heap.size := Nat.le_trans hz1 hb10.size
    have hS10 : Below base w0 w10 := HS1.out.trans (hb10.mono hz1)
    have hN10 : FW w10 base w1.heap.size [] := by rw [hw10]; exact FW.fresh _ _ hz1
    rw [← hw10]
    clear hw10 hb10
    obtain ⟨p10, hg10⟩ : ∃ g, g = w1.heap.size := ⟨_, rfl⟩
    rw [← hg10] at hN10 ⊢
    clear hg10
    have HS10 := Lib.hid hS10
    have HF10 := Lib.hid hN10
    refine hK.out _ _ hS10 ?_
    clear hK Kk hS10 hN10
    refine wpOp_stepT rfl rfl (fun Kk hK => ?_)
    go_simp
    obtain ⟨w11, hw11⟩ : ∃ W, W = w10.alloc (.cells #[.int .i64 x.prev, .int .i64 x.version, .int .i64 x.known] 3) := ⟨_, rfl⟩
    have hb11 : Below w10.heap.size w10 w11 := by rw [hw11]; exact (Below.refl _ _).alloc (Nat.le_refl _) _
    have hz11 : base ≤ w11.heap.size := Nat.le_trans hz10 hb11.size
    have hS11 : Below base w0 w11 := HS10.out.trans (hb11.mono hz10)
    have hN11 : RdI w11 w11.heap.size (.slice (some ⟨w10.heap.size, 0, none⟩) 3 3) [x.prev, x.version, x.known] := by rw [hw11, World.size_alloc]; exact RdI.lit _ [x.prev, x.version, x.known]
    have HF11 := Lib.hid (HF10.out.more hb11 (Nat.le_refl _))
    rw [← hw11]
    clear hw11 hb11
    obtain ⟨g11, hg11⟩ : ∃ g, g = w10.heap.size := ⟨_, rfl⟩
    rw [← hg11] at hN11 ⊢
    clear hg11
    have HS11 := Lib.hid hS11
    have HI11_7 := Lib.hid hN11
    refine hK.out _ _ hS11 ?_
    clear hK Kk hS11 hN11
    refine wpOp_stepT rfl rfl (fun Kk hK => ?_)
    go_simp
    go_at_call 31
    refine (HNUM.out _ _ _ _ HF11.out HI11_7.out).mono ?_
    rintro e w12 ⟨rfl, hf12, hb12, hk12⟩
    have hz12 : base ≤ w12.heap.size := hf12.size
    have hS12 : Below base w0 w12 := HS11.out.trans hb12
    have HF12 := Lib.hid hf12
    have HS12 := Lib.hid hS12
    refine hK.out _ _ hS12 ?_
    clear hK Kk hS12 hf12 hb12 hk12
    refine wpOp_stepT rfl rfl (fun Kk hK => ?_)
    go_simp
    go_at_call 48
    refine (HCHG.out _ _ HF12.out HS12.out).mono ?_
    rintro e w13 ⟨rfl, hf13, hb13, hk13⟩
    have hz13 : base ≤ w13.heap.size := hf13.size
    have hS13 : Below base w0 w13 := HS12.out.trans hb13
    have HF13 := Lib.hid hf13
    have HS13 := Lib.hid hS13
    refine hK.out _ _ hS13 ?_
    clear hK Kk hS13 hf13 hb13 hk13
    refine PlanT.takeI (v := ?_) rfl rfl ?_ ?_; rotate_left; (focus (intro W hW;  go_simp; (try with_reducible rfl); done)); (try simp only [Act.put, List.setIfInBounds_toArray, List.set_cons_zero, List.set_cons_succ])
    refine PlanT.takeI (v := ?_) rfl rfl ?_ ?_; rotate_left; (focus (intro W hW;  go_simp; (try with_reducible rfl); done)); (try simp only [Act.put, List.setIfInBounds_toArray, List.set_cons_zero, List.set_cons_succ])
    obtain ⟨A13, c13, hwh13, how13, hpp13, _⟩ := HF13.out
    have q13 := hwh13.cell 0 _ rfl
    have HOW13 := Lib.hid how13
    refine wpOp_stepT rfl rfl (fun Kk hK => ?_)
    go_simp
    refine hK.out _ _ HS13.out ?_
    clear hK Kk
    refine PlanT.takeI (v := ?_) rfl rfl ?_ ?_; rotate_left; (focus (intro W hW;  go_simp; (try with_reducible rfl); done)); (try simp only [Act.put, List.setIfInBounds_toArray, List.set_cons_zero, List.set_cons_succ])
    refine PlanT.takeI (v := ?_) rfl rfl ?_ ?_; rotate_left; (focus (intro W hW;  go_simp; (try with_reducible rfl); done)); (try simp only [Act.put, List.setIfInBounds_toArray, List.set_cons_zero, List.set_cons_succ])
    simp only [PlanT]
    have HBF := Lib.hid (show Below w.heap.size w w13 from HBW.out.trans (HS13.out.mono (by omega)))
    clear how13 hwh13 hpp13
    go_wp2_with fail
    go_ret2
    exact ⟨_, rfl, by rw [HIN.out]; exact HOW13.out.rdB, HBF.out⟩
  · refine wpOp_stepT rfl rfl (fun Kk hK => ?_)
    go_simp
    obtain ⟨w14, hw14⟩ : ∃ W, W = w1.alloc (.cells #[.int .i64 x.prev, .int .i64 x.version, .int .i64 x.known] 3) := ⟨_, rfl⟩
    have hb14 : Below w1.heap.size w1 w14 := by rw [hw14]; exact (Below.refl _ _).alloc (Nat.le_refl _) _
    have hz14 : base ≤ w14.heap.size := Nat.le_trans hz1 hb14.size
    have hS14 : Below base w0 w14 := HS1.out.trans (hb14.mono hz1)
    have hN14 : RdI w14 w14.heap.size (.slice (some ⟨w1.heap.size, 0, none⟩) 3 3) [x.prev, x.version, x.known] := by rw [hw14, World.size_alloc]; exact RdI.lit _ [x.prev, x.version, x.known]
    rw [← hw14]
    clear hw14 hb14
    obtain ⟨g14, hg14⟩ : ∃ g, g = w1.heap.size := ⟨_, rfl⟩
    rw [← hg14] at hN14 ⊢
    clear hg14
    have HS14 := Lib.hid hS14
    have HI14_7 := Lib.hid hN14
    refine hK.out _ _ hS14 ?_
    clear hK Kk hS14 hN14
    refine wpOp_stepT rfl rfl (fun Kk hK => ?_)
    go_simp
    obtain ⟨w15, hw15⟩ : ∃ W, W = w14.alloc (.cells #[.slice none 0 0] 64) := ⟨_, rfl⟩
    have hb15 : Below w14.heap.size w14 w15 := by rw [hw15]; exact (Below.refl _ _).alloc (Nat.le_refl _) _
    have hz15 : base ≤ w15.heap.size := Nat.le_trans hz14 hb15.size
    have hS15 : Below base w0 w15 := HS14.out.trans (hb15.mono hz14)
    have hN15 : FW w15 base w14.heap.size [] := by rw [hw15]; exact FW.fresh _ _ hz14
    have HI15_7 := Lib.hid (show RdI w15 w15.heap.size (.slice (some ⟨g14, 0, none⟩) 3 3) [x.prev, x.version, x.known] from HI14_7.out.next hb15)
    rw [← hw15]
    clear hw15 hb15
    obtain ⟨p15, hg15⟩ : ∃ g, g = w14.heap.size := ⟨_, rfl⟩
    rw [← hg15] at hN15 ⊢
    clear hg15
    have HS15 := Lib.hid hS15
    have HF15 := Lib.hid hN15
    refine hK.out _ _ hS15 ?_
    clear hK Kk hS15 hN15
    refine wpOp_stepT rfl rfl (fun Kk hK => ?_)
    go_simp
    go_at_call 31
    refine (HNUM.out _ _ _ _ HF15.out HI15_7.out).mono ?_
    rintro e w16 ⟨rfl, hf16, hb16, hk16⟩
    have hz16 : base ≤ w16.heap.size := hf16.size
    have hS16 : Below base w0 w16 := HS15.out.trans hb16
    have HF16 := Lib.hid hf16
    have HS16 := Lib.hid hS16
    refine hK.out _ _ hS16 ?_
    clear hK Kk hS16 hf16 hb16 hk16
    refine wpOp_stepT rfl rfl (fun Kk hK => ?_)
    go_simp
    go_at_call 48
    refine (HCHG.out _ _ HF16.out HS16.out).mono ?_
    rintro e w17 ⟨rfl, hf17, hb17, hk17⟩
    have hz17 : base ≤ w17.heap.size := hf17.size
    have hS17 : Below base w0 w17 := HS16.out.trans hb17
    have HF17 := Lib.hid hf17
    have HS17 := Lib.hid hS17
    refine hK.out _ _ hS17 ?_
    clear hK Kk hS17 hf17 hb17 hk17
    refine PlanT.takeI (v := ?_) rfl rfl ?_ ?_; rotate_left; (focus (intro W hW;  go_simp; (try with_reducible rfl); done)); (try simp only [Act.put, List.setIfInBounds_toArray, List.set_cons_zero, List.set_cons_succ])
    refine PlanT.takeI (v := ?_) rfl rfl ?_ ?_; rotate_left; (focus (intro W hW;  go_simp; (try with_reducible rfl); done)); (try simp only [Act.put, List.setIfInBounds_toArray, List.set_cons_zero, List.set_cons_succ])
    obtain ⟨A17, c17, hwh17, how17, hpp17, _⟩ := HF17.out
    have q17 := hwh17.cell 0 _ rfl
    have HOW17 := Lib.hid how17
    refine wpOp_stepT rfl rfl (fun Kk hK => ?_)
    go_simp
    refine hK.out _ _ HS17.out ?_
    clear hK Kk
    refine PlanT.takeI (v := ?_) rfl rfl ?_ ?_; rotate_left; (focus (intro W hW;  go_simp; (try with_reducible rfl); done)); (try simp only [Act.put, List.setIfInBounds_toArray, List.set_cons_zero, List.set_cons_succ])
    refine PlanT.takeI (v := ?_) rfl rfl ?_ ?_; rotate_left; (focus (intro W hW;  go_simp; (try with_reducible rfl); done)); (try simp only [Act.put, List.setIfInBounds_toArray, List.set_cons_zero, List.set_cons_succ])
    simp only [PlanT]
    have HBF := Lib.hid (show Below w.heap.size w w17 from HBW.out.trans (HS17.out.mono (by omega)))
    clear how17 hwh17 hpp17
    go_wp2_with fail
    go_ret2
    exact ⟨_, rfl, by rw [HIN.out]; exact HOW17.out.rdB, HBF.out⟩

set_option maxHeartbeats 2000000 in
set_option maxRecDepth 100000 in
theorem pputS_bad (x : Sta) (hs : ¬ soundS x) (hr : x.gen < 9223372036854775808 ∧ x.epoch < 9223372036854775808 ∧ x.recd < 9223372036854775808) (hft : x.chests.length < 4611686018427387904) (v : Value) (w : World) (hv : RdI w w.heap.size v x.chests) :
    Calls Try.prog 25 #[sval x v] w fun e w' => e = .returned (.tuple #[.slice none 0 0, .int .i64 2]) ∧ Below w.heap.size w w' := by
  have hb1 : Below w.heap.size w (w.alloc (.cells #[.int .i64 x.gen, .int .i64 x.epoch, .int .i64 x.recd, v] 51)) := (Below.refl _ _).alloc (Nat.le_refl _) _
  have hsnd := soundS_any x hft v (w.alloc (.cells #[.int .i64 x.gen, .int .i64 x.epoch, .int .i64 x.recd, v] 51)) (hv.next hb1)
  have HV1 := Lib.hid (Whole.fresh w 51 [.int .i64 x.gen, .int .i64 x.epoch, .int .i64 x.recd, v])
  have HB1 := Lib.hid hb1; clear hb1
  have HVB := Lib.hid hv
  obtain ⟨A2, cc2, hvv2, _, _⟩ := hv.at
  subst hvv2
  clear hv
  unfold sval at hsnd ⊢
  rw [decide_eq_false hs] at hsnd
  have HSND := Lib.hid hsnd; clear hsnd
  go_enter Try.func25, Try.ntmps25
  go_wp2_with fail
  refine HSND.out.mono ?_
  rintro e w2 ⟨rfl, hb2⟩
  have HB2 := Lib.hid (HB1.out.trans (hb2.mono (by simp))); clear hb2
  go_wp2_with fail
  go_ret2
  exact ⟨rfl, HB2.out⟩

set_option maxHeartbeats 8000000 in
set_option maxRecDepth 100000 in
theorem pputS_ok (x : Sta) (hs : soundS x) (hr : x.gen < 9223372036854775808 ∧ x.epoch < 9223372036854775808 ∧ x.recd < 9223372036854775808) (hft : x.chests.length < 4611686018427387904) (v : Value) (w : World) (hv : RdI w w.heap.size v x.chests) :
    Calls Try.prog 25 #[sval x v] w fun e w' => ∃ v', e = .returned (.tuple #[v', .int .i64 0]) ∧ RdB w' w'.heap.size v' (staB x) ∧ Below w.heap.size w w' := by
  have hb1 : Below w.heap.size w (w.alloc (.cells #[.int .i64 x.gen, .int .i64 x.epoch, .int .i64 x.recd, v] 51)) := (Below.refl _ _).alloc (Nat.le_refl _) _
  have hsnd := soundS_any x hft v (w.alloc (.cells #[.int .i64 x.gen, .int .i64 x.epoch, .int .i64 x.recd, v] 51)) (hv.next hb1)
  have HV1 := Lib.hid (Whole.fresh w 51 [.int .i64 x.gen, .int .i64 x.epoch, .int .i64 x.recd, v])
  have HB1 := Lib.hid hb1; clear hb1
  have HVB := Lib.hid hv
  obtain ⟨A2, cc2, hvv2, _, _⟩ := hv.at
  subst hvv2
  clear hv
  unfold sval at hsnd ⊢
  rw [decide_eq_true hs] at hsnd
  have HSND := Lib.hid hsnd; clear hsnd
  have hin : staB x = ([] ++ encs [x.gen, x.epoch, x.recd, (x.chests.length : Int)]) ++ encs x.chests := by simp [staB]
  have hs2 := hs
  obtain ⟨⟨s1, s2, s3⟩, s4, s5⟩ := hs2
  obtain ⟨r1, r2, r3⟩ := hr
  have hrng : ∀ n ∈ [x.gen, x.epoch, x.recd, (x.chests.length : Int)], 0 ≤ n ∧ n < 9223372036854775808 := by
    simp only [List.mem_cons, List.not_mem_nil, or_false, forall_eq_or_imp, forall_eq]
    omega
  have hr2 : ∀ n ∈ x.chests, 0 ≤ n ∧ n < 9223372036854775808 := fun n h => by have := s5 n h; omega
  have hel := encs_len [x.gen, x.epoch, x.recd, (x.chests.length : Int)] (fun n h => (hrng n h).2)
  have hnum := fun (W : World) (v : Value) (base p : Nat) (h1 : FW W base p []) (h2 : RdI W W.heap.size v [x.gen, x.epoch, x.recd, (x.chests.length : Int)]) => fnums_any [x.gen, x.epoch, x.recd, (x.chests.length : Int)] hrng (by simp) v base p [] W h1 h2 (by simp)
  have h1l : ([] ++ encs [x.gen, x.epoch, x.recd, (x.chests.length : Int)]).length ≤ 36 := by simpa using hel
  generalize [] ++ encs [x.gen, x.epoch, x.recd, (x.chests.length : Int)] = L1 at hin hnum h1l
  have hnu2 := fun (W : World) (base p : Nat) (h1 : FW W base p L1) (h2 : RdI W W.heap.size (.slice A2 x.chests.length cc2) x.chests) => fnums_any x.chests hr2 (by omega) _ base p L1 W h1 h2 (by omega)
  generalize L1 ++ encs x.chests = L3 at hin hnu2
  have HNUM := Lib.hid hnum
  have HNU := Lib.hid hnu2
  have HIN := Lib.hid hin
  clear hnum hnu2 hin hel h1l hr2 hrng hs s1 s2 s3 s4 s5 r1 r2 r3 hft
  go_enter Try.func25, Try.ntmps25
  go_wp2_with fail
  refine HSND.out.mono ?_
  rintro e w0 ⟨rfl, hb2⟩
  have hV0 := HV1.out.below hb2 (by simp)
  have hbw : Below w.heap.size w w0 := HB1.out.trans (hb2.mono (by simp))
  have HV0 := Lib.hid hV0; clear hV0
  have HBW := Lib.hid hbw; clear hbw hb2
  have hlt0 : w.heap.size < w0.heap.size := HV0.out.size
  go_wp2_with fail
  obtain ⟨base, hbase⟩ : ∃ base, base = w0.heap.size := ⟨_, rfl⟩
  have hG0 : w.heap.size < base := by omega
  have HC := Lib.hid (fun W (hW : Below base w0 W) => HV0.out.below hW hG0)
  have HNU2 := Lib.hid (fun (W : World) (p : Nat) (h1 : FW W base p L1) (hW : Below base w0 W) (hz : base ≤ W.heap.size) => HNU.out W base p h1 (((HVB.out.below HBW.out (Nat.le_refl _)).below hW (by omega)).mono (by omega)))
  clear HNU
  refine wp_region_planT (fun W => Below base w0 W) (.take 1 (.take 2 (.take 3 (.take 4 (.take 5 (.take 6 (.take 7 (.take 8 (.take 9 (.take 12 (.take 13 (.fork 0 (.step 10 (.step 11 (.step 14 (.take 15 (.take 16 (.step 17 (.take 18 (.take 19 .done)))))))) 10 (.step 0 (.step 11 (.step 14 (.take 15 (.take 16 (.step 17 (.take 18 (.take 19 .done)))))))))))))))))))) (by kernel_rfl) (by kernel_rfl) (fun _ _ d _ _ h => by cases d <;> exact h) ((Below.refl _ _).drew) ?_
  have hS1 : Below base w0 w0.drew := (Below.refl _ _).drew
  have hz1 : base ≤ w0.drew.heap.size := by rw [hbase]; exact Nat.le_refl _
  have HBASE := Lib.hid hbase; clear hbase
  generalize w0.drew = w1 at hS1 hz1 ⊢
  have HS1 := Lib.hid hS1; clear hS1
  refine PlanT.takeI (v := ?_) rfl rfl ?_ ?_; rotate_left; (focus (intro W hW; have hC := HC.out W hW; have k0 := hC.cell 0 _ rfl; have k1 := hC.cell 1 _ rfl; have k2 := hC.cell 2 _ rfl; have k3 := hC.cell 3 _ rfl; go_simp; (try with_reducible rfl); done)); (try simp only [Act.put, List.setIfInBounds_toArray, List.set_cons_zero, List.set_cons_succ])
  refine PlanT.takeI (v := ?_) rfl rfl ?_ ?_; rotate_left; (focus (intro W hW; have hC := HC.out W hW; have k0 := hC.cell 0 _ rfl; have k1 := hC.cell 1 _ rfl; have k2 := hC.cell 2 _ rfl; have k3 := hC.cell 3 _ rfl; go_simp; (try with_reducible rfl); done)); (try simp only [Act.put, List.setIfInBounds_toArray, List.set_cons_zero, List.set_cons_succ])
  refine PlanT.takeI (v := ?_) rfl rfl ?_ ?_; rotate_left; (focus (intro W hW; have hC := HC.out W hW; have k0 := hC.cell 0 _ rfl; have k1 := hC.cell 1 _ rfl; have k2 := hC.cell 2 _ rfl; have k3 := hC.cell 3 _ rfl; go_simp; (try with_reducible rfl); done)); (try simp only [Act.put, List.setIfInBounds_toArray, List.set_cons_zero, List.set_cons_succ])
  refine PlanT.takeI (v := ?_) rfl rfl ?_ ?_; rotate_left; (focus (intro W hW; have hC := HC.out W hW; have k0 := hC.cell 0 _ rfl; have k1 := hC.cell 1 _ rfl; have k2 := hC.cell 2 _ rfl; have k3 := hC.cell 3 _ rfl; go_simp; (try with_reducible rfl); done)); (try simp only [Act.put, List.setIfInBounds_toArray, List.set_cons_zero, List.set_cons_succ])
  refine PlanT.takeI (v := ?_) rfl rfl ?_ ?_; rotate_left; (focus (intro W hW; have hC := HC.out W hW; have k0 := hC.cell 0 _ rfl; have k1 := hC.cell 1 _ rfl; have k2 := hC.cell 2 _ rfl; have k3 := hC.cell 3 _ rfl; go_simp; (try with_reducible rfl); done)); (try simp only [Act.put, List.setIfInBounds_toArray, List.set_cons_zero, List.set_cons_succ])
  refine PlanT.takeI (v := ?_) rfl rfl ?_ ?_; rotate_left; (focus (intro W hW; have hC := HC.out W hW; have k0 := hC.cell 0 _ rfl; have k1 := hC.cell 1 _ rfl; have k2 := hC.cell 2 _ rfl; have k3 := hC.cell 3 _ rfl; go_simp; (try with_reducible rfl); done)); (try simp only [Act.put, List.setIfInBounds_toArray, List.set_cons_zero, List.set_cons_succ])
  refine PlanT.takeI (v := ?_) rfl rfl ?_ ?_; rotate_left; (focus (intro W hW; have hC := HC.out W hW; have k0 := hC.cell 0 _ rfl; have k1 := hC.cell 1 _ rfl; have k2 := hC.cell 2 _ rfl; have k3 := hC.cell 3 _ rfl; go_simp; (try with_reducible rfl); done)); (try simp only [Act.put, List.setIfInBounds_toArray, List.set_cons_zero, List.set_cons_succ])
  refine PlanT.takeI (v := ?_) rfl rfl ?_ ?_; rotate_left; (focus (intro W hW; have hC := HC.out W hW; have k0 := hC.cell 0 _ rfl; have k1 := hC.cell 1 _ rfl; have k2 := hC.cell 2 _ rfl; have k3 := hC.cell 3 _ rfl; go_simp; (try with_reducible rfl); done)); (try simp only [Act.put, List.setIfInBounds_toArray, List.set_cons_zero, List.set_cons_succ])
  refine PlanT.takeI (v := ?_) rfl rfl ?_ ?_; rotate_left; (focus (intro W hW; have hC := HC.out W hW; have k0 := hC.cell 0 _ rfl; have k1 := hC.cell 1 _ rfl; have k2 := hC.cell 2 _ rfl; have k3 := hC.cell 3 _ rfl; go_simp; (try with_reducible rfl); done)); (try simp only [Act.put, List.setIfInBounds_toArray, List.set_cons_zero, List.set_cons_succ])
  refine PlanT.takeI (v := ?_) rfl rfl ?_ ?_; rotate_left; (focus (intro W hW; have hC := HC.out W hW; have k0 := hC.cell 0 _ rfl; have k1 := hC.cell 1 _ rfl; have k2 := hC.cell 2 _ rfl; have k3 := hC.cell 3 _ rfl; go_simp; (try with_reducible rfl); done)); (try simp only [Act.put, List.setIfInBounds_toArray, List.set_cons_zero, List.set_cons_succ])
  refine PlanT.takeI (v := ?_) rfl rfl ?_ ?_; rotate_left; (focus (intro W hW; have hC := HC.out W hW; have k0 := hC.cell 0 _ rfl; have k1 := hC.cell 1 _ rfl; have k2 := hC.cell 2 _ rfl; have k3 := hC.cell 3 _ rfl; go_simp; (try with_reducible rfl); done)); (try simp only [Act.put, List.setIfInBounds_toArray, List.set_cons_zero, List.set_cons_succ])
  refine ⟨?_, ?_⟩
  · refine wpOp_stepT rfl rfl (fun Kk hK => ?_)
    go_simp
    obtain ⟨w10, hw10⟩ : ∃ W, W = w1.alloc (.cells #[.slice none 0 0] 64) := ⟨_, rfl⟩
    have hb10 : Below w1.heap.size w1 w10 := by rw [hw10]; exact (Below.refl _ _).alloc (Nat.le_refl _) _
    have hz10 : base ≤ w10.heap.size := Nat.le_trans hz1 hb10.size
    have hS10 : Below base w0 w10 := HS1.out.trans (hb10.mono hz1)
    have hN10 : FW w10 base w1.heap.size [] := by rw [hw10]; exact FW.fresh _ _ hz1
    rw [← hw10]
    clear hw10 hb10
    obtain ⟨p10, hg10⟩ : ∃ g, g = w1.heap.size := ⟨_, rfl⟩
    rw [← hg10] at hN10 ⊢
    clear hg10
    have HS10 := Lib.hid hS10
    have HF10 := Lib.hid hN10
    refine hK.out _ _ hS10 ?_
    clear hK Kk hS10 hN10
    refine wpOp_stepT rfl rfl (fun Kk hK => ?_)
    go_simp
    obtain ⟨w11, hw11⟩ : ∃ W, W = w10.alloc (.cells #[.int .i64 x.gen, .int .i64 x.epoch, .int .i64 x.recd, .int .i64 (x.chests.length : Int)] 3) := ⟨_, rfl⟩
    have hb11 : Below w10.heap.size w10 w11 := by rw [hw11]; exact (Below.refl _ _).alloc (Nat.le_refl _) _
    have hz11 : base ≤ w11.heap.size := Nat.le_trans hz10 hb11.size
    have hS11 : Below base w0 w11 := HS10.out.trans (hb11.mono hz10)
    have hN11 : RdI w11 w11.heap.size (.slice (some ⟨w10.heap.size, 0, none⟩) 4 4) [x.gen, x.epoch, x.recd, (x.chests.length : Int)] := by rw [hw11, World.size_alloc]; exact RdI.lit _ [x.gen, x.epoch, x.recd, (x.chests.length : Int)]
    have HF11 := Lib.hid (HF10.out.more hb11 (Nat.le_refl _))
    rw [← hw11]
    clear hw11 hb11
    obtain ⟨g11, hg11⟩ : ∃ g, g = w10.heap.size := ⟨_, rfl⟩
    rw [← hg11] at hN11 ⊢
    clear hg11
    have HS11 := Lib.hid hS11
    have HI11_10 := Lib.hid hN11
    refine hK.out _ _ hS11 ?_
    clear hK Kk hS11 hN11
    refine wpOp_stepT rfl rfl (fun Kk hK => ?_)
    go_simp
    go_at_call 31
    refine (HNUM.out _ _ _ _ HF11.out HI11_10.out).mono ?_
    rintro e w12 ⟨rfl, hf12, hb12, hk12⟩
    have hz12 : base ≤ w12.heap.size := hf12.size
    have hS12 : Below base w0 w12 := HS11.out.trans hb12
    have HF12 := Lib.hid hf12
    have HS12 := Lib.hid hS12
    refine hK.out _ _ hS12 ?_
    clear hK Kk hS12 hf12 hb12 hk12
    refine wpOp_stepT rfl rfl (fun Kk hK => ?_)
    go_simp
    go_at_call 31
    refine (HNU2.out _ _ HF12.out HS12.out hz12).mono ?_
    rintro e w13 ⟨rfl, hf13, hb13, hk13⟩
    have hz13 : base ≤ w13.heap.size := hf13.size
    have hS13 : Below base w0 w13 := HS12.out.trans hb13
    have HF13 := Lib.hid hf13
    have HS13 := Lib.hid hS13
    refine hK.out _ _ hS13 ?_
    clear hK Kk hS13 hf13 hb13 hk13
    refine PlanT.takeI (v := ?_) rfl rfl ?_ ?_; rotate_left; (focus (intro W hW;  go_simp; (try with_reducible rfl); done)); (try simp only [Act.put, List.setIfInBounds_toArray, List.set_cons_zero, List.set_cons_succ])
    refine PlanT.takeI (v := ?_) rfl rfl ?_ ?_; rotate_left; (focus (intro W hW;  go_simp; (try with_reducible rfl); done)); (try simp only [Act.put, List.setIfInBounds_toArray, List.set_cons_zero, List.set_cons_succ])
    obtain ⟨A13, c13, hwh13, how13, hpp13, _⟩ := HF13.out
    have q13 := hwh13.cell 0 _ rfl
    have HOW13 := Lib.hid how13
    refine wpOp_stepT rfl rfl (fun Kk hK => ?_)
    go_simp
    refine hK.out _ _ HS13.out ?_
    clear hK Kk
    refine PlanT.takeI (v := ?_) rfl rfl ?_ ?_; rotate_left; (focus (intro W hW;  go_simp; (try with_reducible rfl); done)); (try simp only [Act.put, List.setIfInBounds_toArray, List.set_cons_zero, List.set_cons_succ])
    refine PlanT.takeI (v := ?_) rfl rfl ?_ ?_; rotate_left; (focus (intro W hW;  go_simp; (try with_reducible rfl); done)); (try simp only [Act.put, List.setIfInBounds_toArray, List.set_cons_zero, List.set_cons_succ])
    simp only [PlanT]
    have HBF := Lib.hid (show Below w.heap.size w w13 from HBW.out.trans (HS13.out.mono (by omega)))
    clear how13 hwh13 hpp13
    go_wp2_with fail
    go_ret2
    exact ⟨_, rfl, by rw [HIN.out]; exact HOW13.out.rdB, HBF.out⟩
  · refine wpOp_stepT rfl rfl (fun Kk hK => ?_)
    go_simp
    obtain ⟨w14, hw14⟩ : ∃ W, W = w1.alloc (.cells #[.int .i64 x.gen, .int .i64 x.epoch, .int .i64 x.recd, .int .i64 (x.chests.length : Int)] 3) := ⟨_, rfl⟩
    have hb14 : Below w1.heap.size w1 w14 := by rw [hw14]; exact (Below.refl _ _).alloc (Nat.le_refl _) _
    have hz14 : base ≤ w14.heap.size := Nat.le_trans hz1 hb14.size
    have hS14 : Below base w0 w14 := HS1.out.trans (hb14.mono hz1)
    have hN14 : RdI w14 w14.heap.size (.slice (some ⟨w1.heap.size, 0, none⟩) 4 4) [x.gen, x.epoch, x.recd, (x.chests.length : Int)] := by rw [hw14, World.size_alloc]; exact RdI.lit _ [x.gen, x.epoch, x.recd, (x.chests.length : Int)]
    rw [← hw14]
    clear hw14 hb14
    obtain ⟨g14, hg14⟩ : ∃ g, g = w1.heap.size := ⟨_, rfl⟩
    rw [← hg14] at hN14 ⊢
    clear hg14
    have HS14 := Lib.hid hS14
    have HI14_10 := Lib.hid hN14
    refine hK.out _ _ hS14 ?_
    clear hK Kk hS14 hN14
    refine wpOp_stepT rfl rfl (fun Kk hK => ?_)
    go_simp
    obtain ⟨w15, hw15⟩ : ∃ W, W = w14.alloc (.cells #[.slice none 0 0] 64) := ⟨_, rfl⟩
    have hb15 : Below w14.heap.size w14 w15 := by rw [hw15]; exact (Below.refl _ _).alloc (Nat.le_refl _) _
    have hz15 : base ≤ w15.heap.size := Nat.le_trans hz14 hb15.size
    have hS15 : Below base w0 w15 := HS14.out.trans (hb15.mono hz14)
    have hN15 : FW w15 base w14.heap.size [] := by rw [hw15]; exact FW.fresh _ _ hz14
    have HI15_10 := Lib.hid (show RdI w15 w15.heap.size (.slice (some ⟨g14, 0, none⟩) 4 4) [x.gen, x.epoch, x.recd, (x.chests.length : Int)] from HI14_10.out.next hb15)
    rw [← hw15]
    clear hw15 hb15
    obtain ⟨p15, hg15⟩ : ∃ g, g = w14.heap.size := ⟨_, rfl⟩
    rw [← hg15] at hN15 ⊢
    clear hg15
    have HS15 := Lib.hid hS15
    have HF15 := Lib.hid hN15
    refine hK.out _ _ hS15 ?_
    clear hK Kk hS15 hN15
    refine wpOp_stepT rfl rfl (fun Kk hK => ?_)
    go_simp
    go_at_call 31
    refine (HNUM.out _ _ _ _ HF15.out HI15_10.out).mono ?_
    rintro e w16 ⟨rfl, hf16, hb16, hk16⟩
    have hz16 : base ≤ w16.heap.size := hf16.size
    have hS16 : Below base w0 w16 := HS15.out.trans hb16
    have HF16 := Lib.hid hf16
    have HS16 := Lib.hid hS16
    refine hK.out _ _ hS16 ?_
    clear hK Kk hS16 hf16 hb16 hk16
    refine wpOp_stepT rfl rfl (fun Kk hK => ?_)
    go_simp
    go_at_call 31
    refine (HNU2.out _ _ HF16.out HS16.out hz16).mono ?_
    rintro e w17 ⟨rfl, hf17, hb17, hk17⟩
    have hz17 : base ≤ w17.heap.size := hf17.size
    have hS17 : Below base w0 w17 := HS16.out.trans hb17
    have HF17 := Lib.hid hf17
    have HS17 := Lib.hid hS17
    refine hK.out _ _ hS17 ?_
    clear hK Kk hS17 hf17 hb17 hk17
    refine PlanT.takeI (v := ?_) rfl rfl ?_ ?_; rotate_left; (focus (intro W hW;  go_simp; (try with_reducible rfl); done)); (try simp only [Act.put, List.setIfInBounds_toArray, List.set_cons_zero, List.set_cons_succ])
    refine PlanT.takeI (v := ?_) rfl rfl ?_ ?_; rotate_left; (focus (intro W hW;  go_simp; (try with_reducible rfl); done)); (try simp only [Act.put, List.setIfInBounds_toArray, List.set_cons_zero, List.set_cons_succ])
    obtain ⟨A17, c17, hwh17, how17, hpp17, _⟩ := HF17.out
    have q17 := hwh17.cell 0 _ rfl
    have HOW17 := Lib.hid how17
    refine wpOp_stepT rfl rfl (fun Kk hK => ?_)
    go_simp
    refine hK.out _ _ HS17.out ?_
    clear hK Kk
    refine PlanT.takeI (v := ?_) rfl rfl ?_ ?_; rotate_left; (focus (intro W hW;  go_simp; (try with_reducible rfl); done)); (try simp only [Act.put, List.setIfInBounds_toArray, List.set_cons_zero, List.set_cons_succ])
    refine PlanT.takeI (v := ?_) rfl rfl ?_ ?_; rotate_left; (focus (intro W hW;  go_simp; (try with_reducible rfl); done)); (try simp only [Act.put, List.setIfInBounds_toArray, List.set_cons_zero, List.set_cons_succ])
    simp only [PlanT]
    have HBF := Lib.hid (show Below w.heap.size w w17 from HBW.out.trans (HS17.out.mono (by omega)))
    clear how17 hwh17 hpp17
    go_wp2_with fail
    go_ret2
    exact ⟨_, rfl, by rw [HIN.out]; exact HOW17.out.rdB, HBF.out⟩
end Go.Proofs.Ytiijcikdlemndaa

/- The reference's PutTxn, GetTxn. -/
import Derived.Test.YtiijcikdlemndaaPGet
import Derived.Test.YtiijcikdlemndaaSm
namespace Go.Proofs.Ytiijcikdlemndaa
open Go.RowKit
attribute [local go_sem] less_eq same_eq le_eq ge_eq gt_eq

set_option maxHeartbeats 2000000 in
set_option maxRecDepth 100000 in
theorem rputT_bad (t : Txn) (hs : ¬ soundT t) (hr : t.read < 9223372036854775808) (hft : fitT t) (v1 v2 : Value) (w : World) (hv1 : RdP w w.heap.size v1 t.reads) (hv2 : RdC w w.heap.size v2 t.chgs) :
    Calls Try.prog 16 #[tval t v1 v2] w fun e w' => e = .returned (.tuple #[.slice none 0 0, .int .i64 2]) ∧ Below w.heap.size w w' := by
  have hb1 : Below w.heap.size w (w.alloc (.cells #[.int .i64 t.read, v1, v2] 36)) := (Below.refl _ _).alloc (Nat.le_refl _) _
  have hsnd := rsoundT_any t hft v1 v2 (w.alloc (.cells #[.int .i64 t.read, v1, v2] 36)) (hv1.next hb1) (hv2.next hb1)
  have HV1 := Lib.hid (Whole.fresh w 36 [.int .i64 t.read, v1, v2])
  have HB1 := Lib.hid hb1; clear hb1
  have HVA := Lib.hid hv1
  have HVB := Lib.hid hv2
  obtain ⟨A1, cc1, hvv1, _, hi⟩ := hv1.at
  obtain ⟨A2, cc2, hvv2, _, _⟩ := hv2.at
  subst hvv1 hvv2
  have HI := Lib.hid hi; clear hi hv1 hv2
  unfold tval at hsnd ⊢
  rw [decide_eq_false hs] at hsnd
  have HSND := Lib.hid hsnd; clear hsnd
  go_enter Try.func16, Try.ntmps16
  go_wp2_with fail
  refine HSND.out.mono ?_
  rintro e w2 ⟨rfl, hb2⟩
  have HB2 := Lib.hid (HB1.out.trans (hb2.mono (by simp))); clear hb2
  go_wp2_with fail
  go_ret2
  exact ⟨rfl, HB2.out⟩

set_option maxHeartbeats 8000000 in
set_option maxRecDepth 100000 in
theorem rputT_ok (t : Txn) (hs : soundT t) (hr : t.read < 9223372036854775808) (hft : fitT t) (v1 v2 : Value) (w : World) (hv1 : RdP w w.heap.size v1 t.reads) (hv2 : RdC w w.heap.size v2 t.chgs) :
    Calls Try.prog 16 #[tval t v1 v2] w fun e w' => ∃ v', e = .returned (.tuple #[v', .int .i64 0]) ∧ RdB w' w'.heap.size v' (txnB t) ∧ Below w.heap.size w w' := by
  have hb1 : Below w.heap.size w (w.alloc (.cells #[.int .i64 t.read, v1, v2] 36)) := (Below.refl _ _).alloc (Nat.le_refl _) _
  have hsnd := rsoundT_any t hft v1 v2 (w.alloc (.cells #[.int .i64 t.read, v1, v2] 36)) (hv1.next hb1) (hv2.next hb1)
  have HV1 := Lib.hid (Whole.fresh w 36 [.int .i64 t.read, v1, v2])
  have HB1 := Lib.hid hb1; clear hb1
  have HVA := Lib.hid hv1
  have HVB := Lib.hid hv2
  obtain ⟨A1, cc1, hvv1, _, hi⟩ := hv1.at
  obtain ⟨A2, cc2, hvv2, _, _⟩ := hv2.at
  subst hvv1 hvv2
  have HI := Lib.hid hi; clear hi hv1 hv2
  unfold tval at hsnd ⊢
  rw [decide_eq_true hs] at hsnd
  have HSND := Lib.hid hsnd; clear hsnd
  have hin : txnB t = (([] ++ encs [t.read, (t.reads.length : Int)]) ++ t.reads.flatMap spanB) ++ listB chgB t.chgs := by simp [txnB, encs, listB]
  obtain ⟨s1, s2, s3, s4, s5⟩ := hs
  have hsp : ∀ s ∈ t.reads, s.1.size ≤ 65536 ∧ s.2.size ≤ 65536 := fun s h => by have := s3 s h; unfold okSpan at this; omega
  have hch : ∀ c ∈ t.chgs, 0 ≤ c.kind ∧ c.kind < 9223372036854775808 ∧ c.key.size ≤ 65536 ∧ c.val.size ≤ 65536 := fun c h => okC (allAns_all s5 c h)
  have hrng : ∀ n ∈ [t.read, (t.reads.length : Int)], 0 ≤ n ∧ n < 9223372036854775808 := by
    simp only [List.mem_cons, List.not_mem_nil, or_false, forall_eq_or_imp, forall_eq]
    omega
  have hel := encs_len [t.read, (t.reads.length : Int)] (fun n h => (hrng n h).2)
  have h1l : ([] ++ encs [t.read, (t.reads.length : Int)]).length ≤ 18 := by simpa using hel
  have hnum := fun (v : Value) (W : World) (base : Nat) (h1 : OwnB W base (.slice none ([] : List UInt8).length 0) []) (h2 : base ≤ W.heap.size) (h3 : RdI W base v [t.read, (t.reads.length : Int)]) => rnums5_any [t.read, (t.reads.length : Int)] hrng (by simp) v [] none 0 W base h1 h2 h3 (by simp)
  generalize [] ++ encs [t.read, (t.reads.length : Int)] = L1 at hin hnum h1l
  have hlast := fun (L2 : List UInt8) (hl2 : L2.length ≤ 100000000) (A : Option Addr) (c : Nat) (W : World) (base : Nat) (h1 : OwnB W base (.slice A L2.length c) L2) (h2 : base ≤ W.heap.size) (h3 : RdC W base (.slice A2 t.chgs.length cc2) t.chgs) => rchgs5_any t.chgs hch (by omega) (.slice A2 t.chgs.length cc2) L2 A c W base h1 h2 h3 (by omega)
  simp only [List.length_nil] at hnum
  have HNUM := Lib.hid hnum
  have HLAST := Lib.hid hlast
  have HIN := Lib.hid hin
  have HSPP := Lib.hid hsp
  clear hnum hlast hin hel hch hrng s1 s3 s4 s5 hr hft hsp
  go_enter Try.func16, Try.ntmps16
  go_wp2_with fail
  refine HSND.out.mono ?_
  rintro e w0 ⟨rfl, hb2⟩
  have hV0 := HV1.out.below hb2 (by simp)
  have hbw : Below w.heap.size w w0 := HB1.out.trans (hb2.mono (by simp))
  have HV0 := Lib.hid hV0; clear hV0
  have HBW := Lib.hid hbw; clear hbw hb2
  have hlt0 : w.heap.size < w0.heap.size := HV0.out.size
  have k0 := HV0.out.cell 0 _ rfl
  have k1 := HV0.out.cell 1 _ rfl
  obtain ⟨w2, hw2⟩ : ∃ W, W = w0.alloc (.cells #[.int .i64 t.read, .int .i64 (t.reads.length : Int)] 3) := ⟨_, rfl⟩
  have hi2 : RdI w2 w2.heap.size (.slice (some ⟨w0.heap.size, 0, none⟩) 2 2) [t.read, (t.reads.length : Int)] := by rw [hw2, World.size_alloc]; exact RdI.lit _ [t.read, (t.reads.length : Int)]
  have hb02 : Below w0.heap.size w0 w2 := by rw [hw2]; exact (Below.refl _ _).alloc (Nat.le_refl _) _
  have hn := HNUM.out _ w2 w2.heap.size (Own.nil _ _) (Nat.le_refl _) hi2
  have HN := Lib.hid hn
  have HW2 := Lib.hid hw2
  obtain ⟨base, hbase⟩ : ∃ base, base = w2.heap.size := ⟨_, rfl⟩
  have hwb : w.heap.size < base := by have := hb02.size; omega
  have HV2 := Lib.hid (HV0.out.below hb02 hlt0)
  have HBW2 := Lib.hid (show Below w.heap.size w w2 from HBW.out.trans (hb02.mono (by omega)))
  have HCW := Lib.hid (fun W (hW : Below base w2 W) => HV2.out.below hW hwb)
  have HBASE := Lib.hid hbase
  clear hn hi2 hb02 hw2 hbase
  go_wp2_with fail
  rw [← HW2.out]
  clear k0 k1
  refine HN.out.mono ?_
  rintro e w3 ⟨A3, c3, rfl, ho3, hb3, hs3⟩
  rw [← HBASE.out] at ho3 hb3 hs3
  have HO3 := Lib.hid ho3
  have HB3 := Lib.hid hb3
  clear ho3 hb3
  go_wp2_with fail
  go_loopw [4, 5] (fun sv iv wr => ∃ (i : Nat) (m' : List UInt8) (A' : Option Addr) (c' : Nat), i ≤ t.reads.length ∧ iv = .int .i64 i ∧ sv = .slice A' m'.length c' ∧ OwnB wr base (.slice A' m'.length c') m' ∧ m' = L1 ++ (t.reads.take i).flatMap spanB ∧ m'.length ≤ L1.length + i * 131090 ∧ Below base w2 wr ∧ base ≤ wr.heap.size) (fun _ iv _ => t.reads.length - (intOf iv).toNat)
  case atStart => exact ⟨0, L1, A3, c3, Nat.zero_le _, rfl, rfl, HO3.out, by simp, by omega, HB3.out, hs3⟩
  case round =>
    obtain ⟨i, m', A', c', hil, rfl, rfl, ho, hme, hml, hbr, hbs⟩ := hrel
    have HO := Lib.hid ho; clear ho
    have HME := Lib.hid hme; clear hme
    have HBR := Lib.hid hbr
    have hC0 := HCW.out _ hbr
    have p1 := hC0.cell 1 _ rfl
    have p2 := hC0.cell 2 _ rfl
    clear hC0 hbr
    by_cases hlt : i < t.reads.length
    · obtain ⟨b, o, rfl, hbB, x0, x1⟩ := HI.out i hlt
      have hbw2 := HBW2.out
      rw [← hbw2.cell (p := ⟨b, _, none⟩) hbB] at x0 x1
      have hks := HSPP.out t.reads[i] (List.getElem_mem hlt)
      have hnew : m' ++ spanB t.reads[i] = L1 ++ (t.reads.take (i + 1)).flatMap spanB := by
        rw [HME.out, List.take_add_one, List.getElem?_eq_getElem hlt, List.flatMap_append, List.append_assoc]; simp
      have hlen := spanB_len t.reads[i] hks
      generalize t.reads[i] = z at x0 x1 hks hnew hlen
      obtain ⟨x, y⟩ := z
      simp only at x0 x1 hks
      have hbb : b < base := by omega
      have HE0 := Lib.hid (fun W (hW : Below base w2 W) => (hW.cell (p := ⟨b, o + i * 2, none⟩) hbb).trans x0)
      have HE1 := Lib.hid (fun W (hW : Below base w2 W) => (hW.cell (p := ⟨b, o + i * 2 + 1, none⟩) hbb).trans x1)
      have hR2 : m' ++ spanB (x, y) = (m' ++ encT x.data.toList) ++ encT y.data.toList := by simp [spanB]
      rw [hR2] at hnew
      have hlx := encT_len x hks.1
      have hly := encT_len y hks.2
      have htx := fun (W : World) (h1 : OwnB W base (.slice A' m'.length c') m') (h2 : base ≤ W.heap.size) => rputText_any x (by omega) m' A' c' W base h1 h2 (by omega)
      have hlm3 : (m' ++ encT x.data.toList).length ≤ m'.length + x.size + 9 := by rw [List.length_append]; omega
      generalize hm3 : m' ++ encT x.data.toList = m3 at htx hnew hlm3
      have hty := fun (A : Option Addr) (c : Nat) (W : World) (h1 : OwnB W base (.slice A m3.length c) m3) (h2 : base ≤ W.heap.size) => rputText_any y (by omega) m3 A c W base h1 h2 (by omega)
      have hlm4 : (m3 ++ encT y.data.toList).length ≤ m3.length + y.size + 9 := by rw [List.length_append]; omega
      generalize hm4 : m3 ++ encT y.data.toList = m4 at hty hnew hlm4
      have HTX := Lib.hid htx; clear htx
      have HTY := Lib.hid hty; clear hty
      have HNEW := Lib.hid hnew; clear hnew
      have hi1 : (i : Int) < (t.reads.length : Int) := by omega
      have hi0 : (0 : Int) ≤ (i : Int) := by omega
      clear hR2 hm3 hm4 x0 x1 hbw2 p2
      go_wp2_with fail
      clear p1
      refine wp_region_planT (fun W => Below base w2 W) (.take 0 (.take 1 (.take 2 (.take 3 (.take 4 (.take 5 (.take 6 (.take 8 (.take 9 (.take 10 (.take 11 (.take 12 (.take 13 (.step 7 (.step 14 (.take 15 .done)))))))))))))))) (by kernel_rfl) (by kernel_rfl) (fun _ _ d _ _ h => by cases d <;> exact h) (HBR.out.drew) ?_
      have ho1' : OwnB wr.drew base (.slice A' m'.length c') m' := HO.out
      have hsd : base ≤ wr.drew.heap.size := hbs
      have hbd : Below base w2 wr.drew := HBR.out.drew
      generalize wr.drew = wd at ho1' hsd hbd ⊢
      refine PlanT.takeI (v := ?_) rfl rfl ?_ ?_; rotate_left; (focus (intro W hW; have hC := HCW.out W hW; have k1 := hC.cell 1 _ rfl; have e0 := HE0.out W hW; have e1 := HE1.out W hW; go_simp; (try with_reducible rfl); done)); (try simp only [Act.put, List.setIfInBounds_toArray, List.set_cons_zero, List.set_cons_succ])
      refine PlanT.takeI (v := ?_) rfl rfl ?_ ?_; rotate_left; (focus (intro W hW; have hC := HCW.out W hW; have k1 := hC.cell 1 _ rfl; have e0 := HE0.out W hW; have e1 := HE1.out W hW; go_simp; (try with_reducible rfl); done)); (try simp only [Act.put, List.setIfInBounds_toArray, List.set_cons_zero, List.set_cons_succ])
      refine PlanT.takeI (v := ?_) rfl rfl ?_ ?_; rotate_left; (focus (intro W hW; have hC := HCW.out W hW; have k1 := hC.cell 1 _ rfl; have e0 := HE0.out W hW; have e1 := HE1.out W hW; go_simp; (try with_reducible rfl); done)); (try simp only [Act.put, List.setIfInBounds_toArray, List.set_cons_zero, List.set_cons_succ])
      refine PlanT.takeI (v := ?_) rfl rfl ?_ ?_; rotate_left; (focus (intro W hW; have hC := HCW.out W hW; have k1 := hC.cell 1 _ rfl; have e0 := HE0.out W hW; have e1 := HE1.out W hW; go_simp; (try with_reducible rfl); done)); (try simp only [Act.put, List.setIfInBounds_toArray, List.set_cons_zero, List.set_cons_succ])
      refine PlanT.takeI (v := ?_) rfl rfl ?_ ?_; rotate_left; (focus (intro W hW; have hC := HCW.out W hW; have k1 := hC.cell 1 _ rfl; have e0 := HE0.out W hW; have e1 := HE1.out W hW; go_simp; (try with_reducible rfl); done)); (try simp only [Act.put, List.setIfInBounds_toArray, List.set_cons_zero, List.set_cons_succ])
      refine PlanT.takeI (v := ?_) rfl rfl ?_ ?_; rotate_left; (focus (intro W hW; have hC := HCW.out W hW; have k1 := hC.cell 1 _ rfl; have e0 := HE0.out W hW; have e1 := HE1.out W hW; go_simp; (try with_reducible rfl); done)); (try simp only [Act.put, List.setIfInBounds_toArray, List.set_cons_zero, List.set_cons_succ])
      refine PlanT.takeI (v := ?_) rfl rfl ?_ ?_; rotate_left; (focus (intro W hW; have hC := HCW.out W hW; have k1 := hC.cell 1 _ rfl; have e0 := HE0.out W hW; have e1 := HE1.out W hW; go_simp; (try with_reducible rfl); done)); (try simp only [Act.put, List.setIfInBounds_toArray, List.set_cons_zero, List.set_cons_succ])
      refine PlanT.takeI (v := ?_) rfl rfl ?_ ?_; rotate_left; (focus (intro W hW; have hC := HCW.out W hW; have k1 := hC.cell 1 _ rfl; have e0 := HE0.out W hW; have e1 := HE1.out W hW; go_simp; (try with_reducible rfl); done)); (try simp only [Act.put, List.setIfInBounds_toArray, List.set_cons_zero, List.set_cons_succ])
      refine PlanT.takeI (v := ?_) rfl rfl ?_ ?_; rotate_left; (focus (intro W hW; have hC := HCW.out W hW; have k1 := hC.cell 1 _ rfl; have e0 := HE0.out W hW; have e1 := HE1.out W hW; go_simp; (try with_reducible rfl); done)); (try simp only [Act.put, List.setIfInBounds_toArray, List.set_cons_zero, List.set_cons_succ])
      refine PlanT.takeI (v := ?_) rfl rfl ?_ ?_; rotate_left; (focus (intro W hW; have hC := HCW.out W hW; have k1 := hC.cell 1 _ rfl; have e0 := HE0.out W hW; have e1 := HE1.out W hW; go_simp; (try with_reducible rfl); done)); (try simp only [Act.put, List.setIfInBounds_toArray, List.set_cons_zero, List.set_cons_succ])
      refine PlanT.takeI (v := ?_) rfl rfl ?_ ?_; rotate_left; (focus (intro W hW; have hC := HCW.out W hW; have k1 := hC.cell 1 _ rfl; have e0 := HE0.out W hW; have e1 := HE1.out W hW; go_simp; (try with_reducible rfl); done)); (try simp only [Act.put, List.setIfInBounds_toArray, List.set_cons_zero, List.set_cons_succ])
      refine PlanT.takeI (v := ?_) rfl rfl ?_ ?_; rotate_left; (focus (intro W hW; have hC := HCW.out W hW; have k1 := hC.cell 1 _ rfl; have e0 := HE0.out W hW; have e1 := HE1.out W hW; go_simp; (try with_reducible rfl); done)); (try simp only [Act.put, List.setIfInBounds_toArray, List.set_cons_zero, List.set_cons_succ])
      refine PlanT.takeI (v := ?_) rfl rfl ?_ ?_; rotate_left; (focus (intro W hW; have hC := HCW.out W hW; have k1 := hC.cell 1 _ rfl; have e0 := HE0.out W hW; have e1 := HE1.out W hW; go_simp; (try with_reducible rfl); done)); (try simp only [Act.put, List.setIfInBounds_toArray, List.set_cons_zero, List.set_cons_succ])
      refine wpOp_stepT rfl rfl (fun Kk hK => ?_)
      go_simp
      go_at_call 37
      refine (HTX.out wd ho1' hsd).mono ?_
      rintro e w5 ⟨A4, c4, rfl, ho5, hb5, hs5⟩
      have hbd5 := hbd.trans hb5
      refine hK.out _ _ hbd5 ?_
      clear hK Kk
      refine wpOp_stepT rfl rfl (fun Kk hK => ?_)
      go_simp
      go_at_call 37
      refine (HTY.out A4 c4 w5 ho5 hs5).mono ?_
      rintro e w6 ⟨A5, c5, rfl, ho6, hb6, hs6⟩
      have hbd6 := hbd5.trans hb6
      refine hK.out _ _ hbd6 ?_
      clear hK Kk
      refine PlanT.takeI (v := ?_) rfl rfl ?_ ?_; rotate_left; (focus (intro W hW;  go_simp; (try with_reducible rfl); done)); (try simp only [Act.put, List.setIfInBounds_toArray, List.set_cons_zero, List.set_cons_succ])
      simp only [PlanT]
      have HO6 := Lib.hid ho6
      have HB6 := Lib.hid hbd6
      clear ho1' hsd hbd ho5 hb5 hs5 hbd5 ho6 hb6 hbd6
      go_wp2_with fail
      go_roundw
      case rel => exact ⟨i + 1, m4, A5, c5, by omega, by go_num, rfl, HO6.out, HNEW.out, by omega, HB6.out, hs6⟩
      case measure => simp [intOf]; omega
    · obtain rfl : i = t.reads.length := by omega
      have hm2 : m' = L1 ++ t.reads.flatMap spanB := by rw [HME.out, List.take_length]
      have hin := HIN.out
      rw [← hm2] at hin
      have hvv := ((HVB.out.below HBW2.out (Nat.le_refl _)).below HBR.out (by omega)).mono (show w.heap.size ≤ base by omega)
      have hla := HLAST.out m' (by omega) A' c' wr base HO.out hbs hvv
      generalize m' ++ listB chgB t.chgs = L3 at hin hla
      have HLA := Lib.hid hla
      have HIN2 := Lib.hid hin
      clear hm2 hin hvv hla
      go_wp2_with fail
      refine HLA.out.mono ?_
      rintro e w7 ⟨A7, c7, rfl, ho7, hb7, hs7⟩
      have HO7 := Lib.hid ho7
      have HB7 := Lib.hid (show Below w.heap.size w w7 from HBW2.out.trans ((HBR.out.trans hb7).mono (by omega)))
      clear ho7 hb7
      go_wp2_with fail
      go_ret2
      exact ⟨_, rfl, by rw [HIN2.out]; exact HO7.out.rdB, HB7.out⟩

theorem rdChgs_none : (rdList rdChg 24 none).2 = none := by
  simp [rdList, rdCount, rdN, repS]

set_option maxHeartbeats 16000000 in
set_option maxRecDepth 100000 in
theorem rgetT (l : List UInt8) (v : Value) (w : World) (hv : RdB w w.heap.size v l) (hl : l.length < 4611686018427387904) :
    Calls Try.prog 18 #[v] w fun e w' => ∃ v1 v2, e = .returned (.tuple #[tval (getTxn l).1 v1 v2, .int .i64 (getTxn l).2]) ∧ RdP w' w'.heap.size v1 (getTxn l).1.reads ∧ RdC w' w'.heap.size v2 (getTxn l).1.chgs ∧ Below w.heap.size w w' := by
  obtain ⟨A0, c0, hvv, _, _⟩ := hv.at
  subst hvv
  obtain ⟨w2, hw2⟩ : ∃ w2, w2 = (w.alloc (.cells #[.int .i64 0, .slice none 0 0, .slice none 0 0] 36)).alloc (.cells #[.slice A0 l.length c0, .bool false] 78) := ⟨_, rfl⟩
  obtain ⟨p, hp⟩ : ∃ p, p = w.heap.size + 1 := ⟨_, rfl⟩
  have hb2 : Below w.heap.size w w2 := by rw [hw2]; exact ((Below.refl _ _).alloc (Nat.le_refl _) _).alloc (by simp) _
  have hV2 : Whole w2 w.heap.size 36 [.int .i64 0, .slice none 0 0, .slice none 0 0] := by rw [hw2]; exact (Whole.fresh _ _ _).alloc _
  have hR2 : RR w2 p p (some l) := by
    refine ⟨A0, c0, l, ?_, (hv.below hb2 (Nat.le_refl _)).mono (by omega), Nat.le_refl _, hl, fun r hr => by injection hr with hr; exact hr.symm⟩
    have h := Whole.fresh (w.alloc (.cells #[.int .i64 0, .slice none 0 0, .slice none 0 0] 36)) 78 [.slice A0 l.length c0, .bool false]
    rw [World.size_alloc] at h
    rw [hw2, hp]; exact h
  obtain ⟨R, hD⟩ : ∃ R, R = getTxn l := ⟨_, rfl⟩
  rw [← hD]
  unfold getTxn rdTxn at hD
  simp only at hD
  have hN1 := fun W base p h => rrnum_any (some l) base p W h
  generalize rdN (some l) = r1 at hN1 hD
  obtain ⟨n1, S1⟩ := r1
  simp only at hN1 hD
  have hN2 := fun W base p h => rrnum_any S1 base p W h
  have hlt := rdN_lt S1
  unfold rdList rdCount at hD
  generalize hr2e : rdN S1 = r2 at hN2 hD hlt
  obtain ⟨n2, S2⟩ := r2
  simp only at hN2 hD hlt
  obtain ⟨N, rfl⟩ : ∃ N : Nat, n2 = (N : Int) := ⟨n2.toNat, by omega⟩
  have hD' : R = if (rdList rdChg 24 (rdList rdSpan 24 S1).2).2 = some [] ∧ soundT ⟨n1, (rdList rdSpan 24 S1).1, (rdList rdChg 24 (rdList rdSpan 24 S1).2).1⟩ then (⟨n1, (rdList rdSpan 24 S1).1, (rdList rdChg 24 (rdList rdSpan 24 S1).2).1⟩, 0) else (zeroT, 2) := by
    rw [hD]
    simp only [rdList, rdCount, hr2e]
  have hlist : rdList rdSpan 24 S1 = if (N : Int) > ((24 : Nat) : Int) then ([], none) else (repL rdSpan N S2, repS rdSpan N S2) := by
    simp only [rdList, rdCount, hr2e]
    split
    · rfl
    · simp
  rw [hlist] at hD'
  have HN1 := Lib.hid hN1
  have HN2 := Lib.hid hN2
  have HV2 := Lib.hid hV2
  have HB2 := Lib.hid hb2
  have HR2 := Lib.hid hR2
  have HW2 := Lib.hid hw2
  have HP := Lib.hid hp
  have HD := Lib.hid hD'
  have hwp : w.heap.size < p := by omega
  obtain ⟨i0, hi, hz0, hz1, hz2⟩ := info_parts info_span
  have HI0 := Lib.hid hi; clear hi
  have HZ0 := Lib.hid hz0; clear hz0
  have HZ1 := Lib.hid hz1; clear hz1
  have HZ2 := Lib.hid hz2; clear hz2
  clear hN1 hN2 hV2 hb2 hR2 hw2 hp hv hD hD' hlist hr2e hlt
  go_enter Try.func18, Try.ntmps18
  go_wp2_with fail
  rw [← HW2.out, ← HP.out]
  refine (HN1.out _ _ _ HR2.out).mono ?_
  rintro e a1 ⟨rfl, hr, ho⟩
  have hbo : Below p w2 a1 := ho.low (Nat.le_refl _) (by have := HR2.out.size; omega)
  have hVa := HV2.out.below hbo hwp
  have hBa := HB2.out.trans (hbo.mono (by omega))
  obtain ⟨w3, hw3⟩ : ∃ w3, w3 = a1.alloc (.cells #[.int .i64 n1, .slice none 0 0, .slice none 0 0] 36) := ⟨_, rfl⟩
  have hba : Below a1.heap.size a1 w3 := by rw [hw3]; exact (Below.refl _ _).alloc (Nat.le_refl _) _
  obtain ⟨G, hG⟩ : ∃ G, G = a1.heap.size := ⟨_, rfl⟩
  have HM3 := Lib.hid (show Whole w3 G 36 [.int .i64 n1, .slice none 0 0, .slice none 0 0] by rw [hw3, hG]; exact Whole.fresh _ _ _)
  have HV3 := Lib.hid (hVa.below hba hVa.size)
  have HB3 := Lib.hid (hBa.trans (hba.mono (by have := hVa.size; omega)))
  have HR3 := Lib.hid (hr.more hba)
  have hpG : p < G := by rw [hG]; exact hr.size
  have hne : w.heap.size ≠ G := by omega
  have HW3 := Lib.hid hw3
  have HGG := Lib.hid hG
  clear hr ho hbo hVa hBa hba hw3 hG
  go_wp2_with fail
  rw [← HW3.out, ← HGG.out]
  refine (HN2.out _ _ _ HR3.out).mono ?_
  rintro e a4 ⟨rfl, hr, ho⟩
  have hbo : Below p w3 a4 := ho.low (Nat.le_refl _) (by have := HR3.out.size; omega)
  have HM6 := Lib.hid (HM3.out.grown (row := some p) ho (fun e => by injection e with e; omega))
  have HV6 := Lib.hid (HV3.out.below hbo hwp)
  have HB6 := Lib.hid (HB3.out.trans (hbo.mono (by omega)))
  have HR6 := Lib.hid hr
  have hag : G < a4.heap.size := HM6.out.size
  clear hr ho hbo
  obtain ⟨g, hg⟩ : ∃ g, g = a4.heap.size := ⟨_, rfl⟩
  have hpg : p < g := by omega
  have hGg : G < g := by omega
  have hwg : w.heap.size < g := by omega
  have HG4 := Lib.hid hg; clear hg hag
  by_cases hbig : (24 : Int) < (N : Int)
  · have hr : R = (zeroT, 2) := by
      have hd := HD.out
      rw [if_pos (show (N : Int) > ((24 : Nat) : Int) by omega)] at hd
      rw [hd]
      exact if_neg fun h => by rw [rdChgs_none] at h; cases h.1
    have HRE := Lib.hid hr; clear hr
    go_wp2_with fail
    go_loopw [7] (fun iv wr => iv = .int .i64 0 ∧ wr = a4) (fun _ _ => 0)
    case atStart => exact ⟨rfl, rfl⟩
    case round =>
      obtain ⟨rfl, rfl⟩ := hrel
      have hpos : (0 : Int) < (N : Int) := by omega
      have q0 := HV6.out.cell 0 _ rfl
      have g0 := HV6.out.frozen 0
      have q1 := HV6.out.cell 1 _ rfl
      have g1 := HV6.out.frozen 1
      have q2 := HV6.out.cell 2 _ rfl
      have g2 := HV6.out.frozen 2
      go_wp2_with fail
      have hVZ := (((HV6.out.put 0 (.int .i64 0)).put 1 (.slice none 0 0)).put 2 (.slice none 0 0))
      have j0 := hVZ.cell 0 _ rfl
      have j1 := hVZ.cell 1 _ rfl
      have j2 := hVZ.cell 2 _ rfl
      rw [HRE.out]
      refine bodyPost_ret (v := .tuple #[.agg #[.int .i64 0, .slice none 0 0, .slice none 0 0], .int .i64 2]) (by simp [results, Try.results18, go_sem, j0, j1, j2]) rfl ⟨_, _, rfl, Rd.nil _ _, Rd.nil _ _, (((HB6.out.setCell (Nat.le_refl _) _).setCell (Nat.le_refl _) _).setCell (Nat.le_refl _) _)⟩
  · have hd := HD.out
    rw [if_neg (show ¬ (N : Int) > ((24 : Nat) : Int) by omega)] at hd
    simp only at hd
    have hN24 : N ≤ 24 := by omega
    have h24 : (N : Int) ≤ 24 := by omega
    have h24b : ¬ (24 : Int) < (N : Int) := hbig
    have hbd : decide (24 < N) = false := decide_eq_false (by omega)
    have hbi : decide ((24 : Int) < (N : Int)) = false := decide_eq_false hbig
    have hLLl := repL_len rdSpan S2 N
    have hLLe := repL_all (p := fun s : K × K => s.1.size ≤ 65536 ∧ s.2.size ≤ 65536) rdSpan_len S2 N
    have HD2 := Lib.hid hd; clear hd
    have HLLl := Lib.hid hLLl; clear hLLl
    have HLLe := Lib.hid hLLe; clear hLLe
    go_wp2_with fail
    go_loopw [7] (fun iv wr => ∃ (i : Nat) (A : Option Addr) (c : Nat) (L : List (K × K)), i ≤ N ∧ iv = .int .i64 i ∧ L.length = i ∧ L = repL rdSpan i S2 ∧ Whole wr G 36 [.int .i64 n1, .slice A i c, .slice none 0 0] ∧ Own cellsS 2 83 wr g (.slice A i c) L ∧ RR wr p p (repS rdSpan i S2) ∧ Whole wr w.heap.size 36 [.int .i64 0, .slice none 0 0, .slice none 0 0] ∧ Below w.heap.size w wr ∧ g ≤ wr.heap.size) (fun iv _ => N - (intOf iv).toNat)
    case atStart => exact ⟨0, none, 0, [], Nat.zero_le _, rfl, rfl, rfl, HM6.out, Own.nil _ _, HR6.out, HV6.out, HB6.out, by rw [HG4.out]; exact Nat.le_refl _⟩
    case round =>
      obtain ⟨i, A, c, L, hil, rfl, hLl, hL, hM, how, hr, hV, hB, hgs⟩ := hrel
      have q1 : wr.cell? ⟨p, 1, none⟩ = some (.bool (repS rdSpan i S2).isNone) := by obtain ⟨_, _, _, hw, _⟩ := hr; exact hw.cell 1 _ rfl
      by_cases hlt : i < N
      · by_cases hst : repS rdSpan i S2 = none
        · have hfin : repS rdSpan N S2 = none := repS_stuck (fun S => rdSpan_none) hil hst
          rw [hst] at q1 hr
          simp only [Option.isNone_none] at q1
          obtain ⟨T, hTT⟩ : ∃ T : Rest, T = none := ⟨_, rfl⟩
          have hT : repS rdSpan N S2 = T := by rw [hfin, hTT]
          have hLT : T ≠ none → L = repL rdSpan N S2 := fun h => absurd hTT h
          rw [← hTT] at hr
          have HTT := Lib.hid hTT
          clear hst hfin hL hTT
          have hd := HD2.out
          rw [hT] at hd
          have hch := rchgs_rd 24 (by omega) T p p wr hr
          have hper : T = none → (rdList rdChg 24 T).2 = none := fun h => by rw [h]; exact rdChgs_none
          have hcl := rdList_len rdChg 24 T
          have hce := rdChgs_len 24 T
          generalize rdList rdChg 24 T = q at hch hd hper hcl hce
          obtain ⟨LC, T3⟩ := q
          simp only at hch hd hper hcl hce
          have HCH := Lib.hid hch
          have HDD := Lib.hid hd
          have HPER := Lib.hid hper
          have HLT := Lib.hid hLT
          have HCL := Lib.hid hcl
          have HCE := Lib.hid hce
          have HMt := Lib.hid hM
          have HOt := Lib.hid how
          have HVt := Lib.hid hV
          have HBt := Lib.hid hB
          have hwrp : p < wr.heap.size := hr.size
          have hwrG : G < wr.heap.size := hM.size
          clear hd hch hper hLT hcl hce hM how hV hB hr hT
          go_wp2_with fail
          refine HCH.out.mono ?_
          rintro e a9 ⟨AL, cL, L2, rfl, how2, hr9, ho9, hLn, hLe⟩
          have hbo : Below p wr a9 := ho9.low (Nat.le_refl _) (by omega)
          have hMa := HMt.out.grown (row := some p) ho9 (fun e => by injection e with e; omega)
          have hVa := HVt.out.below hbo hwp
          have hBa := HBt.out.trans (hbo.mono (by omega))
          have hOa := HOt.out.only ho9 hpg
          have qq0 := hMa.cell 2 _ rfl
          have gg0 := hMa.frozen 2
          have HMA := Lib.hid hMa
          have HVA := Lib.hid hVa
          have HRA := Lib.hid hr9
          obtain ⟨w6, hw6⟩ : ∃ W, W = a9.setCell ⟨G, 2, none⟩ (.slice AL L2.length cL) := ⟨_, rfl⟩
          have HMz := Lib.hid (show Whole w6 G 36 [.int .i64 n1, .slice A i c, .slice AL L2.length cL] from by rw [hw6]; exact hMa.put 2 (.slice AL L2.length cL))
          have HVz := Lib.hid (show Whole w6 w.heap.size 36 [.int .i64 0, .slice none 0 0, .slice none 0 0] from by rw [hw6]; exact hVa.away (p := ⟨G, 2, none⟩) hne _)
          have HBz := Lib.hid (show Below w.heap.size w w6 from by rw [hw6]; exact hBa.setCell (p := ⟨G, 2, none⟩) (by show w.heap.size ≤ G; omega) _)
          have hRz : RR w6 p p T3 := by rw [hw6]; exact hr9.set hpG 2 _
          have HOAz := Lib.hid (show Own cellsS 2 83 w6 g (.slice A i c) L from by rw [hw6]; exact hOa.put hMa (by decide) 2 _)
          have HOBz := Lib.hid (show Own encC 3 89 w6 wr.heap.size (.slice AL L2.length cL) L2 from by rw [hw6]; exact how2.put hMa (by decide) 2 _)
          have HWW := Lib.hid hw6
          have HRz := Lib.hid hRz
          clear hr9 ho9 hbo hMa hVa hBa hOa hw6 how2 q1 hRz
          obtain ⟨AB, cB, lB, hwB, _, _, _, hSB⟩ := HRA.out
          have b0 := hwB.cell 0 _ rfl
          have b1 := hwB.cell 1 _ rfl
          clear hwB
          cases T3 with
          | none =>
            have HRE := Lib.hid (show R = (zeroT, 2) by rw [HDD.out]; exact if_neg fun h => by cases h.1)
            simp only [Option.isNone_none] at b1
            clear hSB hLe
            have e0 := HVA.out.cell 0 _ rfl
            have e1 := HVA.out.cell 1 _ rfl
            have e2 := HVA.out.cell 2 _ rfl
            have f0 := HVA.out.frozen 0
            have f1 := HVA.out.frozen 1
            have f2 := HVA.out.frozen 2
            go_wp2_with fail
            rw [← HWW.out]
            have hVZ := (((HVz.out.put 0 (.int .i64 0)).put 1 (.slice none 0 0)).put 2 (.slice none 0 0))
            have j0 := hVZ.cell 0 _ rfl
            have j1 := hVZ.cell 1 _ rfl
            have j2 := hVZ.cell 2 _ rfl
            rw [HRE.out]
            refine bodyPost_ret (v := .tuple #[.agg #[.int .i64 0, .slice none 0 0, .slice none 0 0], .int .i64 2]) (by simp [results, Try.results18, go_sem, j0, j1, j2]) rfl ⟨_, _, rfl, Rd.nil _ _, Rd.nil _ _, (((HBz.out.setCell (Nat.le_refl _) _).setCell (Nat.le_refl _) _).setCell (Nat.le_refl _) _)⟩
          | some Rr =>
            simp only [Option.isNone_some] at b1
            obtain rfl := hSB Rr rfl
            have hTn : T ≠ none := fun h => by have := HPER.out h; cases this
            exact absurd HTT.out hTn
        · have hsn : (repS rdSpan i S2).isNone = false := by cases h : repS rdSpan i S2 <;> simp_all
          rw [hsn] at q1
          have hL2 : repL rdSpan (i + 1) S2 = L ++ [(rdSpan (repS rdSpan i S2)).1] := by rw [repL, hL]
          have hS2 : repS rdSpan (i + 1) S2 = (rdSpan (repS rdSpan i S2)).2 := rfl
          generalize repS rdSpan i S2 = T0 at hr hL2 hS2 hsn hst
          have e3 : rdSpan T0 = ((strB (rdT T0).1, strB (rdT (rdT T0).2).1), (rdT (rdT T0).2).2) := rfl
          rw [e3] at hL2 hS2
          simp only at hL2 hS2
          clear e3
          have htx := fun W h => rrtext_any T0 p p W h
          have hty := fun W h => rrtext_any (rdT T0).2 p p W h
          generalize rdT (rdT T0).2 = r2 at hty hL2 hS2
          generalize strB (rdT T0).1 = x at htx hL2
          generalize (rdT T0).2 = T1 at htx hty
          generalize strB r2.1 = y at hty hL2
          generalize r2.2 = T2 at hty hS2
          have HTX := Lib.hid (htx wr hr)
          have HTY := Lib.hid hty
          have HL2 := Lib.hid hL2
          have HS2 := Lib.hid hS2
          have HLL := Lib.hid hLl
          have HL := Lib.hid hL
          have HM0 := Lib.hid hM
          have HO0 := Lib.hid how
          have HR0 := Lib.hid hr
          have HV0 := Lib.hid hV
          have HB0 := Lib.hid hB
          clear htx hty hL2 hS2 hL hM how hr hV hB hsn hst
          go_wp2_with fail
          refine HTX.out.mono ?_
          rintro e b1 ⟨rfl, hr1, ho1⟩
          have hbo : Below p wr b1 := ho1.low (Nat.le_refl _) (by omega)
          obtain ⟨Gs, hGs⟩ : ∃ Gs, Gs = b1.heap.size := ⟨_, rfl⟩
          obtain ⟨b2, hb2⟩ : ∃ W, W = b1.alloc (.cells #[.string x, .string ⟨#[]⟩] 83) := ⟨_, rfl⟩
          have hba : Below b1.heap.size b1 b2 := by rw [hb2]; exact (Below.refl _ _).alloc (Nat.le_refl _) _
          have hMs := HM0.out.grown (row := some p) ho1 (fun e => by injection e with e; omega)
          have HM2 := Lib.hid (hMs.below hba hMs.size)
          have HO2 := Lib.hid ((HO0.out.only ho1 hpg).below hba (Nat.le_refl _))
          have hVs := HV0.out.below hbo hwp
          have HV2' := Lib.hid (hVs.below hba hVs.size)
          have HB2' := Lib.hid ((HB0.out.trans (hbo.mono (by omega))).trans (hba.mono (by have := hVs.size; omega)))
          have HR2' := Lib.hid (hr1.more hba)
          have HSV := Lib.hid (show Whole b2 Gs 83 [.string x, .string ⟨#[]⟩] by rw [hb2, hGs]; exact Whole.fresh _ _ _)
          have hsz1 : g ≤ b1.heap.size := Nat.le_trans hgs ho1.size
          have hpGs : p < Gs := by omega
          have hGGs : G ≠ Gs := by omega
          have hwGs : w.heap.size ≠ Gs := by omega
          have hgGs : g ≤ Gs := by omega
          have hob1 : ∀ k, (Value.slice A i c).ownBlock = some k → k < Gs := fun k hk => by rw [hGs]; exact ((HO0.out.only ho1 hpg).low hk).2
          have HOB1 := Lib.hid hob1
          have HBB := Lib.hid hb2
          have HGS := Lib.hid hGs
          have hszb2 : b2.heap.size = Gs + 1 := by rw [hb2, hGs]; simp
          clear hbo hba hMs hVs hr1 ho1 hb2 hGs hob1 q1
          go_wp2_with fail
          rw [← HBB.out, ← HGS.out]
          refine (HTY.out _ HR2'.out).mono ?_
          rintro e b3 ⟨rfl, hr3, ho3⟩
          have hbo : Below p b2 b3 := ho3.low (Nat.le_refl _) (by omega)
          have hS3 := HSV.out.grown (row := some p) ho3 (fun e => by injection e with e; omega)
          have hM3 := HM2.out.grown (row := some p) ho3 (fun e => by injection e with e; omega)
          have hO3 := HO2.out.only ho3 hpg
          have hV3 := HV2'.out.below hbo hwp
          have hB3 := HB2'.out.trans (hbo.mono (by omega))
          have k1 := hS3.cell 1 _ rfl
          have f1 := hS3.frozen 1
          obtain ⟨b4, hb4⟩ : ∃ W, W = b3.setCell ⟨Gs, 1, none⟩ (.string y) := ⟨_, rfl⟩
          have hS4 : Whole b4 Gs 83 [.string x, .string y] := by rw [hb4]; exact hS3.put 1 (.string y)
          have HM4 := Lib.hid (show Whole b4 G 36 [.int .i64 n1, .slice A i c, .slice none 0 0] from by rw [hb4]; exact hM3.away (p := ⟨Gs, 1, none⟩) hGGs _)
          have HV4 := Lib.hid (show Whole b4 w.heap.size 36 [.int .i64 0, .slice none 0 0, .slice none 0 0] from by rw [hb4]; exact hV3.away (p := ⟨Gs, 1, none⟩) hwGs _)
          have HO4 := Lib.hid (show Own cellsS 2 83 b4 g (.slice A i c) L from by
            rw [hb4]
            refine hO3.kept (row := some Gs) (show Only Gs b3 (b3.setCell ⟨Gs, 1, none⟩ (.string y)) from (Only.refl Gs b3).put 1 _) ?_
            cases hb : (Value.slice A i c).ownBlock with
            | none => exact .inl rfl
            | some k => exact .inr fun e => by injection e with e; have := HOB1.out k hb; omega)
          have HR4 := Lib.hid (show RR b4 p p T2 from by rw [hb4]; exact hr3.set hpGs 1 _)
          have HB4 := Lib.hid (show Below w.heap.size w b4 from by rw [hb4]; exact hB3.setCell (p := ⟨Gs, 1, none⟩) (by show w.heap.size ≤ Gs; omega) _)
          have hs4 : g ≤ b4.heap.size := by rw [hb4]; have := ho3.size; simp only [World.setCell, Array.size_modify]; omega
          have hz4 : b4.heap.size = b3.heap.size := by rw [hb4]; simp [World.setCell]
          have kk : (b4.cell? ⟨Gs, 0, none⟩ = some (.string x) ∧ b4.cell? ⟨Gs, 1, none⟩ = some (.string y)) ∧ b4.cell? ⟨G, 1, none⟩ = some (.slice A i c) := ⟨⟨hS4.cell 0 _ rfl, hS4.cell 1 _ rfl⟩, HM4.out.cell 1 _ rfl⟩
          have HB44 := Lib.hid hb4
          rw [hb4] at kk
          obtain ⟨⟨kk0, kk1⟩, kk2⟩ := kk
          clear hbo hS3 hM3 hO3 hV3 hB3 hr3 ho3 hS4 hb4
          go_wp2_with (at_builtin; (try rw [← HB44.out]); go_must (refine wpList_addG rfl 33 83 32 i0 _ Try.underlying33 HI0.out HZ0.out HZ1.out HZ2.out rfl (by decide) cellsS_len cellsS_one _ _ rfl g (.slice A i c) L rfl ?c0 (b3.heap.size + 1) _ [(x, y)] rfl ?c1 (by simp only [List.length_cons, List.length_nil]; unfold maxLen; omega) (by simp only [List.length_cons, List.length_nil]; omega) ?c2 ?_))
          case c0 => (try rw [← HB44.out]); exact HO4.out.alloc _
          case c1 =>
            have h := Whole.rd (enc := cellsS) (k := 2) cellsS_len (l := [(x, y)]) (Whole.fresh b4 83 (flatG cellsS [(x, y)]))
            rw [hz4] at h
            (try rw [← HB44.out])
            exact h
          case c2 => (try rw [← HB44.out]); rw [World.size_alloc]; omega
          intro A3 c3 b6 ho6 hg6
          (try rw [← HB44.out] at hg6)
          have hal : Below b4.heap.size b4 (b4.alloc (.cells (flatG cellsS [(x, y)]).toArray 83)) := (Below.refl _ _).alloc (Nat.le_refl _) _
          have hOa := HO4.out.below hal (Nat.le_refl _)
          have hMa := HM4.out.below hal HM4.out.size
          have hVa := HV4.out.below hal HV4.out.size
          have hob := fun j hj => (hOa.low (i := j) hj).1
          have hM6 := hMa.grown hg6.out (hOa.apart hMa (by decide))
          have hV6 := hVa.grown hg6.out (hOa.apart hVa (by decide))
          have hR6 := (HR4.out.more hal).kept (B := g) hg6.out hob hpg
          have hB6 := (HB4.out.trans (hal.mono (by omega))).grown hg6.out (by have := hal.size; omega) (fun j hj => by have := hob j hj; omega)
          have hs6 : g ≤ b6.heap.size := by have h1 := hg6.out.size; simp only [World.size_alloc] at h1; omega
          have kq := hM6.cell 1 _ rfl
          have kf := hM6.frozen 1
          obtain ⟨b7, hb7⟩ : ∃ W, W = b6.setCell ⟨G, 1, none⟩ (.slice A3 (i + 1) c3) := ⟨_, rfl⟩
          have HM8 := Lib.hid (show Whole (b6.setCell ⟨G, 1, none⟩ (.slice A3 (i + 1) c3)) G 36 [.int .i64 n1, .slice A3 (i + 1) c3, .slice none 0 0] from hM6.put 1 (.slice A3 (i + 1) c3))
          have hlen : (L ++ [(x, y)]).length = i + 1 := by rw [List.length_append, HLL.out]; rfl
          have ho6' := ho6.out
          have HO8 := Lib.hid (show Own cellsS 2 83 (b6.setCell ⟨G, 1, none⟩ (.slice A3 (i + 1) c3)) g (.slice A3 (i + 1) c3) (L ++ [(x, y)]) from ho6'.put hM6 (by decide) 1 _)
          have HR8 := Lib.hid (show RR (b6.setCell ⟨G, 1, none⟩ (.slice A3 (i + 1) c3)) p p T2 from hR6.set hpG 1 _)
          have HV8 := Lib.hid (show Whole (b6.setCell ⟨G, 1, none⟩ (.slice A3 (i + 1) c3)) w.heap.size 36 [.int .i64 0, .slice none 0 0, .slice none 0 0] from hV6.away (p := ⟨G, 1, none⟩) hne _)
          have HB8 := Lib.hid (show Below w.heap.size w (b6.setCell ⟨G, 1, none⟩ (.slice A3 (i + 1) c3)) from hB6.setCell (p := ⟨G, 1, none⟩) (by show w.heap.size ≤ G; omega) _)
          have hs8 : g ≤ (b6.setCell ⟨G, 1, none⟩ (.slice A3 (i + 1) c3)).heap.size := by simpa [World.setCell] using hs6
          have HS8 := Lib.hid hs8
          clear hal hOa hMa hVa hob hM6 hV6 hR6 hB6 hs6 hb7 ho6 ho6' hg6 hs8 kk0 kk1 kk2 k1 f1
          go_wp2_with fail
          go_roundw
          case rel => exact ⟨i + 1, A3, c3, L ++ [(x, y)], by omega, by go_num, hlen, by rw [HL2.out], HM8.out, HO8.out, by rw [HS2.out]; exact HR8.out, HV8.out, HB8.out, HS8.out⟩
          case measure => simp [intOf]; omega
      · obtain rfl : i = N := by omega
        obtain ⟨T, hT0⟩ : ∃ T, T = repS rdSpan i S2 := ⟨_, rfl⟩
        rw [← hT0] at hr q1
        have hT : repS rdSpan i S2 = T := hT0.symm
        have hLT : T ≠ none → L = repL rdSpan i S2 := fun _ => hL
        clear hL hT0
        generalize T.isNone = bb at q1
        have hd := HD2.out
        rw [hT] at hd
        have hch := rchgs_rd 24 (by omega) T p p wr hr
        have hper : T = none → (rdList rdChg 24 T).2 = none := fun h => by rw [h]; exact rdChgs_none
        have hcl := rdList_len rdChg 24 T
        have hce := rdChgs_len 24 T
        generalize rdList rdChg 24 T = q at hch hd hper hcl hce
        obtain ⟨LC, T3⟩ := q
        simp only at hch hd hper hcl hce
        have HCH := Lib.hid hch
        have HDD := Lib.hid hd
        have HPER := Lib.hid hper
        have HLT := Lib.hid hLT
        have HCL := Lib.hid hcl
        have HCE := Lib.hid hce
        have HMt := Lib.hid hM
        have HOt := Lib.hid how
        have HVt := Lib.hid hV
        have HBt := Lib.hid hB
        have hwrp : p < wr.heap.size := hr.size
        have hwrG : G < wr.heap.size := hM.size
        clear hd hch hper hLT hcl hce hM how hV hB hr hT
        go_wp2_with fail
        refine HCH.out.mono ?_
        rintro e a9 ⟨AL, cL, L2, rfl, how2, hr9, ho9, hLn, hLe⟩
        have hbo : Below p wr a9 := ho9.low (Nat.le_refl _) (by omega)
        have hMa := HMt.out.grown (row := some p) ho9 (fun e => by injection e with e; omega)
        have hVa := HVt.out.below hbo hwp
        have hBa := HBt.out.trans (hbo.mono (by omega))
        have hOa := HOt.out.only ho9 hpg
        have qq0 := hMa.cell 2 _ rfl
        have gg0 := hMa.frozen 2
        have HMA := Lib.hid hMa
        have HVA := Lib.hid hVa
        have HRA := Lib.hid hr9
        obtain ⟨w6, hw6⟩ : ∃ W, W = a9.setCell ⟨G, 2, none⟩ (.slice AL L2.length cL) := ⟨_, rfl⟩
        have HMz := Lib.hid (show Whole w6 G 36 [.int .i64 n1, .slice A i c, .slice AL L2.length cL] from by rw [hw6]; exact hMa.put 2 (.slice AL L2.length cL))
        have HVz := Lib.hid (show Whole w6 w.heap.size 36 [.int .i64 0, .slice none 0 0, .slice none 0 0] from by rw [hw6]; exact hVa.away (p := ⟨G, 2, none⟩) hne _)
        have HBz := Lib.hid (show Below w.heap.size w w6 from by rw [hw6]; exact hBa.setCell (p := ⟨G, 2, none⟩) (by show w.heap.size ≤ G; omega) _)
        have hRz : RR w6 p p T3 := by rw [hw6]; exact hr9.set hpG 2 _
        have HOAz := Lib.hid (show Own cellsS 2 83 w6 g (.slice A i c) L from by rw [hw6]; exact hOa.put hMa (by decide) 2 _)
        have HOBz := Lib.hid (show Own encC 3 89 w6 wr.heap.size (.slice AL L2.length cL) L2 from by rw [hw6]; exact how2.put hMa (by decide) 2 _)
        have HWW := Lib.hid hw6
        have HRz := Lib.hid hRz
        clear hr9 ho9 hbo hMa hVa hBa hOa hw6 how2 q1 hRz
        obtain ⟨AB, cB, lB, hwB, _, _, _, hSB⟩ := HRA.out
        have b0 := hwB.cell 0 _ rfl
        have b1 := hwB.cell 1 _ rfl
        clear hwB
        cases T3 with
        | none =>
          have HRE := Lib.hid (show R = (zeroT, 2) by rw [HDD.out]; exact if_neg fun h => by cases h.1)
          simp only [Option.isNone_none] at b1
          clear hSB hLe
          have e0 := HVA.out.cell 0 _ rfl
          have e1 := HVA.out.cell 1 _ rfl
          have e2 := HVA.out.cell 2 _ rfl
          have f0 := HVA.out.frozen 0
          have f1 := HVA.out.frozen 1
          have f2 := HVA.out.frozen 2
          go_wp2_with fail
          rw [← HWW.out]
          have hVZ := (((HVz.out.put 0 (.int .i64 0)).put 1 (.slice none 0 0)).put 2 (.slice none 0 0))
          have j0 := hVZ.cell 0 _ rfl
          have j1 := hVZ.cell 1 _ rfl
          have j2 := hVZ.cell 2 _ rfl
          rw [HRE.out]
          refine bodyPost_ret (v := .tuple #[.agg #[.int .i64 0, .slice none 0 0, .slice none 0 0], .int .i64 2]) (by simp [results, Try.results18, go_sem, j0, j1, j2]) rfl ⟨_, _, rfl, Rd.nil _ _, Rd.nil _ _, (((HBz.out.setCell (Nat.le_refl _) _).setCell (Nat.le_refl _) _).setCell (Nat.le_refl _) _)⟩
        | some Rr =>
          simp only [Option.isNone_some] at b1
          obtain rfl := hSB Rr rfl
          have hTn : T ≠ none := fun h => by have := HPER.out h; cases this
          have hL1 : L = repL rdSpan i S2 := HLT.out hTn
          have hL2 : L2 = LC := hLe (by simp)
          subst hL2
          have hdd := HDD.out
          rw [← hL1] at hdd
          have hle1 := HLLe.out
          have hll1 := HLLl.out
          rw [← hL1] at hle1 hll1
          have hcl := HCL.out
          have hce := HCE.out
          cases Rr with
          | cons x1 x2 =>
            have HRE := Lib.hid (show R = (zeroT, 2) by rw [hdd]; exact if_neg fun h => by have := h.1; simp at this)
            simp only [List.length_cons] at b0
            have hpos : (0 : Int) < (x2.length : Int) + 1 := by omega
            clear hdd hle1 hll1 hcl hce hL1
            have e0 := HVA.out.cell 0 _ rfl
            have e1 := HVA.out.cell 1 _ rfl
            have e2 := HVA.out.cell 2 _ rfl
            have f0 := HVA.out.frozen 0
            have f1 := HVA.out.frozen 1
            have f2 := HVA.out.frozen 2
            go_wp2_with fail
            rw [← HWW.out]
            have hVZ := (((HVz.out.put 0 (.int .i64 0)).put 1 (.slice none 0 0)).put 2 (.slice none 0 0))
            have j0 := hVZ.cell 0 _ rfl
            have j1 := hVZ.cell 1 _ rfl
            have j2 := hVZ.cell 2 _ rfl
            rw [HRE.out]
            refine bodyPost_ret (v := .tuple #[.agg #[.int .i64 0, .slice none 0 0, .slice none 0 0], .int .i64 2]) (by simp [results, Try.results18, go_sem, j0, j1, j2]) rfl ⟨_, _, rfl, Rd.nil _ _, Rd.nil _ _, (((HBz.out.setCell (Nat.le_refl _) _).setCell (Nat.le_refl _) _).setCell (Nat.le_refl _) _)⟩
          | nil =>
            simp only [List.length_nil] at b0
            have hsd := rsoundT_any ⟨n1, L, L2⟩ ⟨by simp only; omega, fun s hs => by have := hle1 s hs; omega, by simp only; omega, fun c hc => ⟨by have := (hce c hc).1; omega, by have := (hce c hc).2; omega⟩⟩ _ _ w6 (Own.rd cellsS_len HOAz.out) (Own.rd encC_len HOBz.out)
            obtain ⟨D2, hD2⟩ : ∃ D2, D2 = decide (soundT ⟨n1, L, L2⟩) := ⟨_, rfl⟩
            rw [← hD2] at hsd
            simp only [tval] at hsd
            have hyes : D2 = true → R = (⟨n1, L, L2⟩, 0) := fun h2 => by rw [hdd, if_pos ⟨rfl, of_decide_eq_true (hD2 ▸ h2)⟩]
            have hno : ¬ D2 = true → R = (zeroT, 2) := fun h => by rw [hdd, if_neg fun h' => h (by rw [hD2]; exact decide_eq_true h'.2)]
            have HYES := Lib.hid hyes
            have HNO := Lib.hid hno
            have HSC := Lib.hid hsd
            clear hyes hno hsd hdd hle1 hcl hce hD2 hL1
            have k0 := HMA.out.cell 0 _ rfl
            have k1 := HMA.out.cell 1 _ rfl
            go_wp2_with fail
            rw [← HWW.out]
            clear k0 k1 qq0 gg0 b0 b1
            refine HSC.out.mono ?_
            rintro e w7 ⟨rfl, hb7⟩
            have HV7 := Lib.hid (HVz.out.below hb7 HVz.out.size)
            have HB7 := Lib.hid (HBz.out.trans (hb7.mono (by have := HVz.out.size; omega)))
            have HM7 := Lib.hid (HMz.out.below hb7 HMz.out.size)
            have HOA7 := Lib.hid (HOAz.out.below hb7 (Nat.le_refl _))
            have HOB7 := Lib.hid (HOBz.out.below hb7 (Nat.le_refl _))
            clear hb7
            cases D2 with
            | false =>
              have HRE := Lib.hid (HNO.out (by simp))
              have q0 := HV7.out.cell 0 _ rfl
              have g0 := HV7.out.frozen 0
              have q1 := HV7.out.cell 1 _ rfl
              have g1 := HV7.out.frozen 1
              have q2 := HV7.out.cell 2 _ rfl
              have g2 := HV7.out.frozen 2
              go_wp2_with fail
              have hVZ := (((HV7.out.put 0 (.int .i64 0)).put 1 (.slice none 0 0)).put 2 (.slice none 0 0))
              have j0 := hVZ.cell 0 _ rfl
              have j1 := hVZ.cell 1 _ rfl
              have j2 := hVZ.cell 2 _ rfl
              rw [HRE.out]
              refine bodyPost_ret (v := .tuple #[.agg #[.int .i64 0, .slice none 0 0, .slice none 0 0], .int .i64 2]) (by simp [results, Try.results18, go_sem, j0, j1, j2]) rfl ⟨_, _, rfl, Rd.nil _ _, Rd.nil _ _, (((HB7.out.setCell (Nat.le_refl _) _).setCell (Nat.le_refl _) _).setCell (Nat.le_refl _) _)⟩
            | true =>
              have HRE := Lib.hid (HYES.out (by simp))
              have kk0 := HM7.out.cell 0 _ rfl
              have kk1 := HM7.out.cell 1 _ rfl
              have kk2 := HM7.out.cell 2 _ rfl
              have q0 := HV7.out.cell 0 _ rfl
              have g0 := HV7.out.frozen 0
              have q1 := HV7.out.cell 1 _ rfl
              have g1 := HV7.out.frozen 1
              have q2 := HV7.out.cell 2 _ rfl
              have g2 := HV7.out.frozen 2
              go_wp2_with fail
              have hVZ := (((HV7.out.put 0 (.int .i64 n1)).put 1 (.slice A i c)).put 2 (.slice AL L2.length cL))
              have j0 := hVZ.cell 0 _ rfl
              have j1 := hVZ.cell 1 _ rfl
              have j2 := hVZ.cell 2 _ rfl
              rw [HRE.out]
              refine bodyPost_ret (v := .tuple #[.agg #[.int .i64 n1, .slice A i c, .slice AL L2.length cL], .int .i64 0]) (by simp [results, Try.results18, go_sem, j0, j1, j2]) rfl ⟨_, _, rfl, Own.rd cellsS_len (((HOA7.out.put HV7.out (by decide) 0 (.int .i64 n1)).put (HV7.out.put 0 (.int .i64 n1)) (by decide) 1 (.slice A i c)).put ((HV7.out.put 0 (.int .i64 n1)).put 1 (.slice A i c)) (by decide) 2 (.slice AL L2.length cL)), Own.rd encC_len (((HOB7.out.put HV7.out (by decide) 0 (.int .i64 n1)).put (HV7.out.put 0 (.int .i64 n1)) (by decide) 1 (.slice A i c)).put ((HV7.out.put 0 (.int .i64 n1)).put 1 (.slice A i c)) (by decide) 2 (.slice AL L2.length cL)), (((HB7.out.setCell (Nat.le_refl _) _).setCell (Nat.le_refl _) _).setCell (Nat.le_refl _) _)⟩
end Go.Proofs.Ytiijcikdlemndaa

/- The program's Encode, PutTxn, PutBatch, PutState. -/
import Derived.Test.YtiijcikdlemndaaRRd
namespace Go.Proofs.Ytiijcikdlemndaa
open Go.RowKit
attribute [local go_sem] less_eq same_eq le_eq ge_eq gt_eq

theorem FW.fresh (w : World) (base : Nat) (h : base ≤ w.heap.size) : FW (w.alloc (.cells #[.slice none 0 0] 64)) base w.heap.size [] :=
  ⟨none, 0, Whole.fresh w _ _, Own.nil _ _, h, by simp; omega⟩
theorem listB_len {α : Type} {f : α → List UInt8} {c : Nat} {l : List α} (hl : l.length < 9223372036854775808) (h : ∀ x ∈ l, (f x).length ≤ c) : (listB f l).length ≤ 9 + l.length * c := by
  have h1 := enc_len9 hl
  have h2 : ∀ l : List α, (∀ x ∈ l, (f x).length ≤ c) → (l.flatMap f).length ≤ l.length * c := by
    intro l
    induction l with
    | nil => simp
    | cons a r ih =>
      intro h
      have := ih fun x hx => h x (by simp [hx])
      have := h a (by simp)
      rw [List.flatMap_cons, List.length_append, List.length_cons, Nat.add_mul]
      omega
  have := h2 l h
  rw [listB, List.length_append]; omega
theorem okC {c : Chg} (h : checkAns c = 0) : 0 ≤ c.kind ∧ c.kind < 9223372036854775808 ∧ c.key.size ≤ 65536 ∧ c.val.size ≤ 65536 := by
  unfold checkAns at h
  split at h
  · split at h
    · cases h
    · omega
  · split at h
    · split at h
      · cases h
      · omega
    · split at h
      · split at h
        · cases h
        · omega
      · cases h

set_option maxHeartbeats 2000000 in
set_option maxRecDepth 100000 in
theorem pencode_bad (m : Msg) (hs : ¬ soundM m) (hf : fitsM m) (v : Value) (w : World) (hv : RdB w w.heap.size v m.body) (hl : m.body.length < 4611686018427387904) :
    Calls Try.prog 9 #[mval m v] w fun e w' => e = .returned (.tuple #[.slice none 0 0, .int .i64 2]) ∧ Below w.heap.size w w' := by
  have hb1 : Below w.heap.size w (w.alloc (.cells #[.int .i64 m.kind, .int .i64 m.frm, .int .i64 m.to, .int .i64 m.epoch, .int .i64 m.a, .int .i64 m.b, .int .i64 m.c, v] 24)) := (Below.refl _ _).alloc (Nat.le_refl _) _
  have hsnd := soundM_any m v (w.alloc (.cells #[.int .i64 m.kind, .int .i64 m.frm, .int .i64 m.to, .int .i64 m.epoch, .int .i64 m.a, .int .i64 m.b, .int .i64 m.c, v] 24)) w.heap.size (hv.below hb1 (Nat.le_refl _)) hl
  have HV1 := Lib.hid (Whole.fresh w 24 [.int .i64 m.kind, .int .i64 m.frm, .int .i64 m.to, .int .i64 m.epoch, .int .i64 m.a, .int .i64 m.b, .int .i64 m.c, v])
  have HB1 := Lib.hid hb1; clear hb1
  have HV := Lib.hid hv
  obtain ⟨A, cc, hvv, _, _⟩ := hv.at
  subst hvv
  clear hv
  unfold mval at hsnd ⊢
  rw [decide_eq_false hs] at hsnd
  have HSND := Lib.hid hsnd; clear hsnd
  go_enter Try.func9, Try.ntmps9
  go_wp2_with fail
  refine HSND.out.mono ?_
  rintro e w2 ⟨rfl, hb2⟩
  have HB2 := Lib.hid (HB1.out.trans (hb2.mono (by simp))); clear hb2
  go_wp2_with fail
  go_ret2
  exact ⟨rfl, HB2.out⟩

set_option maxHeartbeats 8000000 in
set_option maxRecDepth 100000 in
theorem pencode_ok (m : Msg) (hs : soundM m) (hf : fitsM m) (v : Value) (w : World) (hv : RdB w w.heap.size v m.body) (hl : m.body.length < 4611686018427387904) :
    Calls Try.prog 9 #[mval m v] w fun e w' => ∃ (g : Nat) (l : List UInt8), msgIn m = l ∧ w.heap.size ≤ g ∧ e = .returned (.tuple #[.slice (some ⟨g, 0, none⟩) (sealed l).length (sealed l).length, .int .i64 0]) ∧ RowB w' g (sealed l) ∧ Below w.heap.size w w' := by
  have hb1 : Below w.heap.size w (w.alloc (.cells #[.int .i64 m.kind, .int .i64 m.frm, .int .i64 m.to, .int .i64 m.epoch, .int .i64 m.a, .int .i64 m.b, .int .i64 m.c, v] 24)) := (Below.refl _ _).alloc (Nat.le_refl _) _
  have hsnd := soundM_any m v (w.alloc (.cells #[.int .i64 m.kind, .int .i64 m.frm, .int .i64 m.to, .int .i64 m.epoch, .int .i64 m.a, .int .i64 m.b, .int .i64 m.c, v] 24)) w.heap.size (hv.below hb1 (Nat.le_refl _)) hl
  have HV1 := Lib.hid (Whole.fresh w 24 [.int .i64 m.kind, .int .i64 m.frm, .int .i64 m.to, .int .i64 m.epoch, .int .i64 m.a, .int .i64 m.b, .int .i64 m.c, v])
  have HB1 := Lib.hid hb1; clear hb1
  have HV := Lib.hid hv
  obtain ⟨A, cc, hvv, _, _⟩ := hv.at
  subst hvv
  clear hv
  unfold mval at hsnd ⊢
  rw [decide_eq_true hs] at hsnd
  have HSND := Lib.hid hsnd; clear hsnd
  have hin : msgIn m = ([] ++ encs [m.kind, m.frm, m.to, m.epoch, m.a, m.b, m.c]) ++ txts [strB m.body] := by simp [msgIn, Msg.nums, txts, strB]
  have hs2 := hs
  obtain ⟨⟨s1, _⟩, ⟨s2, _⟩, ⟨s3, _⟩, s4, s5, s6, s7, s8⟩ := hs2
  obtain ⟨f1, f2, f3, f4, f5, f6, f7⟩ := hf
  have hrng : ∀ n ∈ [m.kind, m.frm, m.to, m.epoch, m.a, m.b, m.c], 0 ≤ n ∧ n < 9223372036854775808 := by
    simp only [List.mem_cons, List.not_mem_nil, or_false, forall_eq_or_imp, forall_eq]
    omega
  have hel := encs_len [m.kind, m.frm, m.to, m.epoch, m.a, m.b, m.c] (fun n h => (hrng n h).2)
  simp only [List.length_cons, List.length_nil] at hel
  have hbs : (strB m.body).size ≤ 65536 := by simpa [strB, ByteArray.size] using s8
  have htl := txts_len [strB m.body] (by simpa using hbs)
  simp only [List.length_cons, List.length_nil] at htl
  have hnum := fun (W : World) (v : Value) (base p : Nat) (h1 : FW W base p []) (h2 : RdI W W.heap.size v [m.kind, m.frm, m.to, m.epoch, m.a, m.b, m.c]) => fnums_any [m.kind, m.frm, m.to, m.epoch, m.a, m.b, m.c] hrng (by simp) v base p [] W h1 h2 (by simp)
  generalize hR1 : [] ++ encs [m.kind, m.frm, m.to, m.epoch, m.a, m.b, m.c] = R1 at hin hnum
  have hr1l : R1.length ≤ 63 := by rw [← hR1]; simpa using hel
  have htxt := fun (W : World) (g base p : Nat) (h1 : FW W base p R1) (h2 : Whole W g 9 [.string (strB m.body)]) => ftexts_any [strB m.body] (by simpa using hbs) 1 rfl (by omega) g base p R1 W h1 h2 (by omega)
  have hlen : (R1 ++ txts [strB m.body]).length ≤ 70000 := by rw [List.length_append]; omega
  generalize R1 ++ txts [strB m.body] = L at hin htxt hlen
  clear hR1
  have HNUM := Lib.hid hnum
  have HTXT := Lib.hid htxt
  have HIN := Lib.hid hin
  have HLEN := Lib.hid hlen
  clear hnum htxt hin hel htl hrng hs s1 s2 s3 s4 s5 s6 s7 f1 f2 f3 f4 f5 f6 f7
  go_enter Try.func9, Try.ntmps9
  go_wp2_with fail
  refine HSND.out.mono ?_
  rintro e w0 ⟨rfl, hb2⟩
  have hV0 := HV1.out.below hb2 (by simp)
  have hbw : Below w.heap.size w w0 := HB1.out.trans (hb2.mono (by simp))
  have HV0 := Lib.hid hV0; clear hV0
  have HBW := Lib.hid hbw; clear hbw hb2
  have hlt0 : w.heap.size < w0.heap.size := HV0.out.size
  go_wp2_with fail
  obtain ⟨base, hbase⟩ : ∃ base, base = w0.heap.size := ⟨_, rfl⟩
  have hG0 : w.heap.size < base := by omega
  have HC := Lib.hid (fun W (hW : Below base w0 W) => HV0.out.below hW hG0)
  have HCV := Lib.hid (fun W (hW : Below base w0 W) => run_convB ((HV.out.below (HBW.out) (Nat.le_refl _)).below hW (by omega)))
  generalize strB m.body = sb at HCV HTXT
  clear hbs
  refine wp_region_planT (fun W => Below base w0 W) (.take 1 (.take 2 (.take 3 (.take 4 (.take 5 (.take 6 (.take 7 (.take 8 (.take 9 (.take 10 (.take 11 (.take 12 (.take 13 (.take 14 (.take 17 (.take 18 (.take 19 (.fork3 0 (.fork 15 (.fork 16 (.step 20 (.step 21 (.take 22 .done))) 20 (.step 16 (.step 21 (.take 22 .done)))) 20 (.step 15 (.step 16 (.step 21 (.take 22 .done))))) 15 (.fork 0 (.fork 16 (.step 20 (.step 21 (.take 22 .done))) 20 (.step 16 (.step 21 (.take 22 .done)))) 20 (.step 0 (.step 16 (.step 21 (.take 22 .done))))) 20 (.fork 0 (.step 15 (.step 16 (.step 21 (.take 22 .done)))) 15 (.step 0 (.step 16 (.step 21 (.take 22 .done))))))))))))))))))))))) (by kernel_rfl) (by kernel_rfl) (fun _ _ d _ _ h => by cases d <;> exact h) ((Below.refl _ _).drew) ?_
  have hS1 : Below base w0 w0.drew := (Below.refl _ _).drew
  have hz1 : base ≤ w0.drew.heap.size := by rw [hbase]; exact Nat.le_refl _
  have HBASE := Lib.hid hbase; clear hbase
  generalize w0.drew = w1 at hS1 hz1 ⊢
  have HS1 := Lib.hid hS1; clear hS1
  refine PlanT.takeI (v := ?_) rfl rfl ?_ ?_; rotate_left; (focus (intro W hW; have hC := HC.out W hW; have k0 := hC.cell 0 _ rfl; have k1 := hC.cell 1 _ rfl; have k2 := hC.cell 2 _ rfl; have k3 := hC.cell 3 _ rfl; have k4 := hC.cell 4 _ rfl; have k5 := hC.cell 5 _ rfl; have k6 := hC.cell 6 _ rfl; have k7 := hC.cell 7 _ rfl; have kcv := HCV.out W hW; go_simp; (try with_reducible rfl); done)); (try simp only [Act.put, List.setIfInBounds_toArray, List.set_cons_zero, List.set_cons_succ])
  refine PlanT.takeI (v := ?_) rfl rfl ?_ ?_; rotate_left; (focus (intro W hW; have hC := HC.out W hW; have k0 := hC.cell 0 _ rfl; have k1 := hC.cell 1 _ rfl; have k2 := hC.cell 2 _ rfl; have k3 := hC.cell 3 _ rfl; have k4 := hC.cell 4 _ rfl; have k5 := hC.cell 5 _ rfl; have k6 := hC.cell 6 _ rfl; have k7 := hC.cell 7 _ rfl; have kcv := HCV.out W hW; go_simp; (try with_reducible rfl); done)); (try simp only [Act.put, List.setIfInBounds_toArray, List.set_cons_zero, List.set_cons_succ])
  refine PlanT.takeI (v := ?_) rfl rfl ?_ ?_; rotate_left; (focus (intro W hW; have hC := HC.out W hW; have k0 := hC.cell 0 _ rfl; have k1 := hC.cell 1 _ rfl; have k2 := hC.cell 2 _ rfl; have k3 := hC.cell 3 _ rfl; have k4 := hC.cell 4 _ rfl; have k5 := hC.cell 5 _ rfl; have k6 := hC.cell 6 _ rfl; have k7 := hC.cell 7 _ rfl; have kcv := HCV.out W hW; go_simp; (try with_reducible rfl); done)); (try simp only [Act.put, List.setIfInBounds_toArray, List.set_cons_zero, List.set_cons_succ])
  refine PlanT.takeI (v := ?_) rfl rfl ?_ ?_; rotate_left; (focus (intro W hW; have hC := HC.out W hW; have k0 := hC.cell 0 _ rfl; have k1 := hC.cell 1 _ rfl; have k2 := hC.cell 2 _ rfl; have k3 := hC.cell 3 _ rfl; have k4 := hC.cell 4 _ rfl; have k5 := hC.cell 5 _ rfl; have k6 := hC.cell 6 _ rfl; have k7 := hC.cell 7 _ rfl; have kcv := HCV.out W hW; go_simp; (try with_reducible rfl); done)); (try simp only [Act.put, List.setIfInBounds_toArray, List.set_cons_zero, List.set_cons_succ])
  refine PlanT.takeI (v := ?_) rfl rfl ?_ ?_; rotate_left; (focus (intro W hW; have hC := HC.out W hW; have k0 := hC.cell 0 _ rfl; have k1 := hC.cell 1 _ rfl; have k2 := hC.cell 2 _ rfl; have k3 := hC.cell 3 _ rfl; have k4 := hC.cell 4 _ rfl; have k5 := hC.cell 5 _ rfl; have k6 := hC.cell 6 _ rfl; have k7 := hC.cell 7 _ rfl; have kcv := HCV.out W hW; go_simp; (try with_reducible rfl); done)); (try simp only [Act.put, List.setIfInBounds_toArray, List.set_cons_zero, List.set_cons_succ])
  refine PlanT.takeI (v := ?_) rfl rfl ?_ ?_; rotate_left; (focus (intro W hW; have hC := HC.out W hW; have k0 := hC.cell 0 _ rfl; have k1 := hC.cell 1 _ rfl; have k2 := hC.cell 2 _ rfl; have k3 := hC.cell 3 _ rfl; have k4 := hC.cell 4 _ rfl; have k5 := hC.cell 5 _ rfl; have k6 := hC.cell 6 _ rfl; have k7 := hC.cell 7 _ rfl; have kcv := HCV.out W hW; go_simp; (try with_reducible rfl); done)); (try simp only [Act.put, List.setIfInBounds_toArray, List.set_cons_zero, List.set_cons_succ])
  refine PlanT.takeI (v := ?_) rfl rfl ?_ ?_; rotate_left; (focus (intro W hW; have hC := HC.out W hW; have k0 := hC.cell 0 _ rfl; have k1 := hC.cell 1 _ rfl; have k2 := hC.cell 2 _ rfl; have k3 := hC.cell 3 _ rfl; have k4 := hC.cell 4 _ rfl; have k5 := hC.cell 5 _ rfl; have k6 := hC.cell 6 _ rfl; have k7 := hC.cell 7 _ rfl; have kcv := HCV.out W hW; go_simp; (try with_reducible rfl); done)); (try simp only [Act.put, List.setIfInBounds_toArray, List.set_cons_zero, List.set_cons_succ])
  refine PlanT.takeI (v := ?_) rfl rfl ?_ ?_; rotate_left; (focus (intro W hW; have hC := HC.out W hW; have k0 := hC.cell 0 _ rfl; have k1 := hC.cell 1 _ rfl; have k2 := hC.cell 2 _ rfl; have k3 := hC.cell 3 _ rfl; have k4 := hC.cell 4 _ rfl; have k5 := hC.cell 5 _ rfl; have k6 := hC.cell 6 _ rfl; have k7 := hC.cell 7 _ rfl; have kcv := HCV.out W hW; go_simp; (try with_reducible rfl); done)); (try simp only [Act.put, List.setIfInBounds_toArray, List.set_cons_zero, List.set_cons_succ])
  refine PlanT.takeI (v := ?_) rfl rfl ?_ ?_; rotate_left; (focus (intro W hW; have hC := HC.out W hW; have k0 := hC.cell 0 _ rfl; have k1 := hC.cell 1 _ rfl; have k2 := hC.cell 2 _ rfl; have k3 := hC.cell 3 _ rfl; have k4 := hC.cell 4 _ rfl; have k5 := hC.cell 5 _ rfl; have k6 := hC.cell 6 _ rfl; have k7 := hC.cell 7 _ rfl; have kcv := HCV.out W hW; go_simp; (try with_reducible rfl); done)); (try simp only [Act.put, List.setIfInBounds_toArray, List.set_cons_zero, List.set_cons_succ])
  refine PlanT.takeI (v := ?_) rfl rfl ?_ ?_; rotate_left; (focus (intro W hW; have hC := HC.out W hW; have k0 := hC.cell 0 _ rfl; have k1 := hC.cell 1 _ rfl; have k2 := hC.cell 2 _ rfl; have k3 := hC.cell 3 _ rfl; have k4 := hC.cell 4 _ rfl; have k5 := hC.cell 5 _ rfl; have k6 := hC.cell 6 _ rfl; have k7 := hC.cell 7 _ rfl; have kcv := HCV.out W hW; go_simp; (try with_reducible rfl); done)); (try simp only [Act.put, List.setIfInBounds_toArray, List.set_cons_zero, List.set_cons_succ])
  refine PlanT.takeI (v := ?_) rfl rfl ?_ ?_; rotate_left; (focus (intro W hW; have hC := HC.out W hW; have k0 := hC.cell 0 _ rfl; have k1 := hC.cell 1 _ rfl; have k2 := hC.cell 2 _ rfl; have k3 := hC.cell 3 _ rfl; have k4 := hC.cell 4 _ rfl; have k5 := hC.cell 5 _ rfl; have k6 := hC.cell 6 _ rfl; have k7 := hC.cell 7 _ rfl; have kcv := HCV.out W hW; go_simp; (try with_reducible rfl); done)); (try simp only [Act.put, List.setIfInBounds_toArray, List.set_cons_zero, List.set_cons_succ])
  refine PlanT.takeI (v := ?_) rfl rfl ?_ ?_; rotate_left; (focus (intro W hW; have hC := HC.out W hW; have k0 := hC.cell 0 _ rfl; have k1 := hC.cell 1 _ rfl; have k2 := hC.cell 2 _ rfl; have k3 := hC.cell 3 _ rfl; have k4 := hC.cell 4 _ rfl; have k5 := hC.cell 5 _ rfl; have k6 := hC.cell 6 _ rfl; have k7 := hC.cell 7 _ rfl; have kcv := HCV.out W hW; go_simp; (try with_reducible rfl); done)); (try simp only [Act.put, List.setIfInBounds_toArray, List.set_cons_zero, List.set_cons_succ])
  refine PlanT.takeI (v := ?_) rfl rfl ?_ ?_; rotate_left; (focus (intro W hW; have hC := HC.out W hW; have k0 := hC.cell 0 _ rfl; have k1 := hC.cell 1 _ rfl; have k2 := hC.cell 2 _ rfl; have k3 := hC.cell 3 _ rfl; have k4 := hC.cell 4 _ rfl; have k5 := hC.cell 5 _ rfl; have k6 := hC.cell 6 _ rfl; have k7 := hC.cell 7 _ rfl; have kcv := HCV.out W hW; go_simp; (try with_reducible rfl); done)); (try simp only [Act.put, List.setIfInBounds_toArray, List.set_cons_zero, List.set_cons_succ])
  refine PlanT.takeI (v := ?_) rfl rfl ?_ ?_; rotate_left; (focus (intro W hW; have hC := HC.out W hW; have k0 := hC.cell 0 _ rfl; have k1 := hC.cell 1 _ rfl; have k2 := hC.cell 2 _ rfl; have k3 := hC.cell 3 _ rfl; have k4 := hC.cell 4 _ rfl; have k5 := hC.cell 5 _ rfl; have k6 := hC.cell 6 _ rfl; have k7 := hC.cell 7 _ rfl; have kcv := HCV.out W hW; go_simp; (try with_reducible rfl); done)); (try simp only [Act.put, List.setIfInBounds_toArray, List.set_cons_zero, List.set_cons_succ])
  refine PlanT.takeI (v := ?_) rfl rfl ?_ ?_; rotate_left; (focus (intro W hW; have hC := HC.out W hW; have k0 := hC.cell 0 _ rfl; have k1 := hC.cell 1 _ rfl; have k2 := hC.cell 2 _ rfl; have k3 := hC.cell 3 _ rfl; have k4 := hC.cell 4 _ rfl; have k5 := hC.cell 5 _ rfl; have k6 := hC.cell 6 _ rfl; have k7 := hC.cell 7 _ rfl; have kcv := HCV.out W hW; go_simp; (try with_reducible rfl); done)); (try simp only [Act.put, List.setIfInBounds_toArray, List.set_cons_zero, List.set_cons_succ])
  refine PlanT.takeI (v := ?_) rfl rfl ?_ ?_; rotate_left; (focus (intro W hW; have hC := HC.out W hW; have k0 := hC.cell 0 _ rfl; have k1 := hC.cell 1 _ rfl; have k2 := hC.cell 2 _ rfl; have k3 := hC.cell 3 _ rfl; have k4 := hC.cell 4 _ rfl; have k5 := hC.cell 5 _ rfl; have k6 := hC.cell 6 _ rfl; have k7 := hC.cell 7 _ rfl; have kcv := HCV.out W hW; go_simp; (try with_reducible rfl); done)); (try simp only [Act.put, List.setIfInBounds_toArray, List.set_cons_zero, List.set_cons_succ])
  refine PlanT.takeI (v := ?_) rfl rfl ?_ ?_; rotate_left; (focus (intro W hW; have hC := HC.out W hW; have k0 := hC.cell 0 _ rfl; have k1 := hC.cell 1 _ rfl; have k2 := hC.cell 2 _ rfl; have k3 := hC.cell 3 _ rfl; have k4 := hC.cell 4 _ rfl; have k5 := hC.cell 5 _ rfl; have k6 := hC.cell 6 _ rfl; have k7 := hC.cell 7 _ rfl; have kcv := HCV.out W hW; go_simp; (try with_reducible rfl); done)); (try simp only [Act.put, List.setIfInBounds_toArray, List.set_cons_zero, List.set_cons_succ])
  refine ⟨?_, ?_, ?_⟩
  · refine wpOp_stepT rfl rfl (fun Kk hK => ?_)
    go_simp
    obtain ⟨w10, hw10⟩ : ∃ W, W = w1.alloc (.cells #[.slice none 0 0] 64) := ⟨_, rfl⟩
    have hb10 : Below w1.heap.size w1 w10 := by rw [hw10]; exact (Below.refl _ _).alloc (Nat.le_refl _) _
    have hz10 : base ≤ w10.heap.size := Nat.le_trans hz1 hb10.size
    have hS10 : Below base w0 w10 := HS1.out.trans (hb10.mono hz1)
    have hN10 : FW w10 base w1.heap.size [] := by rw [hw10]; exact FW.fresh _ _ hz1
    rw [← hw10]
    clear hw10 hb10
    obtain ⟨p10, hg10⟩ : ∃ g, g = w1.heap.size := ⟨_, rfl⟩
    rw [← hg10] at hN10 ⊢
    clear hg10
    have HS10 := Lib.hid hS10
    have HF10 := Lib.hid hN10
    refine hK.out _ _ hS10 ?_
    clear hK Kk hS10 hN10
    refine ⟨?_, ?_⟩
    · refine wpOp_stepT rfl rfl (fun Kk hK => ?_)
      go_simp
      obtain ⟨w11, hw11⟩ : ∃ W, W = w10.alloc (.cells #[.int .i64 m.kind, .int .i64 m.frm, .int .i64 m.to, .int .i64 m.epoch, .int .i64 m.a, .int .i64 m.b, .int .i64 m.c] 3) := ⟨_, rfl⟩
      have hb11 : Below w10.heap.size w10 w11 := by rw [hw11]; exact (Below.refl _ _).alloc (Nat.le_refl _) _
      have hz11 : base ≤ w11.heap.size := Nat.le_trans hz10 hb11.size
      have hS11 : Below base w0 w11 := HS10.out.trans (hb11.mono hz10)
      have hN11 : RdI w11 w11.heap.size (.slice (some ⟨w10.heap.size, 0, none⟩) 7 7) [m.kind, m.frm, m.to, m.epoch, m.a, m.b, m.c] := by rw [hw11, World.size_alloc]; exact RdI.lit _ [m.kind, m.frm, m.to, m.epoch, m.a, m.b, m.c]
      have HF11 := Lib.hid (HF10.out.more hb11 (Nat.le_refl _))
      rw [← hw11]
      clear hw11 hb11
      obtain ⟨g11, hg11⟩ : ∃ g, g = w10.heap.size := ⟨_, rfl⟩
      rw [← hg11] at hN11 ⊢
      clear hg11
      have HS11 := Lib.hid hS11
      have HI11_15 := Lib.hid hN11
      refine hK.out _ _ hS11 ?_
      clear hK Kk hS11 hN11
      refine ⟨?_, ?_⟩
      · refine wpOp_stepT rfl rfl (fun Kk hK => ?_)
        go_simp
        go_at_call 31
        refine (HNUM.out _ _ _ _ HF11.out HI11_15.out).mono ?_
        rintro e w12 ⟨rfl, hf12, hb12, hk12⟩
        have hz12 : base ≤ w12.heap.size := hf12.size
        have hS12 : Below base w0 w12 := HS11.out.trans hb12
        have HF12 := Lib.hid hf12
        have HS12 := Lib.hid hS12
        refine hK.out _ _ hS12 ?_
        clear hK Kk hS12 hf12 hb12 hk12
        refine wpOp_stepT rfl rfl (fun Kk hK => ?_)
        go_simp
        obtain ⟨w13, hw13⟩ : ∃ W, W = w12.alloc (.cells #[.string sb] 9) := ⟨_, rfl⟩
        have hb13 : Below w12.heap.size w12 w13 := by rw [hw13]; exact (Below.refl _ _).alloc (Nat.le_refl _) _
        have hz13 : base ≤ w13.heap.size := Nat.le_trans hz12 hb13.size
        have hS13 : Below base w0 w13 := HS12.out.trans (hb13.mono hz12)
        have hN13 : Whole w13 w12.heap.size 9 [.string sb] := by rw [hw13]; exact Whole.fresh _ _ _
        have HF13 := Lib.hid (HF12.out.more hb13 (Nat.le_refl _))
        rw [← hw13]
        clear hw13 hb13
        obtain ⟨g13, hg13⟩ : ∃ g, g = w12.heap.size := ⟨_, rfl⟩
        rw [← hg13] at hN13 ⊢
        clear hg13
        have HS13 := Lib.hid hS13
        have HT13 := Lib.hid hN13
        refine hK.out _ _ hS13 ?_
        clear hK Kk hS13 hN13
        refine wpOp_stepT rfl rfl (fun Kk hK => ?_)
        go_simp
        go_at_call 32
        refine (HTXT.out _ _ _ _ HF13.out HT13.out).mono ?_
        rintro e w14 ⟨rfl, hf14, hb14, hk14⟩
        have hz14 : base ≤ w14.heap.size := hf14.size
        have hS14 : Below base w0 w14 := HS13.out.trans hb14
        have HF14 := Lib.hid hf14
        have HS14 := Lib.hid hS14
        refine hK.out _ _ hS14 ?_
        clear hK Kk hS14 hf14 hb14 hk14
        refine PlanT.takeI (v := ?_) rfl rfl ?_ ?_; rotate_left; (focus (intro W hW;  go_simp; (try with_reducible rfl); done)); (try simp only [Act.put, List.setIfInBounds_toArray, List.set_cons_zero, List.set_cons_succ])
        simp only [PlanT]
        obtain ⟨A14, c14, hwh14, how14, hpp14, _⟩ := HF14.out
        have q14 := hwh14.cell 0 _ rfl
        have HOW14 := Lib.hid how14
        have hse := seal_any L _ w14 how14.rdB (by have := HLEN.out; omega)
        have HSE := Lib.hid hse
        have HBF := Lib.hid (show Below w.heap.size w w14 from HBW.out.trans (HS14.out.mono (by omega)))
        have hzf : w.heap.size ≤ w14.heap.size := by omega
        clear hse how14 hwh14 hpp14
        go_wp2_with fail
        refine HSE.out.mono ?_
        rintro e wz ⟨rfl, hrow, hbz⟩
        have HROW := Lib.hid hrow
        have HBZ := Lib.hid hbz
        clear hrow hbz
        go_wp2_with fail
        go_ret2
        exact ⟨_, _, HIN.out, hzf, rfl, HROW.out, HBF.out.trans (HBZ.out.mono hzf)⟩
      · refine wpOp_stepT rfl rfl (fun Kk hK => ?_)
        go_simp
        obtain ⟨w15, hw15⟩ : ∃ W, W = w11.alloc (.cells #[.string sb] 9) := ⟨_, rfl⟩
        have hb15 : Below w11.heap.size w11 w15 := by rw [hw15]; exact (Below.refl _ _).alloc (Nat.le_refl _) _
        have hz15 : base ≤ w15.heap.size := Nat.le_trans hz11 hb15.size
        have hS15 : Below base w0 w15 := HS11.out.trans (hb15.mono hz11)
        have hN15 : Whole w15 w11.heap.size 9 [.string sb] := by rw [hw15]; exact Whole.fresh _ _ _
        have HF15 := Lib.hid (HF11.out.more hb15 (Nat.le_refl _))
        have HI15_15 := Lib.hid (show RdI w15 w15.heap.size (.slice (some ⟨g11, 0, none⟩) 7 7) [m.kind, m.frm, m.to, m.epoch, m.a, m.b, m.c] from HI11_15.out.next hb15)
        rw [← hw15]
        clear hw15 hb15
        obtain ⟨g15, hg15⟩ : ∃ g, g = w11.heap.size := ⟨_, rfl⟩
        rw [← hg15] at hN15 ⊢
        clear hg15
        have HS15 := Lib.hid hS15
        have HT15 := Lib.hid hN15
        refine hK.out _ _ hS15 ?_
        clear hK Kk hS15 hN15
        refine wpOp_stepT rfl rfl (fun Kk hK => ?_)
        go_simp
        go_at_call 31
        refine (HNUM.out _ _ _ _ HF15.out HI15_15.out).mono ?_
        rintro e w16 ⟨rfl, hf16, hb16, hk16⟩
        have hz16 : base ≤ w16.heap.size := hf16.size
        have hS16 : Below base w0 w16 := HS15.out.trans hb16
        have HF16 := Lib.hid hf16
        have HS16 := Lib.hid hS16
        have HT16 := Lib.hid (hk16.2 _ _ _ HT15.out (by decide) (by decide))
        refine hK.out _ _ hS16 ?_
        clear hK Kk hS16 hf16 hb16 hk16
        refine wpOp_stepT rfl rfl (fun Kk hK => ?_)
        go_simp
        go_at_call 32
        refine (HTXT.out _ _ _ _ HF16.out HT16.out).mono ?_
        rintro e w17 ⟨rfl, hf17, hb17, hk17⟩
        have hz17 : base ≤ w17.heap.size := hf17.size
        have hS17 : Below base w0 w17 := HS16.out.trans hb17
        have HF17 := Lib.hid hf17
        have HS17 := Lib.hid hS17
        refine hK.out _ _ hS17 ?_
        clear hK Kk hS17 hf17 hb17 hk17
        refine PlanT.takeI (v := ?_) rfl rfl ?_ ?_; rotate_left; (focus (intro W hW;  go_simp; (try with_reducible rfl); done)); (try simp only [Act.put, List.setIfInBounds_toArray, List.set_cons_zero, List.set_cons_succ])
        simp only [PlanT]
        obtain ⟨A17, c17, hwh17, how17, hpp17, _⟩ := HF17.out
        have q17 := hwh17.cell 0 _ rfl
        have HOW17 := Lib.hid how17
        have hse := seal_any L _ w17 how17.rdB (by have := HLEN.out; omega)
        have HSE := Lib.hid hse
        have HBF := Lib.hid (show Below w.heap.size w w17 from HBW.out.trans (HS17.out.mono (by omega)))
        have hzf : w.heap.size ≤ w17.heap.size := by omega
        clear hse how17 hwh17 hpp17
        go_wp2_with fail
        refine HSE.out.mono ?_
        rintro e wz ⟨rfl, hrow, hbz⟩
        have HROW := Lib.hid hrow
        have HBZ := Lib.hid hbz
        clear hrow hbz
        go_wp2_with fail
        go_ret2
        exact ⟨_, _, HIN.out, hzf, rfl, HROW.out, HBF.out.trans (HBZ.out.mono hzf)⟩
    · refine wpOp_stepT rfl rfl (fun Kk hK => ?_)
      go_simp
      obtain ⟨w18, hw18⟩ : ∃ W, W = w10.alloc (.cells #[.string sb] 9) := ⟨_, rfl⟩
      have hb18 : Below w10.heap.size w10 w18 := by rw [hw18]; exact (Below.refl _ _).alloc (Nat.le_refl _) _
      have hz18 : base ≤ w18.heap.size := Nat.le_trans hz10 hb18.size
      have hS18 : Below base w0 w18 := HS10.out.trans (hb18.mono hz10)
      have hN18 : Whole w18 w10.heap.size 9 [.string sb] := by rw [hw18]; exact Whole.fresh _ _ _
      have HF18 := Lib.hid (HF10.out.more hb18 (Nat.le_refl _))
      rw [← hw18]
      clear hw18 hb18
      obtain ⟨g18, hg18⟩ : ∃ g, g = w10.heap.size := ⟨_, rfl⟩
      rw [← hg18] at hN18 ⊢
      clear hg18
      have HS18 := Lib.hid hS18
      have HT18 := Lib.hid hN18
      refine hK.out _ _ hS18 ?_
      clear hK Kk hS18 hN18
      refine wpOp_stepT rfl rfl (fun Kk hK => ?_)
      go_simp
      obtain ⟨w19, hw19⟩ : ∃ W, W = w18.alloc (.cells #[.int .i64 m.kind, .int .i64 m.frm, .int .i64 m.to, .int .i64 m.epoch, .int .i64 m.a, .int .i64 m.b, .int .i64 m.c] 3) := ⟨_, rfl⟩
      have hb19 : Below w18.heap.size w18 w19 := by rw [hw19]; exact (Below.refl _ _).alloc (Nat.le_refl _) _
      have hz19 : base ≤ w19.heap.size := Nat.le_trans hz18 hb19.size
      have hS19 : Below base w0 w19 := HS18.out.trans (hb19.mono hz18)
      have hN19 : RdI w19 w19.heap.size (.slice (some ⟨w18.heap.size, 0, none⟩) 7 7) [m.kind, m.frm, m.to, m.epoch, m.a, m.b, m.c] := by rw [hw19, World.size_alloc]; exact RdI.lit _ [m.kind, m.frm, m.to, m.epoch, m.a, m.b, m.c]
      have HF19 := Lib.hid (HF18.out.more hb19 (Nat.le_refl _))
      have HT19 := Lib.hid (HT18.out.below hb19 HT18.out.size)
      rw [← hw19]
      clear hw19 hb19
      obtain ⟨g19, hg19⟩ : ∃ g, g = w18.heap.size := ⟨_, rfl⟩
      rw [← hg19] at hN19 ⊢
      clear hg19
      have HS19 := Lib.hid hS19
      have HI19_15 := Lib.hid hN19
      refine hK.out _ _ hS19 ?_
      clear hK Kk hS19 hN19
      refine wpOp_stepT rfl rfl (fun Kk hK => ?_)
      go_simp
      go_at_call 31
      refine (HNUM.out _ _ _ _ HF19.out HI19_15.out).mono ?_
      rintro e w20 ⟨rfl, hf20, hb20, hk20⟩
      have hz20 : base ≤ w20.heap.size := hf20.size
      have hS20 : Below base w0 w20 := HS19.out.trans hb20
      have HF20 := Lib.hid hf20
      have HS20 := Lib.hid hS20
      have HT20 := Lib.hid (hk20.2 _ _ _ HT19.out (by decide) (by decide))
      refine hK.out _ _ hS20 ?_
      clear hK Kk hS20 hf20 hb20 hk20
      refine wpOp_stepT rfl rfl (fun Kk hK => ?_)
      go_simp
      go_at_call 32
      refine (HTXT.out _ _ _ _ HF20.out HT20.out).mono ?_
      rintro e w21 ⟨rfl, hf21, hb21, hk21⟩
      have hz21 : base ≤ w21.heap.size := hf21.size
      have hS21 : Below base w0 w21 := HS20.out.trans hb21
      have HF21 := Lib.hid hf21
      have HS21 := Lib.hid hS21
      refine hK.out _ _ hS21 ?_
      clear hK Kk hS21 hf21 hb21 hk21
      refine PlanT.takeI (v := ?_) rfl rfl ?_ ?_; rotate_left; (focus (intro W hW;  go_simp; (try with_reducible rfl); done)); (try simp only [Act.put, List.setIfInBounds_toArray, List.set_cons_zero, List.set_cons_succ])
      simp only [PlanT]
      obtain ⟨A21, c21, hwh21, how21, hpp21, _⟩ := HF21.out
      have q21 := hwh21.cell 0 _ rfl
      have HOW21 := Lib.hid how21
      have hse := seal_any L _ w21 how21.rdB (by have := HLEN.out; omega)
      have HSE := Lib.hid hse
      have HBF := Lib.hid (show Below w.heap.size w w21 from HBW.out.trans (HS21.out.mono (by omega)))
      have hzf : w.heap.size ≤ w21.heap.size := by omega
      clear hse how21 hwh21 hpp21
      go_wp2_with fail
      refine HSE.out.mono ?_
      rintro e wz ⟨rfl, hrow, hbz⟩
      have HROW := Lib.hid hrow
      have HBZ := Lib.hid hbz
      clear hrow hbz
      go_wp2_with fail
      go_ret2
      exact ⟨_, _, HIN.out, hzf, rfl, HROW.out, HBF.out.trans (HBZ.out.mono hzf)⟩
  · refine wpOp_stepT rfl rfl (fun Kk hK => ?_)
    go_simp
    obtain ⟨w22, hw22⟩ : ∃ W, W = w1.alloc (.cells #[.int .i64 m.kind, .int .i64 m.frm, .int .i64 m.to, .int .i64 m.epoch, .int .i64 m.a, .int .i64 m.b, .int .i64 m.c] 3) := ⟨_, rfl⟩
    have hb22 : Below w1.heap.size w1 w22 := by rw [hw22]; exact (Below.refl _ _).alloc (Nat.le_refl _) _
    have hz22 : base ≤ w22.heap.size := Nat.le_trans hz1 hb22.size
    have hS22 : Below base w0 w22 := HS1.out.trans (hb22.mono hz1)
    have hN22 : RdI w22 w22.heap.size (.slice (some ⟨w1.heap.size, 0, none⟩) 7 7) [m.kind, m.frm, m.to, m.epoch, m.a, m.b, m.c] := by rw [hw22, World.size_alloc]; exact RdI.lit _ [m.kind, m.frm, m.to, m.epoch, m.a, m.b, m.c]
    rw [← hw22]
    clear hw22 hb22
    obtain ⟨g22, hg22⟩ : ∃ g, g = w1.heap.size := ⟨_, rfl⟩
    rw [← hg22] at hN22 ⊢
    clear hg22
    have HS22 := Lib.hid hS22
    have HI22_15 := Lib.hid hN22
    refine hK.out _ _ hS22 ?_
    clear hK Kk hS22 hN22
    refine ⟨?_, ?_⟩
    · refine wpOp_stepT rfl rfl (fun Kk hK => ?_)
      go_simp
      obtain ⟨w23, hw23⟩ : ∃ W, W = w22.alloc (.cells #[.slice none 0 0] 64) := ⟨_, rfl⟩
      have hb23 : Below w22.heap.size w22 w23 := by rw [hw23]; exact (Below.refl _ _).alloc (Nat.le_refl _) _
      have hz23 : base ≤ w23.heap.size := Nat.le_trans hz22 hb23.size
      have hS23 : Below base w0 w23 := HS22.out.trans (hb23.mono hz22)
      have hN23 : FW w23 base w22.heap.size [] := by rw [hw23]; exact FW.fresh _ _ hz22
      have HI23_15 := Lib.hid (show RdI w23 w23.heap.size (.slice (some ⟨g22, 0, none⟩) 7 7) [m.kind, m.frm, m.to, m.epoch, m.a, m.b, m.c] from HI22_15.out.next hb23)
      rw [← hw23]
      clear hw23 hb23
      obtain ⟨p23, hg23⟩ : ∃ g, g = w22.heap.size := ⟨_, rfl⟩
      rw [← hg23] at hN23 ⊢
      clear hg23
      have HS23 := Lib.hid hS23
      have HF23 := Lib.hid hN23
      refine hK.out _ _ hS23 ?_
      clear hK Kk hS23 hN23
      refine ⟨?_, ?_⟩
      · refine wpOp_stepT rfl rfl (fun Kk hK => ?_)
        go_simp
        go_at_call 31
        refine (HNUM.out _ _ _ _ HF23.out HI23_15.out).mono ?_
        rintro e w24 ⟨rfl, hf24, hb24, hk24⟩
        have hz24 : base ≤ w24.heap.size := hf24.size
        have hS24 : Below base w0 w24 := HS23.out.trans hb24
        have HF24 := Lib.hid hf24
        have HS24 := Lib.hid hS24
        refine hK.out _ _ hS24 ?_
        clear hK Kk hS24 hf24 hb24 hk24
        refine wpOp_stepT rfl rfl (fun Kk hK => ?_)
        go_simp
        obtain ⟨w25, hw25⟩ : ∃ W, W = w24.alloc (.cells #[.string sb] 9) := ⟨_, rfl⟩
        have hb25 : Below w24.heap.size w24 w25 := by rw [hw25]; exact (Below.refl _ _).alloc (Nat.le_refl _) _
        have hz25 : base ≤ w25.heap.size := Nat.le_trans hz24 hb25.size
        have hS25 : Below base w0 w25 := HS24.out.trans (hb25.mono hz24)
        have hN25 : Whole w25 w24.heap.size 9 [.string sb] := by rw [hw25]; exact Whole.fresh _ _ _
        have HF25 := Lib.hid (HF24.out.more hb25 (Nat.le_refl _))
        rw [← hw25]
        clear hw25 hb25
        obtain ⟨g25, hg25⟩ : ∃ g, g = w24.heap.size := ⟨_, rfl⟩
        rw [← hg25] at hN25 ⊢
        clear hg25
        have HS25 := Lib.hid hS25
        have HT25 := Lib.hid hN25
        refine hK.out _ _ hS25 ?_
        clear hK Kk hS25 hN25
        refine wpOp_stepT rfl rfl (fun Kk hK => ?_)
        go_simp
        go_at_call 32
        refine (HTXT.out _ _ _ _ HF25.out HT25.out).mono ?_
        rintro e w26 ⟨rfl, hf26, hb26, hk26⟩
        have hz26 : base ≤ w26.heap.size := hf26.size
        have hS26 : Below base w0 w26 := HS25.out.trans hb26
        have HF26 := Lib.hid hf26
        have HS26 := Lib.hid hS26
        refine hK.out _ _ hS26 ?_
        clear hK Kk hS26 hf26 hb26 hk26
        refine PlanT.takeI (v := ?_) rfl rfl ?_ ?_; rotate_left; (focus (intro W hW;  go_simp; (try with_reducible rfl); done)); (try simp only [Act.put, List.setIfInBounds_toArray, List.set_cons_zero, List.set_cons_succ])
        simp only [PlanT]
        obtain ⟨A26, c26, hwh26, how26, hpp26, _⟩ := HF26.out
        have q26 := hwh26.cell 0 _ rfl
        have HOW26 := Lib.hid how26
        have hse := seal_any L _ w26 how26.rdB (by have := HLEN.out; omega)
        have HSE := Lib.hid hse
        have HBF := Lib.hid (show Below w.heap.size w w26 from HBW.out.trans (HS26.out.mono (by omega)))
        have hzf : w.heap.size ≤ w26.heap.size := by omega
        clear hse how26 hwh26 hpp26
        go_wp2_with fail
        refine HSE.out.mono ?_
        rintro e wz ⟨rfl, hrow, hbz⟩
        have HROW := Lib.hid hrow
        have HBZ := Lib.hid hbz
        clear hrow hbz
        go_wp2_with fail
        go_ret2
        exact ⟨_, _, HIN.out, hzf, rfl, HROW.out, HBF.out.trans (HBZ.out.mono hzf)⟩
      · refine wpOp_stepT rfl rfl (fun Kk hK => ?_)
        go_simp
        obtain ⟨w27, hw27⟩ : ∃ W, W = w23.alloc (.cells #[.string sb] 9) := ⟨_, rfl⟩
        have hb27 : Below w23.heap.size w23 w27 := by rw [hw27]; exact (Below.refl _ _).alloc (Nat.le_refl _) _
        have hz27 : base ≤ w27.heap.size := Nat.le_trans hz23 hb27.size
        have hS27 : Below base w0 w27 := HS23.out.trans (hb27.mono hz23)
        have hN27 : Whole w27 w23.heap.size 9 [.string sb] := by rw [hw27]; exact Whole.fresh _ _ _
        have HI27_15 := Lib.hid (show RdI w27 w27.heap.size (.slice (some ⟨g22, 0, none⟩) 7 7) [m.kind, m.frm, m.to, m.epoch, m.a, m.b, m.c] from HI23_15.out.next hb27)
        have HF27 := Lib.hid (HF23.out.more hb27 (Nat.le_refl _))
        rw [← hw27]
        clear hw27 hb27
        obtain ⟨g27, hg27⟩ : ∃ g, g = w23.heap.size := ⟨_, rfl⟩
        rw [← hg27] at hN27 ⊢
        clear hg27
        have HS27 := Lib.hid hS27
        have HT27 := Lib.hid hN27
        refine hK.out _ _ hS27 ?_
        clear hK Kk hS27 hN27
        refine wpOp_stepT rfl rfl (fun Kk hK => ?_)
        go_simp
        go_at_call 31
        refine (HNUM.out _ _ _ _ HF27.out HI27_15.out).mono ?_
        rintro e w28 ⟨rfl, hf28, hb28, hk28⟩
        have hz28 : base ≤ w28.heap.size := hf28.size
        have hS28 : Below base w0 w28 := HS27.out.trans hb28
        have HF28 := Lib.hid hf28
        have HS28 := Lib.hid hS28
        have HT28 := Lib.hid (hk28.2 _ _ _ HT27.out (by decide) (by decide))
        refine hK.out _ _ hS28 ?_
        clear hK Kk hS28 hf28 hb28 hk28
        refine wpOp_stepT rfl rfl (fun Kk hK => ?_)
        go_simp
        go_at_call 32
        refine (HTXT.out _ _ _ _ HF28.out HT28.out).mono ?_
        rintro e w29 ⟨rfl, hf29, hb29, hk29⟩
        have hz29 : base ≤ w29.heap.size := hf29.size
        have hS29 : Below base w0 w29 := HS28.out.trans hb29
        have HF29 := Lib.hid hf29
        have HS29 := Lib.hid hS29
        refine hK.out _ _ hS29 ?_
        clear hK Kk hS29 hf29 hb29 hk29
        refine PlanT.takeI (v := ?_) rfl rfl ?_ ?_; rotate_left; (focus (intro W hW;  go_simp; (try with_reducible rfl); done)); (try simp only [Act.put, List.setIfInBounds_toArray, List.set_cons_zero, List.set_cons_succ])
        simp only [PlanT]
        obtain ⟨A29, c29, hwh29, how29, hpp29, _⟩ := HF29.out
        have q29 := hwh29.cell 0 _ rfl
        have HOW29 := Lib.hid how29
        have hse := seal_any L _ w29 how29.rdB (by have := HLEN.out; omega)
        have HSE := Lib.hid hse
        have HBF := Lib.hid (show Below w.heap.size w w29 from HBW.out.trans (HS29.out.mono (by omega)))
        have hzf : w.heap.size ≤ w29.heap.size := by omega
        clear hse how29 hwh29 hpp29
        go_wp2_with fail
        refine HSE.out.mono ?_
        rintro e wz ⟨rfl, hrow, hbz⟩
        have HROW := Lib.hid hrow
        have HBZ := Lib.hid hbz
        clear hrow hbz
        go_wp2_with fail
        go_ret2
        exact ⟨_, _, HIN.out, hzf, rfl, HROW.out, HBF.out.trans (HBZ.out.mono hzf)⟩
    · refine wpOp_stepT rfl rfl (fun Kk hK => ?_)
      go_simp
      obtain ⟨w30, hw30⟩ : ∃ W, W = w22.alloc (.cells #[.string sb] 9) := ⟨_, rfl⟩
      have hb30 : Below w22.heap.size w22 w30 := by rw [hw30]; exact (Below.refl _ _).alloc (Nat.le_refl _) _
      have hz30 : base ≤ w30.heap.size := Nat.le_trans hz22 hb30.size
      have hS30 : Below base w0 w30 := HS22.out.trans (hb30.mono hz22)
      have hN30 : Whole w30 w22.heap.size 9 [.string sb] := by rw [hw30]; exact Whole.fresh _ _ _
      have HI30_15 := Lib.hid (show RdI w30 w30.heap.size (.slice (some ⟨g22, 0, none⟩) 7 7) [m.kind, m.frm, m.to, m.epoch, m.a, m.b, m.c] from HI22_15.out.next hb30)
      rw [← hw30]
      clear hw30 hb30
      obtain ⟨g30, hg30⟩ : ∃ g, g = w22.heap.size := ⟨_, rfl⟩
      rw [← hg30] at hN30 ⊢
      clear hg30
      have HS30 := Lib.hid hS30
      have HT30 := Lib.hid hN30
      refine hK.out _ _ hS30 ?_
      clear hK Kk hS30 hN30
      refine wpOp_stepT rfl rfl (fun Kk hK => ?_)
      go_simp
      obtain ⟨w31, hw31⟩ : ∃ W, W = w30.alloc (.cells #[.slice none 0 0] 64) := ⟨_, rfl⟩
      have hb31 : Below w30.heap.size w30 w31 := by rw [hw31]; exact (Below.refl _ _).alloc (Nat.le_refl _) _
      have hz31 : base ≤ w31.heap.size := Nat.le_trans hz30 hb31.size
      have hS31 : Below base w0 w31 := HS30.out.trans (hb31.mono hz30)
      have hN31 : FW w31 base w30.heap.size [] := by rw [hw31]; exact FW.fresh _ _ hz30
      have HI31_15 := Lib.hid (show RdI w31 w31.heap.size (.slice (some ⟨g22, 0, none⟩) 7 7) [m.kind, m.frm, m.to, m.epoch, m.a, m.b, m.c] from HI30_15.out.next hb31)
      have HT31 := Lib.hid (HT30.out.below hb31 HT30.out.size)
      rw [← hw31]
      clear hw31 hb31
      obtain ⟨p31, hg31⟩ : ∃ g, g = w30.heap.size := ⟨_, rfl⟩
      rw [← hg31] at hN31 ⊢
      clear hg31
      have HS31 := Lib.hid hS31
      have HF31 := Lib.hid hN31
      refine hK.out _ _ hS31 ?_
      clear hK Kk hS31 hN31
      refine wpOp_stepT rfl rfl (fun Kk hK => ?_)
      go_simp
      go_at_call 31
      refine (HNUM.out _ _ _ _ HF31.out HI31_15.out).mono ?_
      rintro e w32 ⟨rfl, hf32, hb32, hk32⟩
      have hz32 : base ≤ w32.heap.size := hf32.size
      have hS32 : Below base w0 w32 := HS31.out.trans hb32
      have HF32 := Lib.hid hf32
      have HS32 := Lib.hid hS32
      have HT32 := Lib.hid (hk32.2 _ _ _ HT31.out (by decide) (by decide))
      refine hK.out _ _ hS32 ?_
      clear hK Kk hS32 hf32 hb32 hk32
      refine wpOp_stepT rfl rfl (fun Kk hK => ?_)
      go_simp
      go_at_call 32
      refine (HTXT.out _ _ _ _ HF32.out HT32.out).mono ?_
      rintro e w33 ⟨rfl, hf33, hb33, hk33⟩
      have hz33 : base ≤ w33.heap.size := hf33.size
      have hS33 : Below base w0 w33 := HS32.out.trans hb33
      have HF33 := Lib.hid hf33
      have HS33 := Lib.hid hS33
      refine hK.out _ _ hS33 ?_
      clear hK Kk hS33 hf33 hb33 hk33
      refine PlanT.takeI (v := ?_) rfl rfl ?_ ?_; rotate_left; (focus (intro W hW;  go_simp; (try with_reducible rfl); done)); (try simp only [Act.put, List.setIfInBounds_toArray, List.set_cons_zero, List.set_cons_succ])
      simp only [PlanT]
      obtain ⟨A33, c33, hwh33, how33, hpp33, _⟩ := HF33.out
      have q33 := hwh33.cell 0 _ rfl
      have HOW33 := Lib.hid how33
      have hse := seal_any L _ w33 how33.rdB (by have := HLEN.out; omega)
      have HSE := Lib.hid hse
      have HBF := Lib.hid (show Below w.heap.size w w33 from HBW.out.trans (HS33.out.mono (by omega)))
      have hzf : w.heap.size ≤ w33.heap.size := by omega
      clear hse how33 hwh33 hpp33
      go_wp2_with fail
      refine HSE.out.mono ?_
      rintro e wz ⟨rfl, hrow, hbz⟩
      have HROW := Lib.hid hrow
      have HBZ := Lib.hid hbz
      clear hrow hbz
      go_wp2_with fail
      go_ret2
      exact ⟨_, _, HIN.out, hzf, rfl, HROW.out, HBF.out.trans (HBZ.out.mono hzf)⟩
  · refine wpOp_stepT rfl rfl (fun Kk hK => ?_)
    go_simp
    obtain ⟨w34, hw34⟩ : ∃ W, W = w1.alloc (.cells #[.string sb] 9) := ⟨_, rfl⟩
    have hb34 : Below w1.heap.size w1 w34 := by rw [hw34]; exact (Below.refl _ _).alloc (Nat.le_refl _) _
    have hz34 : base ≤ w34.heap.size := Nat.le_trans hz1 hb34.size
    have hS34 : Below base w0 w34 := HS1.out.trans (hb34.mono hz1)
    have hN34 : Whole w34 w1.heap.size 9 [.string sb] := by rw [hw34]; exact Whole.fresh _ _ _
    rw [← hw34]
    clear hw34 hb34
    obtain ⟨g34, hg34⟩ : ∃ g, g = w1.heap.size := ⟨_, rfl⟩
    rw [← hg34] at hN34 ⊢
    clear hg34
    have HS34 := Lib.hid hS34
    have HT34 := Lib.hid hN34
    refine hK.out _ _ hS34 ?_
    clear hK Kk hS34 hN34
    refine ⟨?_, ?_⟩
    · refine wpOp_stepT rfl rfl (fun Kk hK => ?_)
      go_simp
      obtain ⟨w35, hw35⟩ : ∃ W, W = w34.alloc (.cells #[.slice none 0 0] 64) := ⟨_, rfl⟩
      have hb35 : Below w34.heap.size w34 w35 := by rw [hw35]; exact (Below.refl _ _).alloc (Nat.le_refl _) _
      have hz35 : base ≤ w35.heap.size := Nat.le_trans hz34 hb35.size
      have hS35 : Below base w0 w35 := HS34.out.trans (hb35.mono hz34)
      have hN35 : FW w35 base w34.heap.size [] := by rw [hw35]; exact FW.fresh _ _ hz34
      have HT35 := Lib.hid (HT34.out.below hb35 HT34.out.size)
      rw [← hw35]
      clear hw35 hb35
      obtain ⟨p35, hg35⟩ : ∃ g, g = w34.heap.size := ⟨_, rfl⟩
      rw [← hg35] at hN35 ⊢
      clear hg35
      have HS35 := Lib.hid hS35
      have HF35 := Lib.hid hN35
      refine hK.out _ _ hS35 ?_
      clear hK Kk hS35 hN35
      refine wpOp_stepT rfl rfl (fun Kk hK => ?_)
      go_simp
      obtain ⟨w36, hw36⟩ : ∃ W, W = w35.alloc (.cells #[.int .i64 m.kind, .int .i64 m.frm, .int .i64 m.to, .int .i64 m.epoch, .int .i64 m.a, .int .i64 m.b, .int .i64 m.c] 3) := ⟨_, rfl⟩
      have hb36 : Below w35.heap.size w35 w36 := by rw [hw36]; exact (Below.refl _ _).alloc (Nat.le_refl _) _
      have hz36 : base ≤ w36.heap.size := Nat.le_trans hz35 hb36.size
      have hS36 : Below base w0 w36 := HS35.out.trans (hb36.mono hz35)
      have hN36 : RdI w36 w36.heap.size (.slice (some ⟨w35.heap.size, 0, none⟩) 7 7) [m.kind, m.frm, m.to, m.epoch, m.a, m.b, m.c] := by rw [hw36, World.size_alloc]; exact RdI.lit _ [m.kind, m.frm, m.to, m.epoch, m.a, m.b, m.c]
      have HT36 := Lib.hid (HT35.out.below hb36 HT35.out.size)
      have HF36 := Lib.hid (HF35.out.more hb36 (Nat.le_refl _))
      rw [← hw36]
      clear hw36 hb36
      obtain ⟨g36, hg36⟩ : ∃ g, g = w35.heap.size := ⟨_, rfl⟩
      rw [← hg36] at hN36 ⊢
      clear hg36
      have HS36 := Lib.hid hS36
      have HI36_15 := Lib.hid hN36
      refine hK.out _ _ hS36 ?_
      clear hK Kk hS36 hN36
      refine wpOp_stepT rfl rfl (fun Kk hK => ?_)
      go_simp
      go_at_call 31
      refine (HNUM.out _ _ _ _ HF36.out HI36_15.out).mono ?_
      rintro e w37 ⟨rfl, hf37, hb37, hk37⟩
      have hz37 : base ≤ w37.heap.size := hf37.size
      have hS37 : Below base w0 w37 := HS36.out.trans hb37
      have HF37 := Lib.hid hf37
      have HS37 := Lib.hid hS37
      have HT37 := Lib.hid (hk37.2 _ _ _ HT36.out (by decide) (by decide))
      refine hK.out _ _ hS37 ?_
      clear hK Kk hS37 hf37 hb37 hk37
      refine wpOp_stepT rfl rfl (fun Kk hK => ?_)
      go_simp
      go_at_call 32
      refine (HTXT.out _ _ _ _ HF37.out HT37.out).mono ?_
      rintro e w38 ⟨rfl, hf38, hb38, hk38⟩
      have hz38 : base ≤ w38.heap.size := hf38.size
      have hS38 : Below base w0 w38 := HS37.out.trans hb38
      have HF38 := Lib.hid hf38
      have HS38 := Lib.hid hS38
      refine hK.out _ _ hS38 ?_
      clear hK Kk hS38 hf38 hb38 hk38
      refine PlanT.takeI (v := ?_) rfl rfl ?_ ?_; rotate_left; (focus (intro W hW;  go_simp; (try with_reducible rfl); done)); (try simp only [Act.put, List.setIfInBounds_toArray, List.set_cons_zero, List.set_cons_succ])
      simp only [PlanT]
      obtain ⟨A38, c38, hwh38, how38, hpp38, _⟩ := HF38.out
      have q38 := hwh38.cell 0 _ rfl
      have HOW38 := Lib.hid how38
      have hse := seal_any L _ w38 how38.rdB (by have := HLEN.out; omega)
      have HSE := Lib.hid hse
      have HBF := Lib.hid (show Below w.heap.size w w38 from HBW.out.trans (HS38.out.mono (by omega)))
      have hzf : w.heap.size ≤ w38.heap.size := by omega
      clear hse how38 hwh38 hpp38
      go_wp2_with fail
      refine HSE.out.mono ?_
      rintro e wz ⟨rfl, hrow, hbz⟩
      have HROW := Lib.hid hrow
      have HBZ := Lib.hid hbz
      clear hrow hbz
      go_wp2_with fail
      go_ret2
      exact ⟨_, _, HIN.out, hzf, rfl, HROW.out, HBF.out.trans (HBZ.out.mono hzf)⟩
    · refine wpOp_stepT rfl rfl (fun Kk hK => ?_)
      go_simp
      obtain ⟨w39, hw39⟩ : ∃ W, W = w34.alloc (.cells #[.int .i64 m.kind, .int .i64 m.frm, .int .i64 m.to, .int .i64 m.epoch, .int .i64 m.a, .int .i64 m.b, .int .i64 m.c] 3) := ⟨_, rfl⟩
      have hb39 : Below w34.heap.size w34 w39 := by rw [hw39]; exact (Below.refl _ _).alloc (Nat.le_refl _) _
      have hz39 : base ≤ w39.heap.size := Nat.le_trans hz34 hb39.size
      have hS39 : Below base w0 w39 := HS34.out.trans (hb39.mono hz34)
      have hN39 : RdI w39 w39.heap.size (.slice (some ⟨w34.heap.size, 0, none⟩) 7 7) [m.kind, m.frm, m.to, m.epoch, m.a, m.b, m.c] := by rw [hw39, World.size_alloc]; exact RdI.lit _ [m.kind, m.frm, m.to, m.epoch, m.a, m.b, m.c]
      have HT39 := Lib.hid (HT34.out.below hb39 HT34.out.size)
      rw [← hw39]
      clear hw39 hb39
      obtain ⟨g39, hg39⟩ : ∃ g, g = w34.heap.size := ⟨_, rfl⟩
      rw [← hg39] at hN39 ⊢
      clear hg39
      have HS39 := Lib.hid hS39
      have HI39_15 := Lib.hid hN39
      refine hK.out _ _ hS39 ?_
      clear hK Kk hS39 hN39
      refine wpOp_stepT rfl rfl (fun Kk hK => ?_)
      go_simp
      obtain ⟨w40, hw40⟩ : ∃ W, W = w39.alloc (.cells #[.slice none 0 0] 64) := ⟨_, rfl⟩
      have hb40 : Below w39.heap.size w39 w40 := by rw [hw40]; exact (Below.refl _ _).alloc (Nat.le_refl _) _
      have hz40 : base ≤ w40.heap.size := Nat.le_trans hz39 hb40.size
      have hS40 : Below base w0 w40 := HS39.out.trans (hb40.mono hz39)
      have hN40 : FW w40 base w39.heap.size [] := by rw [hw40]; exact FW.fresh _ _ hz39
      have HT40 := Lib.hid (HT39.out.below hb40 HT39.out.size)
      have HI40_15 := Lib.hid (show RdI w40 w40.heap.size (.slice (some ⟨g39, 0, none⟩) 7 7) [m.kind, m.frm, m.to, m.epoch, m.a, m.b, m.c] from HI39_15.out.next hb40)
      rw [← hw40]
      clear hw40 hb40
      obtain ⟨p40, hg40⟩ : ∃ g, g = w39.heap.size := ⟨_, rfl⟩
      rw [← hg40] at hN40 ⊢
      clear hg40
      have HS40 := Lib.hid hS40
      have HF40 := Lib.hid hN40
      refine hK.out _ _ hS40 ?_
      clear hK Kk hS40 hN40
      refine wpOp_stepT rfl rfl (fun Kk hK => ?_)
      go_simp
      go_at_call 31
      refine (HNUM.out _ _ _ _ HF40.out HI40_15.out).mono ?_
      rintro e w41 ⟨rfl, hf41, hb41, hk41⟩
      have hz41 : base ≤ w41.heap.size := hf41.size
      have hS41 : Below base w0 w41 := HS40.out.trans hb41
      have HF41 := Lib.hid hf41
      have HS41 := Lib.hid hS41
      have HT41 := Lib.hid (hk41.2 _ _ _ HT40.out (by decide) (by decide))
      refine hK.out _ _ hS41 ?_
      clear hK Kk hS41 hf41 hb41 hk41
      refine wpOp_stepT rfl rfl (fun Kk hK => ?_)
      go_simp
      go_at_call 32
      refine (HTXT.out _ _ _ _ HF41.out HT41.out).mono ?_
      rintro e w42 ⟨rfl, hf42, hb42, hk42⟩
      have hz42 : base ≤ w42.heap.size := hf42.size
      have hS42 : Below base w0 w42 := HS41.out.trans hb42
      have HF42 := Lib.hid hf42
      have HS42 := Lib.hid hS42
      refine hK.out _ _ hS42 ?_
      clear hK Kk hS42 hf42 hb42 hk42
      refine PlanT.takeI (v := ?_) rfl rfl ?_ ?_; rotate_left; (focus (intro W hW;  go_simp; (try with_reducible rfl); done)); (try simp only [Act.put, List.setIfInBounds_toArray, List.set_cons_zero, List.set_cons_succ])
      simp only [PlanT]
      obtain ⟨A42, c42, hwh42, how42, hpp42, _⟩ := HF42.out
      have q42 := hwh42.cell 0 _ rfl
      have HOW42 := Lib.hid how42
      have hse := seal_any L _ w42 how42.rdB (by have := HLEN.out; omega)
      have HSE := Lib.hid hse
      have HBF := Lib.hid (show Below w.heap.size w w42 from HBW.out.trans (HS42.out.mono (by omega)))
      have hzf : w.heap.size ≤ w42.heap.size := by omega
      clear hse how42 hwh42 hpp42
      go_wp2_with fail
      refine HSE.out.mono ?_
      rintro e wz ⟨rfl, hrow, hbz⟩
      have HROW := Lib.hid hrow
      have HBZ := Lib.hid hbz
      clear hrow hbz
      go_wp2_with fail
      go_ret2
      exact ⟨_, _, HIN.out, hzf, rfl, HROW.out, HBF.out.trans (HBZ.out.mono hzf)⟩
end Go.Proofs.Ytiijcikdlemndaa

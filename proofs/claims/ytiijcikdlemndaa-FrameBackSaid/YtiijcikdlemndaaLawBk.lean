/- The walk of the law FrameBack. -/
import Derived.Test.YtiijcikdlemndaaAwk
import Derived.Test.YtiijcikdlemndaaSm
namespace Go.Proofs.Ytiijcikdlemndaa
open Go.RowKit
attribute [local go_sem] less_eq same_eq le_eq ge_eq gt_eq

theorem chgs_le {l : List Chg} (h : allAns l = 0) : ∀ c ∈ l, (chgB c).length ≤ 131099 := fun c hc => chgB_len c (okC (allAns_all h c hc))
theorem txnB_len (t : Txn) (hs : soundT t) (hf : t.read < 9223372036854775808) : (txnB t).length ≤ 1000000000 := by
  obtain ⟨s1, s2, s3, s4, s5⟩ := hs
  have h1 := enc_len9 (n := t.read.toNat) (by omega)
  have h2 := listB_len (f := spanB) (c := 131090) (l := t.reads) (by omega) (fun s h => spanB_len s (by have := s3 s h; unfold okSpan at this; omega))
  have h3 := listB_len (f := chgB) (c := 131099) (l := t.chgs) (by omega) (chgs_le s5)
  rw [txnB, List.length_append, List.length_append]; omega
theorem batB_len (x : Bat) (hs : soundB x) (hf : x.prev < 9223372036854775808 ∧ x.version < 9223372036854775808 ∧ x.known < 9223372036854775808) : (batB x).length ≤ 1000000000 := by
  obtain ⟨_, s4, s5⟩ := hs
  have h1 := encs_len [x.prev, x.version, x.known] (by simp only [List.mem_cons, List.not_mem_nil, or_false, forall_eq_or_imp, forall_eq]; omega)
  have h3 := listB_len (f := chgB) (c := 131099) (l := x.chgs) (by omega) (chgs_le s5)
  simp only [List.length_cons, List.length_nil] at h1
  rw [batB, List.length_append]; omega
theorem staB_len (x : Sta) (hs : soundS x) (hf : x.gen < 9223372036854775808 ∧ x.epoch < 9223372036854775808 ∧ x.recd < 9223372036854775808) : (staB x).length ≤ 1000000000 := by
  obtain ⟨_, s4, s5⟩ := hs
  have h1 := encs_len [x.gen, x.epoch, x.recd, (x.chests.length : Int)] (by simp only [List.mem_cons, List.not_mem_nil, or_false, forall_eq_or_imp, forall_eq]; omega)
  have h3 := encs_len x.chests (fun n h => by have := s5 n h; omega)
  simp only [List.length_cons, List.length_nil] at h1
  rw [staB, List.length_append]; omega

theorem putM_any (m : Msg) (hf : fitsM m) (v : Value) (w : World) (hv : RdB w w.heap.size v m.body) (hl : m.body.length ≤ 140737488351232) :
    Calls Try.prog 9 #[mval m v] w fun e w' => ∃ v' l er, e = .returned (.tuple #[v', .int .i64 er]) ∧ RdB w' w'.heap.size v' l ∧ Below w.heap.size w w' ∧ l.length ≤ 1000000000 ∧ ((er = 0 ∧ decodeAns l = (m, 0)) ∨ er = 2) := by
  by_cases hs : soundM m
  · refine (pencode_ok m hs hf v w hv (by omega)).mono ?_
    rintro e w' ⟨g, l, hle, hg, he, hr, hb⟩
    subst hle
    exact ⟨_, _, 0, he, hr.whole, hb, by rw [sealed_len]; have := msgIn_len m hs hf; omega, .inl ⟨rfl, decode_encode hs hf⟩⟩
  · refine (pencode_bad m hs hf v w hv (by omega)).mono ?_
    rintro e w' ⟨he, hb⟩
    exact ⟨_, [], 2, he, Rd.nil _ _, hb, by simp, .inr rfl⟩

theorem putT_any (t : Txn) (hr0 : t.read < 9223372036854775808) (hft : fitT t) (v1 v2 : Value) (w : World) (hv1 : RdP w w.heap.size v1 t.reads) (hv2 : RdC w w.heap.size v2 t.chgs) :
    Calls Try.prog 15 #[tval t v1 v2] w fun e w' => ∃ v' l er, e = .returned (.tuple #[v', .int .i64 er]) ∧ RdB w' w'.heap.size v' l ∧ Below w.heap.size w w' ∧ l.length ≤ 1000000000 ∧ ((er = 0 ∧ getTxn l = (t, 0)) ∨ er = 2) := by
  by_cases hs : soundT t
  · refine (pputT_ok t hs hr0 hft v1 v2 w hv1 hv2).mono ?_
    rintro e w' ⟨v', he, hr, hb⟩
    exact ⟨v', _, 0, he, hr, hb, txnB_len t hs hr0, .inl ⟨rfl, get_putT hs hr0⟩⟩
  · refine (pputT_bad t hs hr0 hft v1 v2 w hv1 hv2).mono ?_
    rintro e w' ⟨he, hb⟩
    exact ⟨_, [], 2, he, Rd.nil _ _, hb, by simp, .inr rfl⟩

theorem putB_any (x : Bat) (hr0 : x.prev < 9223372036854775808 ∧ x.version < 9223372036854775808 ∧ x.known < 9223372036854775808) (hft : fitB x) (v : Value) (w : World) (hv : RdC w w.heap.size v x.chgs) :
    Calls Try.prog 20 #[bval x v] w fun e w' => ∃ v' l er, e = .returned (.tuple #[v', .int .i64 er]) ∧ RdB w' w'.heap.size v' l ∧ Below w.heap.size w w' ∧ l.length ≤ 1000000000 ∧ ((er = 0 ∧ getBat l = (x, 0)) ∨ er = 2) := by
  by_cases hs : soundB x
  · refine (pputB_ok x hs hr0 hft v w hv).mono ?_
    rintro e w' ⟨v', he, hr, hb⟩
    exact ⟨v', _, 0, he, hr, hb, batB_len x hs hr0, .inl ⟨rfl, get_putB hs hr0⟩⟩
  · refine (pputB_bad x hs hr0 hft v w hv).mono ?_
    rintro e w' ⟨he, hb⟩
    exact ⟨_, [], 2, he, Rd.nil _ _, hb, by simp, .inr rfl⟩

theorem putS_any (x : Sta) (hr0 : x.gen < 9223372036854775808 ∧ x.epoch < 9223372036854775808 ∧ x.recd < 9223372036854775808) (hft : x.chests.length < 4611686018427387904) (v : Value) (w : World) (hv : RdI w w.heap.size v x.chests) :
    Calls Try.prog 25 #[sval x v] w fun e w' => ∃ v' l er, e = .returned (.tuple #[v', .int .i64 er]) ∧ RdB w' w'.heap.size v' l ∧ Below w.heap.size w w' ∧ l.length ≤ 1000000000 ∧ ((er = 0 ∧ getSta l = (x, 0)) ∨ er = 2) := by
  by_cases hs : soundS x
  · refine (pputS_ok x hs hr0 hft v w hv).mono ?_
    rintro e w' ⟨v', he, hr, hb⟩
    exact ⟨v', _, 0, he, hr, hb, staB_len x hs hr0, .inl ⟨rfl, get_putS hs hr0⟩⟩
  · refine (pputS_bad x hs hr0 hft v w hv).mono ?_
    rintro e w' ⟨he, hb⟩
    exact ⟨_, [], 2, he, Rd.nil _ _, hb, by simp, .inr rfl⟩

set_option maxHeartbeats 16000000 in
set_option maxRecDepth 100000 in
theorem frameBack_walk (m : Msg) (t : Txn) (b : Bat) (s : Sta) (hf0 : fitsM m) (hf1 : t.read < 9223372036854775808) (hf2 : b.prev < 9223372036854775808 ∧ b.version < 9223372036854775808 ∧ b.known < 9223372036854775808) (hf3 : s.gen < 9223372036854775808 ∧ s.epoch < 9223372036854775808 ∧ s.recd < 9223372036854775808)
    (x0 x1 y1 x2 x3 : Value) (w : World) (hr0 : RdB w w.heap.size x0 m.body) (hl0 : m.body.length ≤ 140737488351232) (hr1 : RdP w w.heap.size x1 t.reads) (hq1 : RdC w w.heap.size y1 t.chgs) (hl1 : fitT t) (hr2 : RdC w w.heap.size x2 b.chgs) (hl2 : fitB b) (hr3 : RdI w w.heap.size x3 s.chests) (hl3 : s.chests.length ≤ 140737488351232) :
    Calls Try.prog 7 #[mval m x0, tval t x1 y1, bval b x2, sval s x3] w fun e w' => e = .returned (.bool true) ∧ Below w.heap.size w w' := by
  obtain ⟨Xm0, cXm0, e0, _, _⟩ := hr0.at
  obtain ⟨Xt0, cXt0, e1, _, _⟩ := hr1.at
  obtain ⟨Xt1, cXt1, e2, _, _⟩ := hq1.at
  obtain ⟨Xb0, cXb0, e3, _, _⟩ := hr2.at
  obtain ⟨Xs0, cXs0, e4, _, _⟩ := hr3.at
  subst e0 e1 e2 e3 e4
  obtain ⟨w0, hw0⟩ : ∃ w0, w0 = (((w.alloc (.cells #[.int .i64 m.kind, .int .i64 m.frm, .int .i64 m.to, .int .i64 m.epoch, .int .i64 m.a, .int .i64 m.b, .int .i64 m.c, .slice Xm0 m.body.length cXm0] 24)).alloc (.cells #[.int .i64 t.read, .slice Xt0 t.reads.length cXt0, .slice Xt1 t.chgs.length cXt1] 36)).alloc (.cells #[.int .i64 b.prev, .int .i64 b.version, .int .i64 b.known, .slice Xb0 b.chgs.length cXb0] 43)).alloc (.cells #[.int .i64 s.gen, .int .i64 s.epoch, .int .i64 s.recd, .slice Xs0 s.chests.length cXs0] 51) := ⟨_, rfl⟩
  have hb0 : Below w.heap.size w w0 := by rw [hw0]; exact ((((Below.refl _ _).alloc (Nat.le_refl _) _).alloc (by simp) _).alloc (by simp; omega) _).alloc (by simp; omega) _
  have hXm : Whole w0 (w.heap.size) 24 [.int .i64 m.kind, .int .i64 m.frm, .int .i64 m.to, .int .i64 m.epoch, .int .i64 m.a, .int .i64 m.b, .int .i64 m.c, .slice Xm0 m.body.length cXm0] := by
    have h := Whole.fresh w 24 [.int .i64 m.kind, .int .i64 m.frm, .int .i64 m.to, .int .i64 m.epoch, .int .i64 m.a, .int .i64 m.b, .int .i64 m.c, .slice Xm0 m.body.length cXm0]
    (try simp only [World.size_alloc] at h)
    rw [hw0]
    exact (((h.alloc _).alloc _).alloc _)
  have hXt : Whole w0 (w.heap.size + 1) 36 [.int .i64 t.read, .slice Xt0 t.reads.length cXt0, .slice Xt1 t.chgs.length cXt1] := by
    have h := Whole.fresh (w.alloc (.cells #[.int .i64 m.kind, .int .i64 m.frm, .int .i64 m.to, .int .i64 m.epoch, .int .i64 m.a, .int .i64 m.b, .int .i64 m.c, .slice Xm0 m.body.length cXm0] 24)) 36 [.int .i64 t.read, .slice Xt0 t.reads.length cXt0, .slice Xt1 t.chgs.length cXt1]
    (try simp only [World.size_alloc] at h)
    rw [hw0]
    exact ((h.alloc _).alloc _)
  have hXb : Whole w0 (w.heap.size + 2) 43 [.int .i64 b.prev, .int .i64 b.version, .int .i64 b.known, .slice Xb0 b.chgs.length cXb0] := by
    have h := Whole.fresh ((w.alloc (.cells #[.int .i64 m.kind, .int .i64 m.frm, .int .i64 m.to, .int .i64 m.epoch, .int .i64 m.a, .int .i64 m.b, .int .i64 m.c, .slice Xm0 m.body.length cXm0] 24)).alloc (.cells #[.int .i64 t.read, .slice Xt0 t.reads.length cXt0, .slice Xt1 t.chgs.length cXt1] 36)) 43 [.int .i64 b.prev, .int .i64 b.version, .int .i64 b.known, .slice Xb0 b.chgs.length cXb0]
    (try simp only [World.size_alloc] at h)
    rw [hw0]
    exact (h.alloc _)
  have hXs : Whole w0 (w.heap.size + 3) 51 [.int .i64 s.gen, .int .i64 s.epoch, .int .i64 s.recd, .slice Xs0 s.chests.length cXs0] := by
    have h := Whole.fresh (((w.alloc (.cells #[.int .i64 m.kind, .int .i64 m.frm, .int .i64 m.to, .int .i64 m.epoch, .int .i64 m.a, .int .i64 m.b, .int .i64 m.c, .slice Xm0 m.body.length cXm0] 24)).alloc (.cells #[.int .i64 t.read, .slice Xt0 t.reads.length cXt0, .slice Xt1 t.chgs.length cXt1] 36)).alloc (.cells #[.int .i64 b.prev, .int .i64 b.version, .int .i64 b.known, .slice Xb0 b.chgs.length cXb0] 43)) 51 [.int .i64 s.gen, .int .i64 s.epoch, .int .i64 s.recd, .slice Xs0 s.chests.length cXs0]
    (try simp only [World.size_alloc] at h)
    rw [hw0]
    exact h
  have HXm := Lib.hid hXm; clear hXm
  have HXt := Lib.hid hXt; clear hXt
  have HXb := Lib.hid hXb; clear hXb
  have HXs := Lib.hid hXs; clear hXs
  have HRm0 := Lib.hid (hr0.next hb0); clear hr0
  have HRt0 := Lib.hid (hr1.next hb0); clear hr1
  have HRt1 := Lib.hid (hq1.next hb0); clear hq1
  have HRb0 := Lib.hid (hr2.next hb0); clear hr2
  have HRs0 := Lib.hid (hr3.next hb0); clear hr3
  have HW0 := Lib.hid hw0; clear hw0
  have HB := Lib.hid hb0; clear hb0
  have hs3 : s.chests.length < 4611686018427387904 := by omega
  simp only [mval, tval, bval, sval]
  go_enter Try.func7, Try.ntmps7
  have hc := putM_any m hf0 _ _ HRm0.out hl0
  simp only [mval] at hc
  have HC := Lib.hid hc; clear hc
  go_wp2_with fail
  (try rw [← HW0.out])
  refine HC.out.mono ?_
  rintro e zm ⟨u0, l0, er0, rfl, hr, hb, hnl0, d0⟩
  have HXm2 := Lib.hid (HXm.out.below hb HXm.out.size); clear HXm; have HXm := HXm2; clear HXm2
  have HXt2 := Lib.hid (HXt.out.below hb HXt.out.size); clear HXt; have HXt := HXt2; clear HXt2
  have HXb2 := Lib.hid (HXb.out.below hb HXb.out.size); clear HXb; have HXb := HXb2; clear HXb2
  have HXs2 := Lib.hid (HXs.out.below hb HXs.out.size); clear HXs; have HXs := HXs2; clear HXs2
  have HRm02 := Lib.hid (HRm0.out.next hb); clear HRm0; have HRm0 := HRm02; clear HRm02
  have HRt02 := Lib.hid (HRt0.out.next hb); clear HRt0; have HRt0 := HRt02; clear HRt02
  have HRt12 := Lib.hid (HRt1.out.next hb); clear HRt1; have HRt1 := HRt12; clear HRt12
  have HRb02 := Lib.hid (HRb0.out.next hb); clear HRb0; have HRb0 := HRb02; clear HRb02
  have HRs02 := Lib.hid (HRs0.out.next hb); clear HRs0; have HRs0 := HRs02; clear HRs02
  have HB2 := Lib.hid (HB.out.trans (hb.mono HB.out.size)); clear HB; have HB := HB2; clear HB2
  have HUm := Lib.hid hr
  have HDm := Lib.hid d0
  obtain ⟨Au0, cu0, rfl, _, _⟩ := hr.at
  clear hr hb HC d0
  have hc := putT_any t hf1 hl1 _ _ _ HRt0.out HRt1.out
  simp only [tval] at hc
  have HC := Lib.hid hc; clear hc
  have k0 := HXt.out.cell 0 _ rfl
  have k1 := HXt.out.cell 1 _ rfl
  have k2 := HXt.out.cell 2 _ rfl
  go_wp2_with fail
  clear k0 k1 k2
  refine HC.out.mono ?_
  rintro e zt ⟨u1, l1, er1, rfl, hr, hb, hnl1, d1⟩
  have HXm2 := Lib.hid (HXm.out.below hb HXm.out.size); clear HXm; have HXm := HXm2; clear HXm2
  have HXt2 := Lib.hid (HXt.out.below hb HXt.out.size); clear HXt; have HXt := HXt2; clear HXt2
  have HXb2 := Lib.hid (HXb.out.below hb HXb.out.size); clear HXb; have HXb := HXb2; clear HXb2
  have HXs2 := Lib.hid (HXs.out.below hb HXs.out.size); clear HXs; have HXs := HXs2; clear HXs2
  have HRm02 := Lib.hid (HRm0.out.next hb); clear HRm0; have HRm0 := HRm02; clear HRm02
  have HRt02 := Lib.hid (HRt0.out.next hb); clear HRt0; have HRt0 := HRt02; clear HRt02
  have HRt12 := Lib.hid (HRt1.out.next hb); clear HRt1; have HRt1 := HRt12; clear HRt12
  have HRb02 := Lib.hid (HRb0.out.next hb); clear HRb0; have HRb0 := HRb02; clear HRb02
  have HRs02 := Lib.hid (HRs0.out.next hb); clear HRs0; have HRs0 := HRs02; clear HRs02
  have HUm2 := Lib.hid (HUm.out.next hb); clear HUm; have HUm := HUm2; clear HUm2
  have HB2 := Lib.hid (HB.out.trans (hb.mono HB.out.size)); clear HB; have HB := HB2; clear HB2
  have HUt := Lib.hid hr
  have HDt := Lib.hid d1
  obtain ⟨Au1, cu1, rfl, _, _⟩ := hr.at
  clear hr hb HC d1
  have hc := putB_any b hf2 hl2 _ _ HRb0.out
  simp only [bval] at hc
  have HC := Lib.hid hc; clear hc
  have k0 := HXb.out.cell 0 _ rfl
  have k1 := HXb.out.cell 1 _ rfl
  have k2 := HXb.out.cell 2 _ rfl
  have k3 := HXb.out.cell 3 _ rfl
  go_wp2_with fail
  clear k0 k1 k2 k3
  refine HC.out.mono ?_
  rintro e zb ⟨u2, l2, er2, rfl, hr, hb, hnl2, d2⟩
  have HXm2 := Lib.hid (HXm.out.below hb HXm.out.size); clear HXm; have HXm := HXm2; clear HXm2
  have HXt2 := Lib.hid (HXt.out.below hb HXt.out.size); clear HXt; have HXt := HXt2; clear HXt2
  have HXb2 := Lib.hid (HXb.out.below hb HXb.out.size); clear HXb; have HXb := HXb2; clear HXb2
  have HXs2 := Lib.hid (HXs.out.below hb HXs.out.size); clear HXs; have HXs := HXs2; clear HXs2
  have HRm02 := Lib.hid (HRm0.out.next hb); clear HRm0; have HRm0 := HRm02; clear HRm02
  have HRt02 := Lib.hid (HRt0.out.next hb); clear HRt0; have HRt0 := HRt02; clear HRt02
  have HRt12 := Lib.hid (HRt1.out.next hb); clear HRt1; have HRt1 := HRt12; clear HRt12
  have HRb02 := Lib.hid (HRb0.out.next hb); clear HRb0; have HRb0 := HRb02; clear HRb02
  have HRs02 := Lib.hid (HRs0.out.next hb); clear HRs0; have HRs0 := HRs02; clear HRs02
  have HUm2 := Lib.hid (HUm.out.next hb); clear HUm; have HUm := HUm2; clear HUm2
  have HUt2 := Lib.hid (HUt.out.next hb); clear HUt; have HUt := HUt2; clear HUt2
  have HB2 := Lib.hid (HB.out.trans (hb.mono HB.out.size)); clear HB; have HB := HB2; clear HB2
  have HUb := Lib.hid hr
  have HDb := Lib.hid d2
  obtain ⟨Au2, cu2, rfl, _, _⟩ := hr.at
  clear hr hb HC d2
  have hc := putS_any s hf3 hs3 _ _ HRs0.out
  simp only [sval] at hc
  have HC := Lib.hid hc; clear hc
  have k0 := HXs.out.cell 0 _ rfl
  have k1 := HXs.out.cell 1 _ rfl
  have k2 := HXs.out.cell 2 _ rfl
  have k3 := HXs.out.cell 3 _ rfl
  go_wp2_with fail
  clear k0 k1 k2 k3
  refine HC.out.mono ?_
  rintro e zs ⟨u3, l3, er3, rfl, hr, hb, hnl3, d3⟩
  have HXm2 := Lib.hid (HXm.out.below hb HXm.out.size); clear HXm; have HXm := HXm2; clear HXm2
  have HXt2 := Lib.hid (HXt.out.below hb HXt.out.size); clear HXt; have HXt := HXt2; clear HXt2
  have HXb2 := Lib.hid (HXb.out.below hb HXb.out.size); clear HXb; have HXb := HXb2; clear HXb2
  have HXs2 := Lib.hid (HXs.out.below hb HXs.out.size); clear HXs; have HXs := HXs2; clear HXs2
  have HRm02 := Lib.hid (HRm0.out.next hb); clear HRm0; have HRm0 := HRm02; clear HRm02
  have HRt02 := Lib.hid (HRt0.out.next hb); clear HRt0; have HRt0 := HRt02; clear HRt02
  have HRt12 := Lib.hid (HRt1.out.next hb); clear HRt1; have HRt1 := HRt12; clear HRt12
  have HRb02 := Lib.hid (HRb0.out.next hb); clear HRb0; have HRb0 := HRb02; clear HRb02
  have HRs02 := Lib.hid (HRs0.out.next hb); clear HRs0; have HRs0 := HRs02; clear HRs02
  have HUm2 := Lib.hid (HUm.out.next hb); clear HUm; have HUm := HUm2; clear HUm2
  have HUt2 := Lib.hid (HUt.out.next hb); clear HUt; have HUt := HUt2; clear HUt2
  have HUb2 := Lib.hid (HUb.out.next hb); clear HUb; have HUb := HUb2; clear HUb2
  have HB2 := Lib.hid (HB.out.trans (hb.mono HB.out.size)); clear HB; have HB := HB2; clear HB2
  have HUs := Lib.hid hr
  have HDs := Lib.hid d3
  obtain ⟨Au3, cu3, rfl, _, _⟩ := hr.at
  clear hr hb HC d3
  have hc := pdecode_any l0 _ _ HUm.out (by omega)
  have hd := HDm.out
  generalize decodeAns l0 = R at hc hd
  obtain ⟨m', im⟩ := R
  simp only [mval] at hc
  (try simp only at hc)
  (try simp only at hd)
  have HC := Lib.hid hc; clear hc
  clear HDm
  have HDm := Lib.hid hd; clear hd
  go_wp2_with fail
  refine HC.out.mono ?_
  rintro e ym ⟨gm0, rfl, hy0, hb⟩
  have HXm2 := Lib.hid (HXm.out.below hb HXm.out.size); clear HXm; have HXm := HXm2; clear HXm2
  have HXt2 := Lib.hid (HXt.out.below hb HXt.out.size); clear HXt; have HXt := HXt2; clear HXt2
  have HXb2 := Lib.hid (HXb.out.below hb HXb.out.size); clear HXb; have HXb := HXb2; clear HXb2
  have HXs2 := Lib.hid (HXs.out.below hb HXs.out.size); clear HXs; have HXs := HXs2; clear HXs2
  have HRm02 := Lib.hid (HRm0.out.next hb); clear HRm0; have HRm0 := HRm02; clear HRm02
  have HRt02 := Lib.hid (HRt0.out.next hb); clear HRt0; have HRt0 := HRt02; clear HRt02
  have HRt12 := Lib.hid (HRt1.out.next hb); clear HRt1; have HRt1 := HRt12; clear HRt12
  have HRb02 := Lib.hid (HRb0.out.next hb); clear HRb0; have HRb0 := HRb02; clear HRb02
  have HRs02 := Lib.hid (HRs0.out.next hb); clear HRs0; have HRs0 := HRs02; clear HRs02
  have HUm2 := Lib.hid (HUm.out.next hb); clear HUm; have HUm := HUm2; clear HUm2
  have HUt2 := Lib.hid (HUt.out.next hb); clear HUt; have HUt := HUt2; clear HUt2
  have HUb2 := Lib.hid (HUb.out.next hb); clear HUb; have HUb := HUb2; clear HUb2
  have HUs2 := Lib.hid (HUs.out.next hb); clear HUs; have HUs := HUs2; clear HUs2
  have HB2 := Lib.hid (HB.out.trans (hb.mono HB.out.size)); clear HB; have HB := HB2; clear HB2
  obtain ⟨Ym0, cYm0, eY, _, _⟩ := hy0.at
  subst eY
  obtain ⟨qm, hq⟩ : ∃ W, W = ym.alloc (.cells #[.int .i64 m'.kind, .int .i64 m'.frm, .int .i64 m'.to, .int .i64 m'.epoch, .int .i64 m'.a, .int .i64 m'.b, .int .i64 m'.c, .slice Ym0 m'.body.length cYm0] 24) := ⟨_, rfl⟩
  have hba : Below ym.heap.size ym qm := by rw [hq]; exact (Below.refl _ _).alloc (Nat.le_refl _) _
  have HVm := Lib.hid (show Whole qm ym.heap.size 24 [.int .i64 m'.kind, .int .i64 m'.frm, .int .i64 m'.to, .int .i64 m'.epoch, .int .i64 m'.a, .int .i64 m'.b, .int .i64 m'.c, .slice Ym0 m'.body.length cYm0] by rw [hq]; exact Whole.fresh _ _ _)
  have HXm2 := Lib.hid (HXm.out.below hba HXm.out.size); clear HXm; have HXm := HXm2; clear HXm2
  have HXt2 := Lib.hid (HXt.out.below hba HXt.out.size); clear HXt; have HXt := HXt2; clear HXt2
  have HXb2 := Lib.hid (HXb.out.below hba HXb.out.size); clear HXb; have HXb := HXb2; clear HXb2
  have HXs2 := Lib.hid (HXs.out.below hba HXs.out.size); clear HXs; have HXs := HXs2; clear HXs2
  have HRm02 := Lib.hid (HRm0.out.next hba); clear HRm0; have HRm0 := HRm02; clear HRm02
  have HRt02 := Lib.hid (HRt0.out.next hba); clear HRt0; have HRt0 := HRt02; clear HRt02
  have HRt12 := Lib.hid (HRt1.out.next hba); clear HRt1; have HRt1 := HRt12; clear HRt12
  have HRb02 := Lib.hid (HRb0.out.next hba); clear HRb0; have HRb0 := HRb02; clear HRb02
  have HRs02 := Lib.hid (HRs0.out.next hba); clear HRs0; have HRs0 := HRs02; clear HRs02
  have HUm2 := Lib.hid (HUm.out.next hba); clear HUm; have HUm := HUm2; clear HUm2
  have HUt2 := Lib.hid (HUt.out.next hba); clear HUt; have HUt := HUt2; clear HUt2
  have HUb2 := Lib.hid (HUb.out.next hba); clear HUb; have HUb := HUb2; clear HUb2
  have HUs2 := Lib.hid (HUs.out.next hba); clear HUs; have HUs := HUs2; clear HUs2
  have HB2 := Lib.hid (HB.out.trans (hba.mono HB.out.size)); clear HB; have HB := HB2; clear HB2
  have HYm0 := Lib.hid (hy0.next hba)
  have HQ := Lib.hid hq
  clear hq hba hb HC hy0
  go_wp2_with fail
  rw [← HQ.out]
  clear HQ
  obtain ⟨Gm, hG⟩ : ∃ G, G = ym.heap.size := ⟨_, rfl⟩
  rw [← hG] at HVm ⊢
  clear hG
  have hc := pgetT l1 _ _ HUt.out (by omega)
  have hd := HDt.out
  generalize getTxn l1 = R at hc hd
  obtain ⟨t', it⟩ := R
  simp only [tval] at hc
  (try simp only at hc)
  (try simp only at hd)
  have HC := Lib.hid hc; clear hc
  clear HDt
  have HDt := Lib.hid hd; clear hd
  go_wp2_with fail
  refine HC.out.mono ?_
  rintro e yt ⟨gt0, gt1, rfl, hy0, hy1, hb⟩
  have HXm2 := Lib.hid (HXm.out.below hb HXm.out.size); clear HXm; have HXm := HXm2; clear HXm2
  have HXt2 := Lib.hid (HXt.out.below hb HXt.out.size); clear HXt; have HXt := HXt2; clear HXt2
  have HXb2 := Lib.hid (HXb.out.below hb HXb.out.size); clear HXb; have HXb := HXb2; clear HXb2
  have HXs2 := Lib.hid (HXs.out.below hb HXs.out.size); clear HXs; have HXs := HXs2; clear HXs2
  have HVm2 := Lib.hid (HVm.out.below hb HVm.out.size); clear HVm; have HVm := HVm2; clear HVm2
  have HRm02 := Lib.hid (HRm0.out.next hb); clear HRm0; have HRm0 := HRm02; clear HRm02
  have HRt02 := Lib.hid (HRt0.out.next hb); clear HRt0; have HRt0 := HRt02; clear HRt02
  have HRt12 := Lib.hid (HRt1.out.next hb); clear HRt1; have HRt1 := HRt12; clear HRt12
  have HRb02 := Lib.hid (HRb0.out.next hb); clear HRb0; have HRb0 := HRb02; clear HRb02
  have HRs02 := Lib.hid (HRs0.out.next hb); clear HRs0; have HRs0 := HRs02; clear HRs02
  have HUm2 := Lib.hid (HUm.out.next hb); clear HUm; have HUm := HUm2; clear HUm2
  have HUt2 := Lib.hid (HUt.out.next hb); clear HUt; have HUt := HUt2; clear HUt2
  have HUb2 := Lib.hid (HUb.out.next hb); clear HUb; have HUb := HUb2; clear HUb2
  have HUs2 := Lib.hid (HUs.out.next hb); clear HUs; have HUs := HUs2; clear HUs2
  have HYm02 := Lib.hid (HYm0.out.next hb); clear HYm0; have HYm0 := HYm02; clear HYm02
  have HB2 := Lib.hid (HB.out.trans (hb.mono HB.out.size)); clear HB; have HB := HB2; clear HB2
  obtain ⟨Yt0, cYt0, eY, _, _⟩ := hy0.at
  subst eY
  obtain ⟨Yt1, cYt1, eY, _, _⟩ := hy1.at
  subst eY
  obtain ⟨qt, hq⟩ : ∃ W, W = yt.alloc (.cells #[.int .i64 t'.read, .slice Yt0 t'.reads.length cYt0, .slice Yt1 t'.chgs.length cYt1] 36) := ⟨_, rfl⟩
  have hba : Below yt.heap.size yt qt := by rw [hq]; exact (Below.refl _ _).alloc (Nat.le_refl _) _
  have HVt := Lib.hid (show Whole qt yt.heap.size 36 [.int .i64 t'.read, .slice Yt0 t'.reads.length cYt0, .slice Yt1 t'.chgs.length cYt1] by rw [hq]; exact Whole.fresh _ _ _)
  have HXm2 := Lib.hid (HXm.out.below hba HXm.out.size); clear HXm; have HXm := HXm2; clear HXm2
  have HXt2 := Lib.hid (HXt.out.below hba HXt.out.size); clear HXt; have HXt := HXt2; clear HXt2
  have HXb2 := Lib.hid (HXb.out.below hba HXb.out.size); clear HXb; have HXb := HXb2; clear HXb2
  have HXs2 := Lib.hid (HXs.out.below hba HXs.out.size); clear HXs; have HXs := HXs2; clear HXs2
  have HVm2 := Lib.hid (HVm.out.below hba HVm.out.size); clear HVm; have HVm := HVm2; clear HVm2
  have HRm02 := Lib.hid (HRm0.out.next hba); clear HRm0; have HRm0 := HRm02; clear HRm02
  have HRt02 := Lib.hid (HRt0.out.next hba); clear HRt0; have HRt0 := HRt02; clear HRt02
  have HRt12 := Lib.hid (HRt1.out.next hba); clear HRt1; have HRt1 := HRt12; clear HRt12
  have HRb02 := Lib.hid (HRb0.out.next hba); clear HRb0; have HRb0 := HRb02; clear HRb02
  have HRs02 := Lib.hid (HRs0.out.next hba); clear HRs0; have HRs0 := HRs02; clear HRs02
  have HUm2 := Lib.hid (HUm.out.next hba); clear HUm; have HUm := HUm2; clear HUm2
  have HUt2 := Lib.hid (HUt.out.next hba); clear HUt; have HUt := HUt2; clear HUt2
  have HUb2 := Lib.hid (HUb.out.next hba); clear HUb; have HUb := HUb2; clear HUb2
  have HUs2 := Lib.hid (HUs.out.next hba); clear HUs; have HUs := HUs2; clear HUs2
  have HYm02 := Lib.hid (HYm0.out.next hba); clear HYm0; have HYm0 := HYm02; clear HYm02
  have HB2 := Lib.hid (HB.out.trans (hba.mono HB.out.size)); clear HB; have HB := HB2; clear HB2
  have HYt0 := Lib.hid (hy0.next hba)
  have HYt1 := Lib.hid (hy1.next hba)
  have HQ := Lib.hid hq
  clear hq hba hb HC hy0 hy1
  go_wp2_with fail
  rw [← HQ.out]
  clear HQ
  obtain ⟨Gt, hG⟩ : ∃ G, G = yt.heap.size := ⟨_, rfl⟩
  rw [← hG] at HVt ⊢
  clear hG
  have hc := pgetB l2 _ _ HUb.out (by omega)
  have hd := HDb.out
  generalize getBat l2 = R at hc hd
  obtain ⟨b', ib⟩ := R
  simp only [bval] at hc
  (try simp only at hc)
  (try simp only at hd)
  have HC := Lib.hid hc; clear hc
  clear HDb
  have HDb := Lib.hid hd; clear hd
  go_wp2_with fail
  refine HC.out.mono ?_
  rintro e yb ⟨gb0, rfl, hy0, hb⟩
  have HXm2 := Lib.hid (HXm.out.below hb HXm.out.size); clear HXm; have HXm := HXm2; clear HXm2
  have HXt2 := Lib.hid (HXt.out.below hb HXt.out.size); clear HXt; have HXt := HXt2; clear HXt2
  have HXb2 := Lib.hid (HXb.out.below hb HXb.out.size); clear HXb; have HXb := HXb2; clear HXb2
  have HXs2 := Lib.hid (HXs.out.below hb HXs.out.size); clear HXs; have HXs := HXs2; clear HXs2
  have HVm2 := Lib.hid (HVm.out.below hb HVm.out.size); clear HVm; have HVm := HVm2; clear HVm2
  have HVt2 := Lib.hid (HVt.out.below hb HVt.out.size); clear HVt; have HVt := HVt2; clear HVt2
  have HRm02 := Lib.hid (HRm0.out.next hb); clear HRm0; have HRm0 := HRm02; clear HRm02
  have HRt02 := Lib.hid (HRt0.out.next hb); clear HRt0; have HRt0 := HRt02; clear HRt02
  have HRt12 := Lib.hid (HRt1.out.next hb); clear HRt1; have HRt1 := HRt12; clear HRt12
  have HRb02 := Lib.hid (HRb0.out.next hb); clear HRb0; have HRb0 := HRb02; clear HRb02
  have HRs02 := Lib.hid (HRs0.out.next hb); clear HRs0; have HRs0 := HRs02; clear HRs02
  have HUm2 := Lib.hid (HUm.out.next hb); clear HUm; have HUm := HUm2; clear HUm2
  have HUt2 := Lib.hid (HUt.out.next hb); clear HUt; have HUt := HUt2; clear HUt2
  have HUb2 := Lib.hid (HUb.out.next hb); clear HUb; have HUb := HUb2; clear HUb2
  have HUs2 := Lib.hid (HUs.out.next hb); clear HUs; have HUs := HUs2; clear HUs2
  have HYm02 := Lib.hid (HYm0.out.next hb); clear HYm0; have HYm0 := HYm02; clear HYm02
  have HYt02 := Lib.hid (HYt0.out.next hb); clear HYt0; have HYt0 := HYt02; clear HYt02
  have HYt12 := Lib.hid (HYt1.out.next hb); clear HYt1; have HYt1 := HYt12; clear HYt12
  have HB2 := Lib.hid (HB.out.trans (hb.mono HB.out.size)); clear HB; have HB := HB2; clear HB2
  obtain ⟨Yb0, cYb0, eY, _, _⟩ := hy0.at
  subst eY
  obtain ⟨qb, hq⟩ : ∃ W, W = yb.alloc (.cells #[.int .i64 b'.prev, .int .i64 b'.version, .int .i64 b'.known, .slice Yb0 b'.chgs.length cYb0] 43) := ⟨_, rfl⟩
  have hba : Below yb.heap.size yb qb := by rw [hq]; exact (Below.refl _ _).alloc (Nat.le_refl _) _
  have HVb := Lib.hid (show Whole qb yb.heap.size 43 [.int .i64 b'.prev, .int .i64 b'.version, .int .i64 b'.known, .slice Yb0 b'.chgs.length cYb0] by rw [hq]; exact Whole.fresh _ _ _)
  have HXm2 := Lib.hid (HXm.out.below hba HXm.out.size); clear HXm; have HXm := HXm2; clear HXm2
  have HXt2 := Lib.hid (HXt.out.below hba HXt.out.size); clear HXt; have HXt := HXt2; clear HXt2
  have HXb2 := Lib.hid (HXb.out.below hba HXb.out.size); clear HXb; have HXb := HXb2; clear HXb2
  have HXs2 := Lib.hid (HXs.out.below hba HXs.out.size); clear HXs; have HXs := HXs2; clear HXs2
  have HVm2 := Lib.hid (HVm.out.below hba HVm.out.size); clear HVm; have HVm := HVm2; clear HVm2
  have HVt2 := Lib.hid (HVt.out.below hba HVt.out.size); clear HVt; have HVt := HVt2; clear HVt2
  have HRm02 := Lib.hid (HRm0.out.next hba); clear HRm0; have HRm0 := HRm02; clear HRm02
  have HRt02 := Lib.hid (HRt0.out.next hba); clear HRt0; have HRt0 := HRt02; clear HRt02
  have HRt12 := Lib.hid (HRt1.out.next hba); clear HRt1; have HRt1 := HRt12; clear HRt12
  have HRb02 := Lib.hid (HRb0.out.next hba); clear HRb0; have HRb0 := HRb02; clear HRb02
  have HRs02 := Lib.hid (HRs0.out.next hba); clear HRs0; have HRs0 := HRs02; clear HRs02
  have HUm2 := Lib.hid (HUm.out.next hba); clear HUm; have HUm := HUm2; clear HUm2
  have HUt2 := Lib.hid (HUt.out.next hba); clear HUt; have HUt := HUt2; clear HUt2
  have HUb2 := Lib.hid (HUb.out.next hba); clear HUb; have HUb := HUb2; clear HUb2
  have HUs2 := Lib.hid (HUs.out.next hba); clear HUs; have HUs := HUs2; clear HUs2
  have HYm02 := Lib.hid (HYm0.out.next hba); clear HYm0; have HYm0 := HYm02; clear HYm02
  have HYt02 := Lib.hid (HYt0.out.next hba); clear HYt0; have HYt0 := HYt02; clear HYt02
  have HYt12 := Lib.hid (HYt1.out.next hba); clear HYt1; have HYt1 := HYt12; clear HYt12
  have HB2 := Lib.hid (HB.out.trans (hba.mono HB.out.size)); clear HB; have HB := HB2; clear HB2
  have HYb0 := Lib.hid (hy0.next hba)
  have HQ := Lib.hid hq
  clear hq hba hb HC hy0
  go_wp2_with fail
  rw [← HQ.out]
  clear HQ
  obtain ⟨Gb, hG⟩ : ∃ G, G = yb.heap.size := ⟨_, rfl⟩
  rw [← hG] at HVb ⊢
  clear hG
  have hc := pgetS l3 _ _ HUs.out (by omega)
  have hd := HDs.out
  generalize getSta l3 = R at hc hd
  obtain ⟨s', is⟩ := R
  simp only [sval] at hc
  (try simp only at hc)
  (try simp only at hd)
  have HC := Lib.hid hc; clear hc
  clear HDs
  have HDs := Lib.hid hd; clear hd
  go_wp2_with fail
  refine HC.out.mono ?_
  rintro e ys ⟨gs0, rfl, hy0, hb⟩
  have HXm2 := Lib.hid (HXm.out.below hb HXm.out.size); clear HXm; have HXm := HXm2; clear HXm2
  have HXt2 := Lib.hid (HXt.out.below hb HXt.out.size); clear HXt; have HXt := HXt2; clear HXt2
  have HXb2 := Lib.hid (HXb.out.below hb HXb.out.size); clear HXb; have HXb := HXb2; clear HXb2
  have HXs2 := Lib.hid (HXs.out.below hb HXs.out.size); clear HXs; have HXs := HXs2; clear HXs2
  have HVm2 := Lib.hid (HVm.out.below hb HVm.out.size); clear HVm; have HVm := HVm2; clear HVm2
  have HVt2 := Lib.hid (HVt.out.below hb HVt.out.size); clear HVt; have HVt := HVt2; clear HVt2
  have HVb2 := Lib.hid (HVb.out.below hb HVb.out.size); clear HVb; have HVb := HVb2; clear HVb2
  have HRm02 := Lib.hid (HRm0.out.next hb); clear HRm0; have HRm0 := HRm02; clear HRm02
  have HRt02 := Lib.hid (HRt0.out.next hb); clear HRt0; have HRt0 := HRt02; clear HRt02
  have HRt12 := Lib.hid (HRt1.out.next hb); clear HRt1; have HRt1 := HRt12; clear HRt12
  have HRb02 := Lib.hid (HRb0.out.next hb); clear HRb0; have HRb0 := HRb02; clear HRb02
  have HRs02 := Lib.hid (HRs0.out.next hb); clear HRs0; have HRs0 := HRs02; clear HRs02
  have HUm2 := Lib.hid (HUm.out.next hb); clear HUm; have HUm := HUm2; clear HUm2
  have HUt2 := Lib.hid (HUt.out.next hb); clear HUt; have HUt := HUt2; clear HUt2
  have HUb2 := Lib.hid (HUb.out.next hb); clear HUb; have HUb := HUb2; clear HUb2
  have HUs2 := Lib.hid (HUs.out.next hb); clear HUs; have HUs := HUs2; clear HUs2
  have HYm02 := Lib.hid (HYm0.out.next hb); clear HYm0; have HYm0 := HYm02; clear HYm02
  have HYt02 := Lib.hid (HYt0.out.next hb); clear HYt0; have HYt0 := HYt02; clear HYt02
  have HYt12 := Lib.hid (HYt1.out.next hb); clear HYt1; have HYt1 := HYt12; clear HYt12
  have HYb02 := Lib.hid (HYb0.out.next hb); clear HYb0; have HYb0 := HYb02; clear HYb02
  have HB2 := Lib.hid (HB.out.trans (hb.mono HB.out.size)); clear HB; have HB := HB2; clear HB2
  obtain ⟨Ys0, cYs0, eY, _, _⟩ := hy0.at
  subst eY
  obtain ⟨qs, hq⟩ : ∃ W, W = ys.alloc (.cells #[.int .i64 s'.gen, .int .i64 s'.epoch, .int .i64 s'.recd, .slice Ys0 s'.chests.length cYs0] 51) := ⟨_, rfl⟩
  have hba : Below ys.heap.size ys qs := by rw [hq]; exact (Below.refl _ _).alloc (Nat.le_refl _) _
  have HVs := Lib.hid (show Whole qs ys.heap.size 51 [.int .i64 s'.gen, .int .i64 s'.epoch, .int .i64 s'.recd, .slice Ys0 s'.chests.length cYs0] by rw [hq]; exact Whole.fresh _ _ _)
  have HXm2 := Lib.hid (HXm.out.below hba HXm.out.size); clear HXm; have HXm := HXm2; clear HXm2
  have HXt2 := Lib.hid (HXt.out.below hba HXt.out.size); clear HXt; have HXt := HXt2; clear HXt2
  have HXb2 := Lib.hid (HXb.out.below hba HXb.out.size); clear HXb; have HXb := HXb2; clear HXb2
  have HXs2 := Lib.hid (HXs.out.below hba HXs.out.size); clear HXs; have HXs := HXs2; clear HXs2
  have HVm2 := Lib.hid (HVm.out.below hba HVm.out.size); clear HVm; have HVm := HVm2; clear HVm2
  have HVt2 := Lib.hid (HVt.out.below hba HVt.out.size); clear HVt; have HVt := HVt2; clear HVt2
  have HVb2 := Lib.hid (HVb.out.below hba HVb.out.size); clear HVb; have HVb := HVb2; clear HVb2
  have HRm02 := Lib.hid (HRm0.out.next hba); clear HRm0; have HRm0 := HRm02; clear HRm02
  have HRt02 := Lib.hid (HRt0.out.next hba); clear HRt0; have HRt0 := HRt02; clear HRt02
  have HRt12 := Lib.hid (HRt1.out.next hba); clear HRt1; have HRt1 := HRt12; clear HRt12
  have HRb02 := Lib.hid (HRb0.out.next hba); clear HRb0; have HRb0 := HRb02; clear HRb02
  have HRs02 := Lib.hid (HRs0.out.next hba); clear HRs0; have HRs0 := HRs02; clear HRs02
  have HUm2 := Lib.hid (HUm.out.next hba); clear HUm; have HUm := HUm2; clear HUm2
  have HUt2 := Lib.hid (HUt.out.next hba); clear HUt; have HUt := HUt2; clear HUt2
  have HUb2 := Lib.hid (HUb.out.next hba); clear HUb; have HUb := HUb2; clear HUb2
  have HUs2 := Lib.hid (HUs.out.next hba); clear HUs; have HUs := HUs2; clear HUs2
  have HYm02 := Lib.hid (HYm0.out.next hba); clear HYm0; have HYm0 := HYm02; clear HYm02
  have HYt02 := Lib.hid (HYt0.out.next hba); clear HYt0; have HYt0 := HYt02; clear HYt02
  have HYt12 := Lib.hid (HYt1.out.next hba); clear HYt1; have HYt1 := HYt12; clear HYt12
  have HYb02 := Lib.hid (HYb0.out.next hba); clear HYb0; have HYb0 := HYb02; clear HYb02
  have HB2 := Lib.hid (HB.out.trans (hba.mono HB.out.size)); clear HB; have HB := HB2; clear HB2
  have HYs0 := Lib.hid (hy0.next hba)
  have HQ := Lib.hid hq
  clear hq hba hb HC hy0
  go_wp2_with fail
  rw [← HQ.out]
  clear HQ
  obtain ⟨Gs, hG⟩ : ∃ G, G = ys.heap.size := ⟨_, rfl⟩
  rw [← hG] at HVs ⊢
  clear hG
  refine (awake_any _).mono ?_
  rintro e wa ⟨rfl, hb⟩
  have HXm2 := Lib.hid (HXm.out.below hb HXm.out.size); clear HXm; have HXm := HXm2; clear HXm2
  have HXt2 := Lib.hid (HXt.out.below hb HXt.out.size); clear HXt; have HXt := HXt2; clear HXt2
  have HXb2 := Lib.hid (HXb.out.below hb HXb.out.size); clear HXb; have HXb := HXb2; clear HXb2
  have HXs2 := Lib.hid (HXs.out.below hb HXs.out.size); clear HXs; have HXs := HXs2; clear HXs2
  have HVm2 := Lib.hid (HVm.out.below hb HVm.out.size); clear HVm; have HVm := HVm2; clear HVm2
  have HVt2 := Lib.hid (HVt.out.below hb HVt.out.size); clear HVt; have HVt := HVt2; clear HVt2
  have HVb2 := Lib.hid (HVb.out.below hb HVb.out.size); clear HVb; have HVb := HVb2; clear HVb2
  have HVs2 := Lib.hid (HVs.out.below hb HVs.out.size); clear HVs; have HVs := HVs2; clear HVs2
  have HRm02 := Lib.hid (HRm0.out.next hb); clear HRm0; have HRm0 := HRm02; clear HRm02
  have HRt02 := Lib.hid (HRt0.out.next hb); clear HRt0; have HRt0 := HRt02; clear HRt02
  have HRt12 := Lib.hid (HRt1.out.next hb); clear HRt1; have HRt1 := HRt12; clear HRt12
  have HRb02 := Lib.hid (HRb0.out.next hb); clear HRb0; have HRb0 := HRb02; clear HRb02
  have HRs02 := Lib.hid (HRs0.out.next hb); clear HRs0; have HRs0 := HRs02; clear HRs02
  have HUm2 := Lib.hid (HUm.out.next hb); clear HUm; have HUm := HUm2; clear HUm2
  have HUt2 := Lib.hid (HUt.out.next hb); clear HUt; have HUt := HUt2; clear HUt2
  have HUb2 := Lib.hid (HUb.out.next hb); clear HUb; have HUb := HUb2; clear HUb2
  have HUs2 := Lib.hid (HUs.out.next hb); clear HUs; have HUs := HUs2; clear HUs2
  have HYm02 := Lib.hid (HYm0.out.next hb); clear HYm0; have HYm0 := HYm02; clear HYm02
  have HYt02 := Lib.hid (HYt0.out.next hb); clear HYt0; have HYt0 := HYt02; clear HYt02
  have HYt12 := Lib.hid (HYt1.out.next hb); clear HYt1; have HYt1 := HYt12; clear HYt12
  have HYb02 := Lib.hid (HYb0.out.next hb); clear HYb0; have HYb0 := HYb02; clear HYb02
  have HYs02 := Lib.hid (HYs0.out.next hb); clear HYs0; have HYs0 := HYs02; clear HYs02
  have HB2 := Lib.hid (HB.out.trans (hb.mono HB.out.size)); clear HB; have HB := HB2; clear HB2
  clear hb
  rcases HDm.out with ⟨he, hd⟩ | he
  · subst he
    injection hd with h1 h2
    subst h1 h2
    clear HDm
    have hc := sameM_eq m' _ _ _ HYm0.out HRm0.out
    simp only [mval] at hc
    have HC := Lib.hid hc; clear hc
    have k0 := HVm.out.cell 0 _ rfl
    have j0 := HXm.out.cell 0 _ rfl
    have k1 := HVm.out.cell 1 _ rfl
    have j1 := HXm.out.cell 1 _ rfl
    have k2 := HVm.out.cell 2 _ rfl
    have j2 := HXm.out.cell 2 _ rfl
    have k3 := HVm.out.cell 3 _ rfl
    have j3 := HXm.out.cell 3 _ rfl
    have k4 := HVm.out.cell 4 _ rfl
    have j4 := HXm.out.cell 4 _ rfl
    have k5 := HVm.out.cell 5 _ rfl
    have j5 := HXm.out.cell 5 _ rfl
    have k6 := HVm.out.cell 6 _ rfl
    have j6 := HXm.out.cell 6 _ rfl
    have k7 := HVm.out.cell 7 _ rfl
    have j7 := HXm.out.cell 7 _ rfl
    go_wp2_with fail
    clear k0 j0 k1 j1 k2 j2 k3 j3 k4 j4 k5 j5 k6 j6 k7 j7
    refine HC.out.mono ?_
    rintro e ws0 ⟨rfl, hb⟩
    have HXm2 := Lib.hid (HXm.out.below hb HXm.out.size); clear HXm; have HXm := HXm2; clear HXm2
    have HXt2 := Lib.hid (HXt.out.below hb HXt.out.size); clear HXt; have HXt := HXt2; clear HXt2
    have HXb2 := Lib.hid (HXb.out.below hb HXb.out.size); clear HXb; have HXb := HXb2; clear HXb2
    have HXs2 := Lib.hid (HXs.out.below hb HXs.out.size); clear HXs; have HXs := HXs2; clear HXs2
    have HVm2 := Lib.hid (HVm.out.below hb HVm.out.size); clear HVm; have HVm := HVm2; clear HVm2
    have HVt2 := Lib.hid (HVt.out.below hb HVt.out.size); clear HVt; have HVt := HVt2; clear HVt2
    have HVb2 := Lib.hid (HVb.out.below hb HVb.out.size); clear HVb; have HVb := HVb2; clear HVb2
    have HVs2 := Lib.hid (HVs.out.below hb HVs.out.size); clear HVs; have HVs := HVs2; clear HVs2
    have HRm02 := Lib.hid (HRm0.out.next hb); clear HRm0; have HRm0 := HRm02; clear HRm02
    have HRt02 := Lib.hid (HRt0.out.next hb); clear HRt0; have HRt0 := HRt02; clear HRt02
    have HRt12 := Lib.hid (HRt1.out.next hb); clear HRt1; have HRt1 := HRt12; clear HRt12
    have HRb02 := Lib.hid (HRb0.out.next hb); clear HRb0; have HRb0 := HRb02; clear HRb02
    have HRs02 := Lib.hid (HRs0.out.next hb); clear HRs0; have HRs0 := HRs02; clear HRs02
    have HUm2 := Lib.hid (HUm.out.next hb); clear HUm; have HUm := HUm2; clear HUm2
    have HUt2 := Lib.hid (HUt.out.next hb); clear HUt; have HUt := HUt2; clear HUt2
    have HUb2 := Lib.hid (HUb.out.next hb); clear HUb; have HUb := HUb2; clear HUb2
    have HUs2 := Lib.hid (HUs.out.next hb); clear HUs; have HUs := HUs2; clear HUs2
    have HYm02 := Lib.hid (HYm0.out.next hb); clear HYm0; have HYm0 := HYm02; clear HYm02
    have HYt02 := Lib.hid (HYt0.out.next hb); clear HYt0; have HYt0 := HYt02; clear HYt02
    have HYt12 := Lib.hid (HYt1.out.next hb); clear HYt1; have HYt1 := HYt12; clear HYt12
    have HYb02 := Lib.hid (HYb0.out.next hb); clear HYb0; have HYb0 := HYb02; clear HYb02
    have HYs02 := Lib.hid (HYs0.out.next hb); clear HYs0; have HYs0 := HYs02; clear HYs02
    have HB2 := Lib.hid (HB.out.trans (hb.mono HB.out.size)); clear HB; have HB := HB2; clear HB2
    clear hb HC
    rcases HDt.out with ⟨he, hd⟩ | he
    · subst he
      injection hd with h1 h2
      subst h1 h2
      clear HDt
      have hc := sameT_eq t' hl1 _ _ _ _ _ HYt0.out HYt1.out HRt0.out HRt1.out
      simp only [tval] at hc
      have HC := Lib.hid hc; clear hc
      have k0 := HVt.out.cell 0 _ rfl
      have j0 := HXt.out.cell 0 _ rfl
      have k1 := HVt.out.cell 1 _ rfl
      have j1 := HXt.out.cell 1 _ rfl
      have k2 := HVt.out.cell 2 _ rfl
      have j2 := HXt.out.cell 2 _ rfl
      go_wp2_with fail
      clear k0 j0 k1 j1 k2 j2
      refine HC.out.mono ?_
      rintro e ws1 ⟨rfl, hb⟩
      have HXm2 := Lib.hid (HXm.out.below hb HXm.out.size); clear HXm; have HXm := HXm2; clear HXm2
      have HXt2 := Lib.hid (HXt.out.below hb HXt.out.size); clear HXt; have HXt := HXt2; clear HXt2
      have HXb2 := Lib.hid (HXb.out.below hb HXb.out.size); clear HXb; have HXb := HXb2; clear HXb2
      have HXs2 := Lib.hid (HXs.out.below hb HXs.out.size); clear HXs; have HXs := HXs2; clear HXs2
      have HVm2 := Lib.hid (HVm.out.below hb HVm.out.size); clear HVm; have HVm := HVm2; clear HVm2
      have HVt2 := Lib.hid (HVt.out.below hb HVt.out.size); clear HVt; have HVt := HVt2; clear HVt2
      have HVb2 := Lib.hid (HVb.out.below hb HVb.out.size); clear HVb; have HVb := HVb2; clear HVb2
      have HVs2 := Lib.hid (HVs.out.below hb HVs.out.size); clear HVs; have HVs := HVs2; clear HVs2
      have HRm02 := Lib.hid (HRm0.out.next hb); clear HRm0; have HRm0 := HRm02; clear HRm02
      have HRt02 := Lib.hid (HRt0.out.next hb); clear HRt0; have HRt0 := HRt02; clear HRt02
      have HRt12 := Lib.hid (HRt1.out.next hb); clear HRt1; have HRt1 := HRt12; clear HRt12
      have HRb02 := Lib.hid (HRb0.out.next hb); clear HRb0; have HRb0 := HRb02; clear HRb02
      have HRs02 := Lib.hid (HRs0.out.next hb); clear HRs0; have HRs0 := HRs02; clear HRs02
      have HUm2 := Lib.hid (HUm.out.next hb); clear HUm; have HUm := HUm2; clear HUm2
      have HUt2 := Lib.hid (HUt.out.next hb); clear HUt; have HUt := HUt2; clear HUt2
      have HUb2 := Lib.hid (HUb.out.next hb); clear HUb; have HUb := HUb2; clear HUb2
      have HUs2 := Lib.hid (HUs.out.next hb); clear HUs; have HUs := HUs2; clear HUs2
      have HYm02 := Lib.hid (HYm0.out.next hb); clear HYm0; have HYm0 := HYm02; clear HYm02
      have HYt02 := Lib.hid (HYt0.out.next hb); clear HYt0; have HYt0 := HYt02; clear HYt02
      have HYt12 := Lib.hid (HYt1.out.next hb); clear HYt1; have HYt1 := HYt12; clear HYt12
      have HYb02 := Lib.hid (HYb0.out.next hb); clear HYb0; have HYb0 := HYb02; clear HYb02
      have HYs02 := Lib.hid (HYs0.out.next hb); clear HYs0; have HYs0 := HYs02; clear HYs02
      have HB2 := Lib.hid (HB.out.trans (hb.mono HB.out.size)); clear HB; have HB := HB2; clear HB2
      clear hb HC
      rcases HDb.out with ⟨he, hd⟩ | he
      · subst he
        injection hd with h1 h2
        subst h1 h2
        clear HDb
        have hc := sameB_eq b' hl2.1 _ _ _ HYb0.out HRb0.out
        simp only [bval] at hc
        have HC := Lib.hid hc; clear hc
        have k0 := HVb.out.cell 0 _ rfl
        have j0 := HXb.out.cell 0 _ rfl
        have k1 := HVb.out.cell 1 _ rfl
        have j1 := HXb.out.cell 1 _ rfl
        have k2 := HVb.out.cell 2 _ rfl
        have j2 := HXb.out.cell 2 _ rfl
        have k3 := HVb.out.cell 3 _ rfl
        have j3 := HXb.out.cell 3 _ rfl
        go_wp2_with fail
        clear k0 j0 k1 j1 k2 j2 k3 j3
        refine HC.out.mono ?_
        rintro e ws2 ⟨rfl, hb⟩
        have HXm2 := Lib.hid (HXm.out.below hb HXm.out.size); clear HXm; have HXm := HXm2; clear HXm2
        have HXt2 := Lib.hid (HXt.out.below hb HXt.out.size); clear HXt; have HXt := HXt2; clear HXt2
        have HXb2 := Lib.hid (HXb.out.below hb HXb.out.size); clear HXb; have HXb := HXb2; clear HXb2
        have HXs2 := Lib.hid (HXs.out.below hb HXs.out.size); clear HXs; have HXs := HXs2; clear HXs2
        have HVm2 := Lib.hid (HVm.out.below hb HVm.out.size); clear HVm; have HVm := HVm2; clear HVm2
        have HVt2 := Lib.hid (HVt.out.below hb HVt.out.size); clear HVt; have HVt := HVt2; clear HVt2
        have HVb2 := Lib.hid (HVb.out.below hb HVb.out.size); clear HVb; have HVb := HVb2; clear HVb2
        have HVs2 := Lib.hid (HVs.out.below hb HVs.out.size); clear HVs; have HVs := HVs2; clear HVs2
        have HRm02 := Lib.hid (HRm0.out.next hb); clear HRm0; have HRm0 := HRm02; clear HRm02
        have HRt02 := Lib.hid (HRt0.out.next hb); clear HRt0; have HRt0 := HRt02; clear HRt02
        have HRt12 := Lib.hid (HRt1.out.next hb); clear HRt1; have HRt1 := HRt12; clear HRt12
        have HRb02 := Lib.hid (HRb0.out.next hb); clear HRb0; have HRb0 := HRb02; clear HRb02
        have HRs02 := Lib.hid (HRs0.out.next hb); clear HRs0; have HRs0 := HRs02; clear HRs02
        have HUm2 := Lib.hid (HUm.out.next hb); clear HUm; have HUm := HUm2; clear HUm2
        have HUt2 := Lib.hid (HUt.out.next hb); clear HUt; have HUt := HUt2; clear HUt2
        have HUb2 := Lib.hid (HUb.out.next hb); clear HUb; have HUb := HUb2; clear HUb2
        have HUs2 := Lib.hid (HUs.out.next hb); clear HUs; have HUs := HUs2; clear HUs2
        have HYm02 := Lib.hid (HYm0.out.next hb); clear HYm0; have HYm0 := HYm02; clear HYm02
        have HYt02 := Lib.hid (HYt0.out.next hb); clear HYt0; have HYt0 := HYt02; clear HYt02
        have HYt12 := Lib.hid (HYt1.out.next hb); clear HYt1; have HYt1 := HYt12; clear HYt12
        have HYb02 := Lib.hid (HYb0.out.next hb); clear HYb0; have HYb0 := HYb02; clear HYb02
        have HYs02 := Lib.hid (HYs0.out.next hb); clear HYs0; have HYs0 := HYs02; clear HYs02
        have HB2 := Lib.hid (HB.out.trans (hb.mono HB.out.size)); clear HB; have HB := HB2; clear HB2
        clear hb HC
        rcases HDs.out with ⟨he, hd⟩ | he
        · subst he
          injection hd with h1 h2
          subst h1 h2
          clear HDs
          have hc := sameS_eq s' hs3 _ _ _ HYs0.out HRs0.out
          simp only [sval] at hc
          have HC := Lib.hid hc; clear hc
          have k0 := HVs.out.cell 0 _ rfl
          have j0 := HXs.out.cell 0 _ rfl
          have k1 := HVs.out.cell 1 _ rfl
          have j1 := HXs.out.cell 1 _ rfl
          have k2 := HVs.out.cell 2 _ rfl
          have j2 := HXs.out.cell 2 _ rfl
          have k3 := HVs.out.cell 3 _ rfl
          have j3 := HXs.out.cell 3 _ rfl
          go_wp2_with fail
          clear k0 j0 k1 j1 k2 j2 k3 j3
          refine HC.out.mono ?_
          rintro e ws3 ⟨rfl, hb⟩
          have HXm2 := Lib.hid (HXm.out.below hb HXm.out.size); clear HXm; have HXm := HXm2; clear HXm2
          have HXt2 := Lib.hid (HXt.out.below hb HXt.out.size); clear HXt; have HXt := HXt2; clear HXt2
          have HXb2 := Lib.hid (HXb.out.below hb HXb.out.size); clear HXb; have HXb := HXb2; clear HXb2
          have HXs2 := Lib.hid (HXs.out.below hb HXs.out.size); clear HXs; have HXs := HXs2; clear HXs2
          have HVm2 := Lib.hid (HVm.out.below hb HVm.out.size); clear HVm; have HVm := HVm2; clear HVm2
          have HVt2 := Lib.hid (HVt.out.below hb HVt.out.size); clear HVt; have HVt := HVt2; clear HVt2
          have HVb2 := Lib.hid (HVb.out.below hb HVb.out.size); clear HVb; have HVb := HVb2; clear HVb2
          have HVs2 := Lib.hid (HVs.out.below hb HVs.out.size); clear HVs; have HVs := HVs2; clear HVs2
          have HRm02 := Lib.hid (HRm0.out.next hb); clear HRm0; have HRm0 := HRm02; clear HRm02
          have HRt02 := Lib.hid (HRt0.out.next hb); clear HRt0; have HRt0 := HRt02; clear HRt02
          have HRt12 := Lib.hid (HRt1.out.next hb); clear HRt1; have HRt1 := HRt12; clear HRt12
          have HRb02 := Lib.hid (HRb0.out.next hb); clear HRb0; have HRb0 := HRb02; clear HRb02
          have HRs02 := Lib.hid (HRs0.out.next hb); clear HRs0; have HRs0 := HRs02; clear HRs02
          have HUm2 := Lib.hid (HUm.out.next hb); clear HUm; have HUm := HUm2; clear HUm2
          have HUt2 := Lib.hid (HUt.out.next hb); clear HUt; have HUt := HUt2; clear HUt2
          have HUb2 := Lib.hid (HUb.out.next hb); clear HUb; have HUb := HUb2; clear HUb2
          have HUs2 := Lib.hid (HUs.out.next hb); clear HUs; have HUs := HUs2; clear HUs2
          have HYm02 := Lib.hid (HYm0.out.next hb); clear HYm0; have HYm0 := HYm02; clear HYm02
          have HYt02 := Lib.hid (HYt0.out.next hb); clear HYt0; have HYt0 := HYt02; clear HYt02
          have HYt12 := Lib.hid (HYt1.out.next hb); clear HYt1; have HYt1 := HYt12; clear HYt12
          have HYb02 := Lib.hid (HYb0.out.next hb); clear HYb0; have HYb0 := HYb02; clear HYb02
          have HYs02 := Lib.hid (HYs0.out.next hb); clear HYs0; have HYs0 := HYs02; clear HYs02
          have HB2 := Lib.hid (HB.out.trans (hb.mono HB.out.size)); clear HB; have HB := HB2; clear HB2
          clear hb HC
          go_wp2_with fail
          go_ret
          exact ⟨rfl, HB.out⟩
        · subst he
          clear HDs
          go_wp2_with fail
          go_ret
          exact ⟨rfl, HB.out⟩
      · subst he
        clear HDb
        rcases HDs.out with ⟨he, hd⟩ | he
        · subst he
          injection hd with h1 h2
          subst h1 h2
          clear HDs
          have hc := sameS_eq s' hs3 _ _ _ HYs0.out HRs0.out
          simp only [sval] at hc
          have HC := Lib.hid hc; clear hc
          have k0 := HVs.out.cell 0 _ rfl
          have j0 := HXs.out.cell 0 _ rfl
          have k1 := HVs.out.cell 1 _ rfl
          have j1 := HXs.out.cell 1 _ rfl
          have k2 := HVs.out.cell 2 _ rfl
          have j2 := HXs.out.cell 2 _ rfl
          have k3 := HVs.out.cell 3 _ rfl
          have j3 := HXs.out.cell 3 _ rfl
          go_wp2_with fail
          clear k0 j0 k1 j1 k2 j2 k3 j3
          refine HC.out.mono ?_
          rintro e ws3 ⟨rfl, hb⟩
          have HXm2 := Lib.hid (HXm.out.below hb HXm.out.size); clear HXm; have HXm := HXm2; clear HXm2
          have HXt2 := Lib.hid (HXt.out.below hb HXt.out.size); clear HXt; have HXt := HXt2; clear HXt2
          have HXb2 := Lib.hid (HXb.out.below hb HXb.out.size); clear HXb; have HXb := HXb2; clear HXb2
          have HXs2 := Lib.hid (HXs.out.below hb HXs.out.size); clear HXs; have HXs := HXs2; clear HXs2
          have HVm2 := Lib.hid (HVm.out.below hb HVm.out.size); clear HVm; have HVm := HVm2; clear HVm2
          have HVt2 := Lib.hid (HVt.out.below hb HVt.out.size); clear HVt; have HVt := HVt2; clear HVt2
          have HVb2 := Lib.hid (HVb.out.below hb HVb.out.size); clear HVb; have HVb := HVb2; clear HVb2
          have HVs2 := Lib.hid (HVs.out.below hb HVs.out.size); clear HVs; have HVs := HVs2; clear HVs2
          have HRm02 := Lib.hid (HRm0.out.next hb); clear HRm0; have HRm0 := HRm02; clear HRm02
          have HRt02 := Lib.hid (HRt0.out.next hb); clear HRt0; have HRt0 := HRt02; clear HRt02
          have HRt12 := Lib.hid (HRt1.out.next hb); clear HRt1; have HRt1 := HRt12; clear HRt12
          have HRb02 := Lib.hid (HRb0.out.next hb); clear HRb0; have HRb0 := HRb02; clear HRb02
          have HRs02 := Lib.hid (HRs0.out.next hb); clear HRs0; have HRs0 := HRs02; clear HRs02
          have HUm2 := Lib.hid (HUm.out.next hb); clear HUm; have HUm := HUm2; clear HUm2
          have HUt2 := Lib.hid (HUt.out.next hb); clear HUt; have HUt := HUt2; clear HUt2
          have HUb2 := Lib.hid (HUb.out.next hb); clear HUb; have HUb := HUb2; clear HUb2
          have HUs2 := Lib.hid (HUs.out.next hb); clear HUs; have HUs := HUs2; clear HUs2
          have HYm02 := Lib.hid (HYm0.out.next hb); clear HYm0; have HYm0 := HYm02; clear HYm02
          have HYt02 := Lib.hid (HYt0.out.next hb); clear HYt0; have HYt0 := HYt02; clear HYt02
          have HYt12 := Lib.hid (HYt1.out.next hb); clear HYt1; have HYt1 := HYt12; clear HYt12
          have HYb02 := Lib.hid (HYb0.out.next hb); clear HYb0; have HYb0 := HYb02; clear HYb02
          have HYs02 := Lib.hid (HYs0.out.next hb); clear HYs0; have HYs0 := HYs02; clear HYs02
          have HB2 := Lib.hid (HB.out.trans (hb.mono HB.out.size)); clear HB; have HB := HB2; clear HB2
          clear hb HC
          go_wp2_with fail
          go_ret
          exact ⟨rfl, HB.out⟩
        · subst he
          clear HDs
          go_wp2_with fail
          go_ret
          exact ⟨rfl, HB.out⟩
    · subst he
      clear HDt
      rcases HDb.out with ⟨he, hd⟩ | he
      · subst he
        injection hd with h1 h2
        subst h1 h2
        clear HDb
        have hc := sameB_eq b' hl2.1 _ _ _ HYb0.out HRb0.out
        simp only [bval] at hc
        have HC := Lib.hid hc; clear hc
        have k0 := HVb.out.cell 0 _ rfl
        have j0 := HXb.out.cell 0 _ rfl
        have k1 := HVb.out.cell 1 _ rfl
        have j1 := HXb.out.cell 1 _ rfl
        have k2 := HVb.out.cell 2 _ rfl
        have j2 := HXb.out.cell 2 _ rfl
        have k3 := HVb.out.cell 3 _ rfl
        have j3 := HXb.out.cell 3 _ rfl
        go_wp2_with fail
        clear k0 j0 k1 j1 k2 j2 k3 j3
        refine HC.out.mono ?_
        rintro e ws2 ⟨rfl, hb⟩
        have HXm2 := Lib.hid (HXm.out.below hb HXm.out.size); clear HXm; have HXm := HXm2; clear HXm2
        have HXt2 := Lib.hid (HXt.out.below hb HXt.out.size); clear HXt; have HXt := HXt2; clear HXt2
        have HXb2 := Lib.hid (HXb.out.below hb HXb.out.size); clear HXb; have HXb := HXb2; clear HXb2
        have HXs2 := Lib.hid (HXs.out.below hb HXs.out.size); clear HXs; have HXs := HXs2; clear HXs2
        have HVm2 := Lib.hid (HVm.out.below hb HVm.out.size); clear HVm; have HVm := HVm2; clear HVm2
        have HVt2 := Lib.hid (HVt.out.below hb HVt.out.size); clear HVt; have HVt := HVt2; clear HVt2
        have HVb2 := Lib.hid (HVb.out.below hb HVb.out.size); clear HVb; have HVb := HVb2; clear HVb2
        have HVs2 := Lib.hid (HVs.out.below hb HVs.out.size); clear HVs; have HVs := HVs2; clear HVs2
        have HRm02 := Lib.hid (HRm0.out.next hb); clear HRm0; have HRm0 := HRm02; clear HRm02
        have HRt02 := Lib.hid (HRt0.out.next hb); clear HRt0; have HRt0 := HRt02; clear HRt02
        have HRt12 := Lib.hid (HRt1.out.next hb); clear HRt1; have HRt1 := HRt12; clear HRt12
        have HRb02 := Lib.hid (HRb0.out.next hb); clear HRb0; have HRb0 := HRb02; clear HRb02
        have HRs02 := Lib.hid (HRs0.out.next hb); clear HRs0; have HRs0 := HRs02; clear HRs02
        have HUm2 := Lib.hid (HUm.out.next hb); clear HUm; have HUm := HUm2; clear HUm2
        have HUt2 := Lib.hid (HUt.out.next hb); clear HUt; have HUt := HUt2; clear HUt2
        have HUb2 := Lib.hid (HUb.out.next hb); clear HUb; have HUb := HUb2; clear HUb2
        have HUs2 := Lib.hid (HUs.out.next hb); clear HUs; have HUs := HUs2; clear HUs2
        have HYm02 := Lib.hid (HYm0.out.next hb); clear HYm0; have HYm0 := HYm02; clear HYm02
        have HYt02 := Lib.hid (HYt0.out.next hb); clear HYt0; have HYt0 := HYt02; clear HYt02
        have HYt12 := Lib.hid (HYt1.out.next hb); clear HYt1; have HYt1 := HYt12; clear HYt12
        have HYb02 := Lib.hid (HYb0.out.next hb); clear HYb0; have HYb0 := HYb02; clear HYb02
        have HYs02 := Lib.hid (HYs0.out.next hb); clear HYs0; have HYs0 := HYs02; clear HYs02
        have HB2 := Lib.hid (HB.out.trans (hb.mono HB.out.size)); clear HB; have HB := HB2; clear HB2
        clear hb HC
        rcases HDs.out with ⟨he, hd⟩ | he
        · subst he
          injection hd with h1 h2
          subst h1 h2
          clear HDs
          have hc := sameS_eq s' hs3 _ _ _ HYs0.out HRs0.out
          simp only [sval] at hc
          have HC := Lib.hid hc; clear hc
          have k0 := HVs.out.cell 0 _ rfl
          have j0 := HXs.out.cell 0 _ rfl
          have k1 := HVs.out.cell 1 _ rfl
          have j1 := HXs.out.cell 1 _ rfl
          have k2 := HVs.out.cell 2 _ rfl
          have j2 := HXs.out.cell 2 _ rfl
          have k3 := HVs.out.cell 3 _ rfl
          have j3 := HXs.out.cell 3 _ rfl
          go_wp2_with fail
          clear k0 j0 k1 j1 k2 j2 k3 j3
          refine HC.out.mono ?_
          rintro e ws3 ⟨rfl, hb⟩
          have HXm2 := Lib.hid (HXm.out.below hb HXm.out.size); clear HXm; have HXm := HXm2; clear HXm2
          have HXt2 := Lib.hid (HXt.out.below hb HXt.out.size); clear HXt; have HXt := HXt2; clear HXt2
          have HXb2 := Lib.hid (HXb.out.below hb HXb.out.size); clear HXb; have HXb := HXb2; clear HXb2
          have HXs2 := Lib.hid (HXs.out.below hb HXs.out.size); clear HXs; have HXs := HXs2; clear HXs2
          have HVm2 := Lib.hid (HVm.out.below hb HVm.out.size); clear HVm; have HVm := HVm2; clear HVm2
          have HVt2 := Lib.hid (HVt.out.below hb HVt.out.size); clear HVt; have HVt := HVt2; clear HVt2
          have HVb2 := Lib.hid (HVb.out.below hb HVb.out.size); clear HVb; have HVb := HVb2; clear HVb2
          have HVs2 := Lib.hid (HVs.out.below hb HVs.out.size); clear HVs; have HVs := HVs2; clear HVs2
          have HRm02 := Lib.hid (HRm0.out.next hb); clear HRm0; have HRm0 := HRm02; clear HRm02
          have HRt02 := Lib.hid (HRt0.out.next hb); clear HRt0; have HRt0 := HRt02; clear HRt02
          have HRt12 := Lib.hid (HRt1.out.next hb); clear HRt1; have HRt1 := HRt12; clear HRt12
          have HRb02 := Lib.hid (HRb0.out.next hb); clear HRb0; have HRb0 := HRb02; clear HRb02
          have HRs02 := Lib.hid (HRs0.out.next hb); clear HRs0; have HRs0 := HRs02; clear HRs02
          have HUm2 := Lib.hid (HUm.out.next hb); clear HUm; have HUm := HUm2; clear HUm2
          have HUt2 := Lib.hid (HUt.out.next hb); clear HUt; have HUt := HUt2; clear HUt2
          have HUb2 := Lib.hid (HUb.out.next hb); clear HUb; have HUb := HUb2; clear HUb2
          have HUs2 := Lib.hid (HUs.out.next hb); clear HUs; have HUs := HUs2; clear HUs2
          have HYm02 := Lib.hid (HYm0.out.next hb); clear HYm0; have HYm0 := HYm02; clear HYm02
          have HYt02 := Lib.hid (HYt0.out.next hb); clear HYt0; have HYt0 := HYt02; clear HYt02
          have HYt12 := Lib.hid (HYt1.out.next hb); clear HYt1; have HYt1 := HYt12; clear HYt12
          have HYb02 := Lib.hid (HYb0.out.next hb); clear HYb0; have HYb0 := HYb02; clear HYb02
          have HYs02 := Lib.hid (HYs0.out.next hb); clear HYs0; have HYs0 := HYs02; clear HYs02
          have HB2 := Lib.hid (HB.out.trans (hb.mono HB.out.size)); clear HB; have HB := HB2; clear HB2
          clear hb HC
          go_wp2_with fail
          go_ret
          exact ⟨rfl, HB.out⟩
        · subst he
          clear HDs
          go_wp2_with fail
          go_ret
          exact ⟨rfl, HB.out⟩
      · subst he
        clear HDb
        rcases HDs.out with ⟨he, hd⟩ | he
        · subst he
          injection hd with h1 h2
          subst h1 h2
          clear HDs
          have hc := sameS_eq s' hs3 _ _ _ HYs0.out HRs0.out
          simp only [sval] at hc
          have HC := Lib.hid hc; clear hc
          have k0 := HVs.out.cell 0 _ rfl
          have j0 := HXs.out.cell 0 _ rfl
          have k1 := HVs.out.cell 1 _ rfl
          have j1 := HXs.out.cell 1 _ rfl
          have k2 := HVs.out.cell 2 _ rfl
          have j2 := HXs.out.cell 2 _ rfl
          have k3 := HVs.out.cell 3 _ rfl
          have j3 := HXs.out.cell 3 _ rfl
          go_wp2_with fail
          clear k0 j0 k1 j1 k2 j2 k3 j3
          refine HC.out.mono ?_
          rintro e ws3 ⟨rfl, hb⟩
          have HXm2 := Lib.hid (HXm.out.below hb HXm.out.size); clear HXm; have HXm := HXm2; clear HXm2
          have HXt2 := Lib.hid (HXt.out.below hb HXt.out.size); clear HXt; have HXt := HXt2; clear HXt2
          have HXb2 := Lib.hid (HXb.out.below hb HXb.out.size); clear HXb; have HXb := HXb2; clear HXb2
          have HXs2 := Lib.hid (HXs.out.below hb HXs.out.size); clear HXs; have HXs := HXs2; clear HXs2
          have HVm2 := Lib.hid (HVm.out.below hb HVm.out.size); clear HVm; have HVm := HVm2; clear HVm2
          have HVt2 := Lib.hid (HVt.out.below hb HVt.out.size); clear HVt; have HVt := HVt2; clear HVt2
          have HVb2 := Lib.hid (HVb.out.below hb HVb.out.size); clear HVb; have HVb := HVb2; clear HVb2
          have HVs2 := Lib.hid (HVs.out.below hb HVs.out.size); clear HVs; have HVs := HVs2; clear HVs2
          have HRm02 := Lib.hid (HRm0.out.next hb); clear HRm0; have HRm0 := HRm02; clear HRm02
          have HRt02 := Lib.hid (HRt0.out.next hb); clear HRt0; have HRt0 := HRt02; clear HRt02
          have HRt12 := Lib.hid (HRt1.out.next hb); clear HRt1; have HRt1 := HRt12; clear HRt12
          have HRb02 := Lib.hid (HRb0.out.next hb); clear HRb0; have HRb0 := HRb02; clear HRb02
          have HRs02 := Lib.hid (HRs0.out.next hb); clear HRs0; have HRs0 := HRs02; clear HRs02
          have HUm2 := Lib.hid (HUm.out.next hb); clear HUm; have HUm := HUm2; clear HUm2
          have HUt2 := Lib.hid (HUt.out.next hb); clear HUt; have HUt := HUt2; clear HUt2
          have HUb2 := Lib.hid (HUb.out.next hb); clear HUb; have HUb := HUb2; clear HUb2
          have HUs2 := Lib.hid (HUs.out.next hb); clear HUs; have HUs := HUs2; clear HUs2
          have HYm02 := Lib.hid (HYm0.out.next hb); clear HYm0; have HYm0 := HYm02; clear HYm02
          have HYt02 := Lib.hid (HYt0.out.next hb); clear HYt0; have HYt0 := HYt02; clear HYt02
          have HYt12 := Lib.hid (HYt1.out.next hb); clear HYt1; have HYt1 := HYt12; clear HYt12
          have HYb02 := Lib.hid (HYb0.out.next hb); clear HYb0; have HYb0 := HYb02; clear HYb02
          have HYs02 := Lib.hid (HYs0.out.next hb); clear HYs0; have HYs0 := HYs02; clear HYs02
          have HB2 := Lib.hid (HB.out.trans (hb.mono HB.out.size)); clear HB; have HB := HB2; clear HB2
          clear hb HC
          go_wp2_with fail
          go_ret
          exact ⟨rfl, HB.out⟩
        · subst he
          clear HDs
          go_wp2_with fail
          go_ret
          exact ⟨rfl, HB.out⟩
  · subst he
    clear HDm
    rcases HDt.out with ⟨he, hd⟩ | he
    · subst he
      injection hd with h1 h2
      subst h1 h2
      clear HDt
      have hc := sameT_eq t' hl1 _ _ _ _ _ HYt0.out HYt1.out HRt0.out HRt1.out
      simp only [tval] at hc
      have HC := Lib.hid hc; clear hc
      have k0 := HVt.out.cell 0 _ rfl
      have j0 := HXt.out.cell 0 _ rfl
      have k1 := HVt.out.cell 1 _ rfl
      have j1 := HXt.out.cell 1 _ rfl
      have k2 := HVt.out.cell 2 _ rfl
      have j2 := HXt.out.cell 2 _ rfl
      go_wp2_with fail
      clear k0 j0 k1 j1 k2 j2
      refine HC.out.mono ?_
      rintro e ws1 ⟨rfl, hb⟩
      have HXm2 := Lib.hid (HXm.out.below hb HXm.out.size); clear HXm; have HXm := HXm2; clear HXm2
      have HXt2 := Lib.hid (HXt.out.below hb HXt.out.size); clear HXt; have HXt := HXt2; clear HXt2
      have HXb2 := Lib.hid (HXb.out.below hb HXb.out.size); clear HXb; have HXb := HXb2; clear HXb2
      have HXs2 := Lib.hid (HXs.out.below hb HXs.out.size); clear HXs; have HXs := HXs2; clear HXs2
      have HVm2 := Lib.hid (HVm.out.below hb HVm.out.size); clear HVm; have HVm := HVm2; clear HVm2
      have HVt2 := Lib.hid (HVt.out.below hb HVt.out.size); clear HVt; have HVt := HVt2; clear HVt2
      have HVb2 := Lib.hid (HVb.out.below hb HVb.out.size); clear HVb; have HVb := HVb2; clear HVb2
      have HVs2 := Lib.hid (HVs.out.below hb HVs.out.size); clear HVs; have HVs := HVs2; clear HVs2
      have HRm02 := Lib.hid (HRm0.out.next hb); clear HRm0; have HRm0 := HRm02; clear HRm02
      have HRt02 := Lib.hid (HRt0.out.next hb); clear HRt0; have HRt0 := HRt02; clear HRt02
      have HRt12 := Lib.hid (HRt1.out.next hb); clear HRt1; have HRt1 := HRt12; clear HRt12
      have HRb02 := Lib.hid (HRb0.out.next hb); clear HRb0; have HRb0 := HRb02; clear HRb02
      have HRs02 := Lib.hid (HRs0.out.next hb); clear HRs0; have HRs0 := HRs02; clear HRs02
      have HUm2 := Lib.hid (HUm.out.next hb); clear HUm; have HUm := HUm2; clear HUm2
      have HUt2 := Lib.hid (HUt.out.next hb); clear HUt; have HUt := HUt2; clear HUt2
      have HUb2 := Lib.hid (HUb.out.next hb); clear HUb; have HUb := HUb2; clear HUb2
      have HUs2 := Lib.hid (HUs.out.next hb); clear HUs; have HUs := HUs2; clear HUs2
      have HYm02 := Lib.hid (HYm0.out.next hb); clear HYm0; have HYm0 := HYm02; clear HYm02
      have HYt02 := Lib.hid (HYt0.out.next hb); clear HYt0; have HYt0 := HYt02; clear HYt02
      have HYt12 := Lib.hid (HYt1.out.next hb); clear HYt1; have HYt1 := HYt12; clear HYt12
      have HYb02 := Lib.hid (HYb0.out.next hb); clear HYb0; have HYb0 := HYb02; clear HYb02
      have HYs02 := Lib.hid (HYs0.out.next hb); clear HYs0; have HYs0 := HYs02; clear HYs02
      have HB2 := Lib.hid (HB.out.trans (hb.mono HB.out.size)); clear HB; have HB := HB2; clear HB2
      clear hb HC
      rcases HDb.out with ⟨he, hd⟩ | he
      · subst he
        injection hd with h1 h2
        subst h1 h2
        clear HDb
        have hc := sameB_eq b' hl2.1 _ _ _ HYb0.out HRb0.out
        simp only [bval] at hc
        have HC := Lib.hid hc; clear hc
        have k0 := HVb.out.cell 0 _ rfl
        have j0 := HXb.out.cell 0 _ rfl
        have k1 := HVb.out.cell 1 _ rfl
        have j1 := HXb.out.cell 1 _ rfl
        have k2 := HVb.out.cell 2 _ rfl
        have j2 := HXb.out.cell 2 _ rfl
        have k3 := HVb.out.cell 3 _ rfl
        have j3 := HXb.out.cell 3 _ rfl
        go_wp2_with fail
        clear k0 j0 k1 j1 k2 j2 k3 j3
        refine HC.out.mono ?_
        rintro e ws2 ⟨rfl, hb⟩
        have HXm2 := Lib.hid (HXm.out.below hb HXm.out.size); clear HXm; have HXm := HXm2; clear HXm2
        have HXt2 := Lib.hid (HXt.out.below hb HXt.out.size); clear HXt; have HXt := HXt2; clear HXt2
        have HXb2 := Lib.hid (HXb.out.below hb HXb.out.size); clear HXb; have HXb := HXb2; clear HXb2
        have HXs2 := Lib.hid (HXs.out.below hb HXs.out.size); clear HXs; have HXs := HXs2; clear HXs2
        have HVm2 := Lib.hid (HVm.out.below hb HVm.out.size); clear HVm; have HVm := HVm2; clear HVm2
        have HVt2 := Lib.hid (HVt.out.below hb HVt.out.size); clear HVt; have HVt := HVt2; clear HVt2
        have HVb2 := Lib.hid (HVb.out.below hb HVb.out.size); clear HVb; have HVb := HVb2; clear HVb2
        have HVs2 := Lib.hid (HVs.out.below hb HVs.out.size); clear HVs; have HVs := HVs2; clear HVs2
        have HRm02 := Lib.hid (HRm0.out.next hb); clear HRm0; have HRm0 := HRm02; clear HRm02
        have HRt02 := Lib.hid (HRt0.out.next hb); clear HRt0; have HRt0 := HRt02; clear HRt02
        have HRt12 := Lib.hid (HRt1.out.next hb); clear HRt1; have HRt1 := HRt12; clear HRt12
        have HRb02 := Lib.hid (HRb0.out.next hb); clear HRb0; have HRb0 := HRb02; clear HRb02
        have HRs02 := Lib.hid (HRs0.out.next hb); clear HRs0; have HRs0 := HRs02; clear HRs02
        have HUm2 := Lib.hid (HUm.out.next hb); clear HUm; have HUm := HUm2; clear HUm2
        have HUt2 := Lib.hid (HUt.out.next hb); clear HUt; have HUt := HUt2; clear HUt2
        have HUb2 := Lib.hid (HUb.out.next hb); clear HUb; have HUb := HUb2; clear HUb2
        have HUs2 := Lib.hid (HUs.out.next hb); clear HUs; have HUs := HUs2; clear HUs2
        have HYm02 := Lib.hid (HYm0.out.next hb); clear HYm0; have HYm0 := HYm02; clear HYm02
        have HYt02 := Lib.hid (HYt0.out.next hb); clear HYt0; have HYt0 := HYt02; clear HYt02
        have HYt12 := Lib.hid (HYt1.out.next hb); clear HYt1; have HYt1 := HYt12; clear HYt12
        have HYb02 := Lib.hid (HYb0.out.next hb); clear HYb0; have HYb0 := HYb02; clear HYb02
        have HYs02 := Lib.hid (HYs0.out.next hb); clear HYs0; have HYs0 := HYs02; clear HYs02
        have HB2 := Lib.hid (HB.out.trans (hb.mono HB.out.size)); clear HB; have HB := HB2; clear HB2
        clear hb HC
        rcases HDs.out with ⟨he, hd⟩ | he
        · subst he
          injection hd with h1 h2
          subst h1 h2
          clear HDs
          have hc := sameS_eq s' hs3 _ _ _ HYs0.out HRs0.out
          simp only [sval] at hc
          have HC := Lib.hid hc; clear hc
          have k0 := HVs.out.cell 0 _ rfl
          have j0 := HXs.out.cell 0 _ rfl
          have k1 := HVs.out.cell 1 _ rfl
          have j1 := HXs.out.cell 1 _ rfl
          have k2 := HVs.out.cell 2 _ rfl
          have j2 := HXs.out.cell 2 _ rfl
          have k3 := HVs.out.cell 3 _ rfl
          have j3 := HXs.out.cell 3 _ rfl
          go_wp2_with fail
          clear k0 j0 k1 j1 k2 j2 k3 j3
          refine HC.out.mono ?_
          rintro e ws3 ⟨rfl, hb⟩
          have HXm2 := Lib.hid (HXm.out.below hb HXm.out.size); clear HXm; have HXm := HXm2; clear HXm2
          have HXt2 := Lib.hid (HXt.out.below hb HXt.out.size); clear HXt; have HXt := HXt2; clear HXt2
          have HXb2 := Lib.hid (HXb.out.below hb HXb.out.size); clear HXb; have HXb := HXb2; clear HXb2
          have HXs2 := Lib.hid (HXs.out.below hb HXs.out.size); clear HXs; have HXs := HXs2; clear HXs2
          have HVm2 := Lib.hid (HVm.out.below hb HVm.out.size); clear HVm; have HVm := HVm2; clear HVm2
          have HVt2 := Lib.hid (HVt.out.below hb HVt.out.size); clear HVt; have HVt := HVt2; clear HVt2
          have HVb2 := Lib.hid (HVb.out.below hb HVb.out.size); clear HVb; have HVb := HVb2; clear HVb2
          have HVs2 := Lib.hid (HVs.out.below hb HVs.out.size); clear HVs; have HVs := HVs2; clear HVs2
          have HRm02 := Lib.hid (HRm0.out.next hb); clear HRm0; have HRm0 := HRm02; clear HRm02
          have HRt02 := Lib.hid (HRt0.out.next hb); clear HRt0; have HRt0 := HRt02; clear HRt02
          have HRt12 := Lib.hid (HRt1.out.next hb); clear HRt1; have HRt1 := HRt12; clear HRt12
          have HRb02 := Lib.hid (HRb0.out.next hb); clear HRb0; have HRb0 := HRb02; clear HRb02
          have HRs02 := Lib.hid (HRs0.out.next hb); clear HRs0; have HRs0 := HRs02; clear HRs02
          have HUm2 := Lib.hid (HUm.out.next hb); clear HUm; have HUm := HUm2; clear HUm2
          have HUt2 := Lib.hid (HUt.out.next hb); clear HUt; have HUt := HUt2; clear HUt2
          have HUb2 := Lib.hid (HUb.out.next hb); clear HUb; have HUb := HUb2; clear HUb2
          have HUs2 := Lib.hid (HUs.out.next hb); clear HUs; have HUs := HUs2; clear HUs2
          have HYm02 := Lib.hid (HYm0.out.next hb); clear HYm0; have HYm0 := HYm02; clear HYm02
          have HYt02 := Lib.hid (HYt0.out.next hb); clear HYt0; have HYt0 := HYt02; clear HYt02
          have HYt12 := Lib.hid (HYt1.out.next hb); clear HYt1; have HYt1 := HYt12; clear HYt12
          have HYb02 := Lib.hid (HYb0.out.next hb); clear HYb0; have HYb0 := HYb02; clear HYb02
          have HYs02 := Lib.hid (HYs0.out.next hb); clear HYs0; have HYs0 := HYs02; clear HYs02
          have HB2 := Lib.hid (HB.out.trans (hb.mono HB.out.size)); clear HB; have HB := HB2; clear HB2
          clear hb HC
          go_wp2_with fail
          go_ret
          exact ⟨rfl, HB.out⟩
        · subst he
          clear HDs
          go_wp2_with fail
          go_ret
          exact ⟨rfl, HB.out⟩
      · subst he
        clear HDb
        rcases HDs.out with ⟨he, hd⟩ | he
        · subst he
          injection hd with h1 h2
          subst h1 h2
          clear HDs
          have hc := sameS_eq s' hs3 _ _ _ HYs0.out HRs0.out
          simp only [sval] at hc
          have HC := Lib.hid hc; clear hc
          have k0 := HVs.out.cell 0 _ rfl
          have j0 := HXs.out.cell 0 _ rfl
          have k1 := HVs.out.cell 1 _ rfl
          have j1 := HXs.out.cell 1 _ rfl
          have k2 := HVs.out.cell 2 _ rfl
          have j2 := HXs.out.cell 2 _ rfl
          have k3 := HVs.out.cell 3 _ rfl
          have j3 := HXs.out.cell 3 _ rfl
          go_wp2_with fail
          clear k0 j0 k1 j1 k2 j2 k3 j3
          refine HC.out.mono ?_
          rintro e ws3 ⟨rfl, hb⟩
          have HXm2 := Lib.hid (HXm.out.below hb HXm.out.size); clear HXm; have HXm := HXm2; clear HXm2
          have HXt2 := Lib.hid (HXt.out.below hb HXt.out.size); clear HXt; have HXt := HXt2; clear HXt2
          have HXb2 := Lib.hid (HXb.out.below hb HXb.out.size); clear HXb; have HXb := HXb2; clear HXb2
          have HXs2 := Lib.hid (HXs.out.below hb HXs.out.size); clear HXs; have HXs := HXs2; clear HXs2
          have HVm2 := Lib.hid (HVm.out.below hb HVm.out.size); clear HVm; have HVm := HVm2; clear HVm2
          have HVt2 := Lib.hid (HVt.out.below hb HVt.out.size); clear HVt; have HVt := HVt2; clear HVt2
          have HVb2 := Lib.hid (HVb.out.below hb HVb.out.size); clear HVb; have HVb := HVb2; clear HVb2
          have HVs2 := Lib.hid (HVs.out.below hb HVs.out.size); clear HVs; have HVs := HVs2; clear HVs2
          have HRm02 := Lib.hid (HRm0.out.next hb); clear HRm0; have HRm0 := HRm02; clear HRm02
          have HRt02 := Lib.hid (HRt0.out.next hb); clear HRt0; have HRt0 := HRt02; clear HRt02
          have HRt12 := Lib.hid (HRt1.out.next hb); clear HRt1; have HRt1 := HRt12; clear HRt12
          have HRb02 := Lib.hid (HRb0.out.next hb); clear HRb0; have HRb0 := HRb02; clear HRb02
          have HRs02 := Lib.hid (HRs0.out.next hb); clear HRs0; have HRs0 := HRs02; clear HRs02
          have HUm2 := Lib.hid (HUm.out.next hb); clear HUm; have HUm := HUm2; clear HUm2
          have HUt2 := Lib.hid (HUt.out.next hb); clear HUt; have HUt := HUt2; clear HUt2
          have HUb2 := Lib.hid (HUb.out.next hb); clear HUb; have HUb := HUb2; clear HUb2
          have HUs2 := Lib.hid (HUs.out.next hb); clear HUs; have HUs := HUs2; clear HUs2
          have HYm02 := Lib.hid (HYm0.out.next hb); clear HYm0; have HYm0 := HYm02; clear HYm02
          have HYt02 := Lib.hid (HYt0.out.next hb); clear HYt0; have HYt0 := HYt02; clear HYt02
          have HYt12 := Lib.hid (HYt1.out.next hb); clear HYt1; have HYt1 := HYt12; clear HYt12
          have HYb02 := Lib.hid (HYb0.out.next hb); clear HYb0; have HYb0 := HYb02; clear HYb02
          have HYs02 := Lib.hid (HYs0.out.next hb); clear HYs0; have HYs0 := HYs02; clear HYs02
          have HB2 := Lib.hid (HB.out.trans (hb.mono HB.out.size)); clear HB; have HB := HB2; clear HB2
          clear hb HC
          go_wp2_with fail
          go_ret
          exact ⟨rfl, HB.out⟩
        · subst he
          clear HDs
          go_wp2_with fail
          go_ret
          exact ⟨rfl, HB.out⟩
    · subst he
      clear HDt
      rcases HDb.out with ⟨he, hd⟩ | he
      · subst he
        injection hd with h1 h2
        subst h1 h2
        clear HDb
        have hc := sameB_eq b' hl2.1 _ _ _ HYb0.out HRb0.out
        simp only [bval] at hc
        have HC := Lib.hid hc; clear hc
        have k0 := HVb.out.cell 0 _ rfl
        have j0 := HXb.out.cell 0 _ rfl
        have k1 := HVb.out.cell 1 _ rfl
        have j1 := HXb.out.cell 1 _ rfl
        have k2 := HVb.out.cell 2 _ rfl
        have j2 := HXb.out.cell 2 _ rfl
        have k3 := HVb.out.cell 3 _ rfl
        have j3 := HXb.out.cell 3 _ rfl
        go_wp2_with fail
        clear k0 j0 k1 j1 k2 j2 k3 j3
        refine HC.out.mono ?_
        rintro e ws2 ⟨rfl, hb⟩
        have HXm2 := Lib.hid (HXm.out.below hb HXm.out.size); clear HXm; have HXm := HXm2; clear HXm2
        have HXt2 := Lib.hid (HXt.out.below hb HXt.out.size); clear HXt; have HXt := HXt2; clear HXt2
        have HXb2 := Lib.hid (HXb.out.below hb HXb.out.size); clear HXb; have HXb := HXb2; clear HXb2
        have HXs2 := Lib.hid (HXs.out.below hb HXs.out.size); clear HXs; have HXs := HXs2; clear HXs2
        have HVm2 := Lib.hid (HVm.out.below hb HVm.out.size); clear HVm; have HVm := HVm2; clear HVm2
        have HVt2 := Lib.hid (HVt.out.below hb HVt.out.size); clear HVt; have HVt := HVt2; clear HVt2
        have HVb2 := Lib.hid (HVb.out.below hb HVb.out.size); clear HVb; have HVb := HVb2; clear HVb2
        have HVs2 := Lib.hid (HVs.out.below hb HVs.out.size); clear HVs; have HVs := HVs2; clear HVs2
        have HRm02 := Lib.hid (HRm0.out.next hb); clear HRm0; have HRm0 := HRm02; clear HRm02
        have HRt02 := Lib.hid (HRt0.out.next hb); clear HRt0; have HRt0 := HRt02; clear HRt02
        have HRt12 := Lib.hid (HRt1.out.next hb); clear HRt1; have HRt1 := HRt12; clear HRt12
        have HRb02 := Lib.hid (HRb0.out.next hb); clear HRb0; have HRb0 := HRb02; clear HRb02
        have HRs02 := Lib.hid (HRs0.out.next hb); clear HRs0; have HRs0 := HRs02; clear HRs02
        have HUm2 := Lib.hid (HUm.out.next hb); clear HUm; have HUm := HUm2; clear HUm2
        have HUt2 := Lib.hid (HUt.out.next hb); clear HUt; have HUt := HUt2; clear HUt2
        have HUb2 := Lib.hid (HUb.out.next hb); clear HUb; have HUb := HUb2; clear HUb2
        have HUs2 := Lib.hid (HUs.out.next hb); clear HUs; have HUs := HUs2; clear HUs2
        have HYm02 := Lib.hid (HYm0.out.next hb); clear HYm0; have HYm0 := HYm02; clear HYm02
        have HYt02 := Lib.hid (HYt0.out.next hb); clear HYt0; have HYt0 := HYt02; clear HYt02
        have HYt12 := Lib.hid (HYt1.out.next hb); clear HYt1; have HYt1 := HYt12; clear HYt12
        have HYb02 := Lib.hid (HYb0.out.next hb); clear HYb0; have HYb0 := HYb02; clear HYb02
        have HYs02 := Lib.hid (HYs0.out.next hb); clear HYs0; have HYs0 := HYs02; clear HYs02
        have HB2 := Lib.hid (HB.out.trans (hb.mono HB.out.size)); clear HB; have HB := HB2; clear HB2
        clear hb HC
        rcases HDs.out with ⟨he, hd⟩ | he
        · subst he
          injection hd with h1 h2
          subst h1 h2
          clear HDs
          have hc := sameS_eq s' hs3 _ _ _ HYs0.out HRs0.out
          simp only [sval] at hc
          have HC := Lib.hid hc; clear hc
          have k0 := HVs.out.cell 0 _ rfl
          have j0 := HXs.out.cell 0 _ rfl
          have k1 := HVs.out.cell 1 _ rfl
          have j1 := HXs.out.cell 1 _ rfl
          have k2 := HVs.out.cell 2 _ rfl
          have j2 := HXs.out.cell 2 _ rfl
          have k3 := HVs.out.cell 3 _ rfl
          have j3 := HXs.out.cell 3 _ rfl
          go_wp2_with fail
          clear k0 j0 k1 j1 k2 j2 k3 j3
          refine HC.out.mono ?_
          rintro e ws3 ⟨rfl, hb⟩
          have HXm2 := Lib.hid (HXm.out.below hb HXm.out.size); clear HXm; have HXm := HXm2; clear HXm2
          have HXt2 := Lib.hid (HXt.out.below hb HXt.out.size); clear HXt; have HXt := HXt2; clear HXt2
          have HXb2 := Lib.hid (HXb.out.below hb HXb.out.size); clear HXb; have HXb := HXb2; clear HXb2
          have HXs2 := Lib.hid (HXs.out.below hb HXs.out.size); clear HXs; have HXs := HXs2; clear HXs2
          have HVm2 := Lib.hid (HVm.out.below hb HVm.out.size); clear HVm; have HVm := HVm2; clear HVm2
          have HVt2 := Lib.hid (HVt.out.below hb HVt.out.size); clear HVt; have HVt := HVt2; clear HVt2
          have HVb2 := Lib.hid (HVb.out.below hb HVb.out.size); clear HVb; have HVb := HVb2; clear HVb2
          have HVs2 := Lib.hid (HVs.out.below hb HVs.out.size); clear HVs; have HVs := HVs2; clear HVs2
          have HRm02 := Lib.hid (HRm0.out.next hb); clear HRm0; have HRm0 := HRm02; clear HRm02
          have HRt02 := Lib.hid (HRt0.out.next hb); clear HRt0; have HRt0 := HRt02; clear HRt02
          have HRt12 := Lib.hid (HRt1.out.next hb); clear HRt1; have HRt1 := HRt12; clear HRt12
          have HRb02 := Lib.hid (HRb0.out.next hb); clear HRb0; have HRb0 := HRb02; clear HRb02
          have HRs02 := Lib.hid (HRs0.out.next hb); clear HRs0; have HRs0 := HRs02; clear HRs02
          have HUm2 := Lib.hid (HUm.out.next hb); clear HUm; have HUm := HUm2; clear HUm2
          have HUt2 := Lib.hid (HUt.out.next hb); clear HUt; have HUt := HUt2; clear HUt2
          have HUb2 := Lib.hid (HUb.out.next hb); clear HUb; have HUb := HUb2; clear HUb2
          have HUs2 := Lib.hid (HUs.out.next hb); clear HUs; have HUs := HUs2; clear HUs2
          have HYm02 := Lib.hid (HYm0.out.next hb); clear HYm0; have HYm0 := HYm02; clear HYm02
          have HYt02 := Lib.hid (HYt0.out.next hb); clear HYt0; have HYt0 := HYt02; clear HYt02
          have HYt12 := Lib.hid (HYt1.out.next hb); clear HYt1; have HYt1 := HYt12; clear HYt12
          have HYb02 := Lib.hid (HYb0.out.next hb); clear HYb0; have HYb0 := HYb02; clear HYb02
          have HYs02 := Lib.hid (HYs0.out.next hb); clear HYs0; have HYs0 := HYs02; clear HYs02
          have HB2 := Lib.hid (HB.out.trans (hb.mono HB.out.size)); clear HB; have HB := HB2; clear HB2
          clear hb HC
          go_wp2_with fail
          go_ret
          exact ⟨rfl, HB.out⟩
        · subst he
          clear HDs
          go_wp2_with fail
          go_ret
          exact ⟨rfl, HB.out⟩
      · subst he
        clear HDb
        rcases HDs.out with ⟨he, hd⟩ | he
        · subst he
          injection hd with h1 h2
          subst h1 h2
          clear HDs
          have hc := sameS_eq s' hs3 _ _ _ HYs0.out HRs0.out
          simp only [sval] at hc
          have HC := Lib.hid hc; clear hc
          have k0 := HVs.out.cell 0 _ rfl
          have j0 := HXs.out.cell 0 _ rfl
          have k1 := HVs.out.cell 1 _ rfl
          have j1 := HXs.out.cell 1 _ rfl
          have k2 := HVs.out.cell 2 _ rfl
          have j2 := HXs.out.cell 2 _ rfl
          have k3 := HVs.out.cell 3 _ rfl
          have j3 := HXs.out.cell 3 _ rfl
          go_wp2_with fail
          clear k0 j0 k1 j1 k2 j2 k3 j3
          refine HC.out.mono ?_
          rintro e ws3 ⟨rfl, hb⟩
          have HXm2 := Lib.hid (HXm.out.below hb HXm.out.size); clear HXm; have HXm := HXm2; clear HXm2
          have HXt2 := Lib.hid (HXt.out.below hb HXt.out.size); clear HXt; have HXt := HXt2; clear HXt2
          have HXb2 := Lib.hid (HXb.out.below hb HXb.out.size); clear HXb; have HXb := HXb2; clear HXb2
          have HXs2 := Lib.hid (HXs.out.below hb HXs.out.size); clear HXs; have HXs := HXs2; clear HXs2
          have HVm2 := Lib.hid (HVm.out.below hb HVm.out.size); clear HVm; have HVm := HVm2; clear HVm2
          have HVt2 := Lib.hid (HVt.out.below hb HVt.out.size); clear HVt; have HVt := HVt2; clear HVt2
          have HVb2 := Lib.hid (HVb.out.below hb HVb.out.size); clear HVb; have HVb := HVb2; clear HVb2
          have HVs2 := Lib.hid (HVs.out.below hb HVs.out.size); clear HVs; have HVs := HVs2; clear HVs2
          have HRm02 := Lib.hid (HRm0.out.next hb); clear HRm0; have HRm0 := HRm02; clear HRm02
          have HRt02 := Lib.hid (HRt0.out.next hb); clear HRt0; have HRt0 := HRt02; clear HRt02
          have HRt12 := Lib.hid (HRt1.out.next hb); clear HRt1; have HRt1 := HRt12; clear HRt12
          have HRb02 := Lib.hid (HRb0.out.next hb); clear HRb0; have HRb0 := HRb02; clear HRb02
          have HRs02 := Lib.hid (HRs0.out.next hb); clear HRs0; have HRs0 := HRs02; clear HRs02
          have HUm2 := Lib.hid (HUm.out.next hb); clear HUm; have HUm := HUm2; clear HUm2
          have HUt2 := Lib.hid (HUt.out.next hb); clear HUt; have HUt := HUt2; clear HUt2
          have HUb2 := Lib.hid (HUb.out.next hb); clear HUb; have HUb := HUb2; clear HUb2
          have HUs2 := Lib.hid (HUs.out.next hb); clear HUs; have HUs := HUs2; clear HUs2
          have HYm02 := Lib.hid (HYm0.out.next hb); clear HYm0; have HYm0 := HYm02; clear HYm02
          have HYt02 := Lib.hid (HYt0.out.next hb); clear HYt0; have HYt0 := HYt02; clear HYt02
          have HYt12 := Lib.hid (HYt1.out.next hb); clear HYt1; have HYt1 := HYt12; clear HYt12
          have HYb02 := Lib.hid (HYb0.out.next hb); clear HYb0; have HYb0 := HYb02; clear HYb02
          have HYs02 := Lib.hid (HYs0.out.next hb); clear HYs0; have HYs0 := HYs02; clear HYs02
          have HB2 := Lib.hid (HB.out.trans (hb.mono HB.out.size)); clear HB; have HB := HB2; clear HB2
          clear hb HC
          go_wp2_with fail
          go_ret
          exact ⟨rfl, HB.out⟩
        · subst he
          clear HDs
          go_wp2_with fail
          go_ret
          exact ⟨rfl, HB.out⟩
end Go.Proofs.Ytiijcikdlemndaa

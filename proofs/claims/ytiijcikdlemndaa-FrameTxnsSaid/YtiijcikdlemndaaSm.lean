/- The reference: whether a batch, a state is sound; the same of the same. -/
import Derived.Test.YtiijcikdlemndaaRRd
import Derived.Test.YtiijcikdlemndaaRInts
namespace Go.Proofs.Ytiijcikdlemndaa
open Go.RowKit
attribute [local go_sem] less_eq same_eq le_eq ge_eq gt_eq

set_option maxHeartbeats 2000000 in
set_option maxRecDepth 100000 in
theorem rsoundB_any (x : Bat) (hft : fitB x) (v : Value) (w : World) (hv : RdC w w.heap.size v x.chgs) :
    Calls Try.prog 58 #[bval x v] w fun e w' => e = .returned (.bool (decide (soundB x))) ∧ Below w.heap.size w w' := by
  obtain ⟨h1, h2⟩ := hft
  obtain ⟨a, b, c, chgs⟩ := x
  obtain ⟨R, hR⟩ : ∃ R, R = decide (soundB ⟨a, b, c, chgs⟩) := ⟨_, rfl⟩
  rw [← hR]
  unfold soundB at hR
  unfold bval
  simp only at hR h1 h2 hv ⊢
  have hF := fun W B h => least_any [a, b, c] (.slice (some ⟨w.heap.size + 1, 0, none⟩) 3 3) W B h (by simp)
  have hi1 := RdI.lit (w.alloc (.cells #[.int .i64 a, .int .i64 b, .int .i64 c, v] 43)) [a, b, c]
  simp only [World.size_alloc, List.map_cons, List.map_nil, List.length_cons, List.length_nil] at hi1
  have hb2 : Below w.heap.size w ((w.alloc (.cells #[.int .i64 a, .int .i64 b, .int .i64 c, v] 43)).alloc (.cells #[.int .i64 a, .int .i64 b, .int .i64 c] 3)) := ((Below.refl _ _).alloc (Nat.le_refl _) _).alloc (by simp) _
  have hA := rall_any chgs h2 v _ (hv.next hb2) h1
  obtain ⟨D1, hD1⟩ : ∃ D1, D1 = decide (∀ n ∈ [a, b, c], 0 ≤ n) := ⟨_, rfl⟩
  rw [← hD1] at hF
  have e1 : (∀ n ∈ [a, b, c], 0 ≤ n) ↔ 0 ≤ a ∧ 0 ≤ b ∧ 0 ≤ c := by simp
  have hRR : R = (D1 && (decide (chgs.length ≤ 4096) && decide (allAns chgs = 0))) := by
    rw [hR, hD1, ← Bool.decide_and, ← Bool.decide_and]
    exact decide_eq_decide.2 ⟨fun h => ⟨e1.2 h.1, h.2⟩, fun h => ⟨e1.1 h.1, h.2⟩⟩
  generalize allAns chgs = q at hA hRR
  have HF := Lib.hid (hF _ _ hi1); clear hF hi1
  have HA := Lib.hid hA; clear hA
  have HB2 := Lib.hid hb2; clear hb2
  have HRR := Lib.hid hRR; clear hRR
  obtain ⟨A1, c1, rfl, _, _⟩ := hv.at
  clear hR hD1 e1 hv h2
  go_enter Try.func58, Try.ntmps58
  go_wp2_with fail
  refine HF.out.mono ?_
  rintro e w1 ⟨rfl, rfl⟩
  cases D1 with
  | false =>
    go_wp2_with fail
    go_ret
    exact ⟨by rw [HRR.out]; rfl, HB2.out⟩
  | true =>
    by_cases h16 : chgs.length ≤ 4096
    · have hr : R = decide (q = 0) := by rw [HRR.out, decide_eq_true h16]; simp
      have HR2 := Lib.hid hr; clear hr
      have h16i : (chgs.length : Int) ≤ 4096 := by omega
      go_wp2_with fail
      refine HA.out.mono ?_
      rintro e w3 ⟨rfl, hb3⟩
      have HB3 := Lib.hid (show Below w.heap.size w w3 from HB2.out.trans (hb3.mono (by simp; omega))); clear hb3
      by_cases hq : q = 0
      · subst hq
        go_wp2_with fail
        go_ret
        exact ⟨by rw [HR2.out]; rfl, HB3.out⟩
      · have hr : R = false := by rw [HR2.out]; exact decide_eq_false hq
        have HR3 := Lib.hid hr; clear hr
        go_wp2_with fail
        go_ret
        have hqb : (q == 0) = false := by simp [hq]
        exact ⟨by rw [HR3.out]; show Ending.returned (Value.bool (q == 0)) = _; rw [hqb], HB3.out⟩
    · have hr : R = false := by rw [HRR.out, decide_eq_false h16]; simp
      have HR2 := Lib.hid hr; clear hr
      have h16i : ¬ (chgs.length : Int) ≤ 4096 := by omega
      go_wp2_with fail
      go_ret
      exact ⟨by rw [HR2.out]; rfl, HB2.out⟩

set_option maxHeartbeats 2000000 in
set_option maxRecDepth 100000 in
theorem rsoundS_any (x : Sta) (hl : x.chests.length < 4611686018427387904) (v : Value) (w : World) (hv : RdI w w.heap.size v x.chests) :
    Calls Try.prog 60 #[sval x v] w fun e w' => e = .returned (.bool (decide (soundS x))) ∧ Below w.heap.size w w' := by
  obtain ⟨a, b, c, l⟩ := x
  obtain ⟨R, hR⟩ : ∃ R, R = decide (soundS ⟨a, b, c, l⟩) := ⟨_, rfl⟩
  rw [← hR]
  unfold soundS at hR
  unfold sval
  simp only at hR hl hv ⊢
  have hF := fun W B h => least_any [a, b, c] (.slice (some ⟨w.heap.size + 1, 0, none⟩) 3 3) W B h (by simp)
  have hi1 := RdI.lit (w.alloc (.cells #[.int .i64 a, .int .i64 b, .int .i64 c, v] 51)) [a, b, c]
  simp only [World.size_alloc, List.map_cons, List.map_nil, List.length_cons, List.length_nil] at hi1
  obtain ⟨A1, c1, rfl, _, hi⟩ := hv.at
  have hb2 : Below w.heap.size w ((w.alloc (.cells #[.int .i64 a, .int .i64 b, .int .i64 c, .slice A1 l.length c1] 51)).alloc (.cells #[.int .i64 a, .int .i64 b, .int .i64 c] 3)) := ((Below.refl _ _).alloc (Nat.le_refl _) _).alloc (by simp) _
  have hA := least_any l (.slice A1 l.length c1) _ _ (hv.next hb2) hl
  obtain ⟨D1, hD1⟩ : ∃ D1, D1 = decide (∀ n ∈ [a, b, c], 0 ≤ n) := ⟨_, rfl⟩
  obtain ⟨D2, hD2⟩ : ∃ D2, D2 = decide (∀ n ∈ l, 0 ≤ n) := ⟨_, rfl⟩
  rw [← hD1] at hF
  rw [← hD2] at hA
  have e1 : (∀ n ∈ [a, b, c], 0 ≤ n) ↔ 0 ≤ a ∧ 0 ≤ b ∧ 0 ≤ c := by simp
  have hno : ¬ (D1 = true ∧ D2 = true ∧ l.length ≤ 16 ∧ ∀ n ∈ l, n ≤ 255) → R = false := fun h => by
    rw [hR]
    exact decide_eq_false fun hs => h ⟨by rw [hD1]; exact decide_eq_true (e1.2 hs.1), by rw [hD2]; exact decide_eq_true fun n hn => (hs.2.2 n hn).1, hs.2.1, fun n hn => (hs.2.2 n hn).2⟩
  have hyes : D1 = true ∧ D2 = true ∧ l.length ≤ 16 ∧ (∀ n ∈ l, n ≤ 255) → R = true := fun h => by
    rw [hR]
    have h2 : ∀ n ∈ l, 0 ≤ n := of_decide_eq_true (hD2 ▸ h.2.1)
    exact decide_eq_true ⟨e1.1 (of_decide_eq_true (hD1 ▸ h.1)), h.2.2.1, fun n hn => ⟨h2 n hn, h.2.2.2 n hn⟩⟩
  have HNO := Lib.hid hno; clear hno
  have HYES := Lib.hid hyes; clear hyes
  have HF := Lib.hid (hF _ _ hi1); clear hF hi1
  have HA := Lib.hid hA; clear hA
  have HB2 := Lib.hid hb2; clear hb2
  have HI := Lib.hid hi; clear hi
  clear hR hD1 hD2 e1 hv
  go_enter Try.func60, Try.ntmps60
  go_wp2_with fail
  refine HF.out.mono ?_
  rintro e w1 ⟨rfl, rfl⟩
  cases D1 with
  | false =>
    have hr := HNO.out (by simp)
    have HR2 := Lib.hid hr; clear hr
    go_wp2_with fail
    go_ret
    exact ⟨by rw [HR2.out]; rfl, HB2.out⟩
  | true =>
    go_wp2_with fail
    refine HA.out.mono ?_
    rintro e w3 ⟨rfl, rfl⟩
    cases D2 with
    | false =>
      have hr := HNO.out (by simp)
      have HR2 := Lib.hid hr; clear hr
      go_wp2_with fail
      go_ret
      exact ⟨by rw [HR2.out]; rfl, HB2.out⟩
    | true =>
      by_cases h16 : (16 : Int) < (l.length : Int)
      · have hr := HNO.out (fun h => by have := h.2.2.1; omega)
        have HR2 := Lib.hid hr; clear hr
        go_wp2_with fail
        go_ret
        exact ⟨by rw [HR2.out]; rfl, HB2.out⟩
      · go_wp2_with fail
        go_loopw [3] (fun iv wr => ∃ i : Nat, i ≤ l.length ∧ iv = .int .i64 i ∧ Below (w.heap.size + 1) (w.alloc (.cells #[.int .i64 a, .int .i64 b, .int .i64 c, .slice A1 l.length c1] 51)) wr ∧ Below w.heap.size w wr ∧ Hid (∀ n ∈ l.take i, n ≤ 255)) (fun iv _ => l.length - (intOf iv).toNat)
        case atStart => exact ⟨0, Nat.zero_le _, rfl, (Below.refl _ _).alloc (by simp) _, HB2.out, Lib.hid (by simp)⟩
        case round =>
          obtain ⟨i, hil, rfl, hbr, hbw, HALL⟩ := hrel
          have p1 := box_cell hbr 3 _ rfl
          have HBR := Lib.hid hbr; clear hbr
          have HBW := Lib.hid hbw; clear hbw
          by_cases hlt : i < l.length
          · obtain ⟨b', o, rfl, hbB, k0⟩ := HI.out i hlt
            rw [← HBW.out.cell (p := ⟨b', _, none⟩) hbB] at k0
            have hyes : l[i] ≤ 255 → ∀ n ∈ l.take (i + 1), n ≤ 255 := fun h n hn => by
              rw [List.take_add_one, List.getElem?_eq_getElem hlt, List.mem_append] at hn
              rcases hn with hn | hn
              · exact HALL.out n hn
              · simp only [Option.toList_some, List.mem_singleton] at hn; rw [hn]; exact h
            have hno : ¬ l[i] ≤ 255 → R = false := fun h => HNO.out fun hall => h (hall.2.2.2 _ (List.getElem_mem hlt))
            generalize l[i] = z at k0 hyes hno
            have HY := Lib.hid hyes; clear hyes
            have HN := Lib.hid hno; clear hno
            by_cases hz : 255 < z
            · have hf := HN.out (by omega)
              have HF2 := Lib.hid hf; clear hf
              go_wp2_with fail
              go_ret
              exact ⟨by rw [HF2.out]; rfl, HBW.out⟩
            · have hok := HY.out (by omega)
              have HOK := Lib.hid hok; clear hok
              go_wp2_with fail
              go_roundw
              case rel => exact ⟨i + 1, by omega, by go_num, HBR.out, HBW.out, Lib.hid HOK.out⟩
              case measure => simp [intOf]; omega
          · have hd : R = true := HYES.out ⟨by simp, by simp, by omega, by
              have := HALL.out
              rwa [List.take_of_length_le (by omega)] at this⟩
            have HD2 := Lib.hid hd; clear hd
            go_wp2_with fail
            go_ret
            exact ⟨by rw [HD2.out]; rfl, HBW.out⟩

set_option maxHeartbeats 2000000 in
set_option maxRecDepth 100000 in
theorem sameM_eq (m : Msg) (v1 v2 : Value) (w : World) (hv1 : RdB w w.heap.size v1 m.body) (hv2 : RdB w w.heap.size v2 m.body) :
    Calls Try.prog 14 #[mval m v1, mval m v2] w fun e w' => e = .returned (.bool true) ∧ Below w.heap.size w w' := by
  obtain ⟨A1, c1, rfl, _, _⟩ := hv1.at
  obtain ⟨A2, c2, rfl, _, _⟩ := hv2.at
  obtain ⟨k, f, t, e0, a, b, c, body⟩ := m
  unfold mval
  simp only at hv1 hv2 ⊢
  have hb : ∀ o1 o2, Below w.heap.size w ((w.alloc o1).alloc o2) := fun o1 o2 => ((Below.refl _ _).alloc (Nat.le_refl _) _).alloc (by simp) _
  have hc1 := run_convB (hv1.below (hb (.cells #[.int .i64 k, .int .i64 f, .int .i64 t, .int .i64 e0, .int .i64 a, .int .i64 b, .int .i64 c, .slice A1 body.length c1] 24) (.cells #[.int .i64 k, .int .i64 f, .int .i64 t, .int .i64 e0, .int .i64 a, .int .i64 b, .int .i64 c, .slice A2 body.length c2] 24)) (Nat.le_refl _))
  have hc2 := run_convB (hv2.below (hb (.cells #[.int .i64 k, .int .i64 f, .int .i64 t, .int .i64 e0, .int .i64 a, .int .i64 b, .int .i64 c, .slice A1 body.length c1] 24) (.cells #[.int .i64 k, .int .i64 f, .int .i64 t, .int .i64 e0, .int .i64 a, .int .i64 b, .int .i64 c, .slice A2 body.length c2] 24)) (Nat.le_refl _))
  have HB := Lib.hid hb; clear hb hv1 hv2
  go_enter Try.func14, Try.ntmps14
  go_wp2_with fail
  go_ret
  exact ⟨rfl, HB.out _ _⟩

set_option maxHeartbeats 2000000 in
set_option maxRecDepth 100000 in
theorem sameS_eq (x : Sta) (hl : x.chests.length < 4611686018427387904) (v1 v2 : Value) (w : World) (hv1 : RdI w w.heap.size v1 x.chests) (hv2 : RdI w w.heap.size v2 x.chests) :
    Calls Try.prog 29 #[sval x v1, sval x v2] w fun e w' => e = .returned (.bool true) ∧ Below w.heap.size w w' := by
  obtain ⟨A1, c1, rfl, _, _⟩ := hv1.at
  obtain ⟨A2, c2, rfl, _, _⟩ := hv2.at
  obtain ⟨a, b, c, l⟩ := x
  unfold sval
  simp only at hv1 hv2 hl ⊢
  have hb : Below w.heap.size w ((w.alloc (.cells #[.int .i64 a, .int .i64 b, .int .i64 c, .slice A1 l.length c1] 51)).alloc (.cells #[.int .i64 a, .int .i64 b, .int .i64 c, .slice A2 l.length c2] 51)) := ((Below.refl _ _).alloc (Nat.le_refl _) _).alloc (by simp) _
  have hs := ints_any l l _ _ _ (hv1.next hb) (hv2.next hb) hl hl
  rw [decide_eq_true rfl] at hs
  have HS := Lib.hid hs; clear hs
  have HB := Lib.hid hb; clear hb hv1 hv2
  go_enter Try.func29, Try.ntmps29
  go_wp2_with fail
  refine HS.out.mono ?_
  rintro e w3 ⟨rfl, hb3⟩
  have HB3 := Lib.hid (show Below w.heap.size w w3 from HB.out.trans (hb3.mono (by simp; omega))); clear hb3
  go_wp2_with fail
  go_ret
  exact ⟨rfl, HB3.out⟩

set_option maxHeartbeats 2000000 in
set_option maxRecDepth 100000 in
theorem sameB_eq (x : Bat) (hl : x.chgs.length < 4611686018427387904) (v1 v2 : Value) (w : World) (hv1 : RdC w w.heap.size v1 x.chgs) (hv2 : RdC w w.heap.size v2 x.chgs) :
    Calls Try.prog 24 #[bval x v1, bval x v2] w fun e w' => e = .returned (.bool true) ∧ Below w.heap.size w w' := by
  obtain ⟨A1, c1, rfl, _, _⟩ := hv1.at
  obtain ⟨A2, c2, rfl, _, _⟩ := hv2.at
  obtain ⟨a, b, c, l⟩ := x
  unfold bval
  simp only at hv1 hv2 hl ⊢
  have hb : Below w.heap.size w ((w.alloc (.cells #[.int .i64 a, .int .i64 b, .int .i64 c, .slice A1 l.length c1] 43)).alloc (.cells #[.int .i64 a, .int .i64 b, .int .i64 c, .slice A2 l.length c2] 43)) := ((Below.refl _ _).alloc (Nat.le_refl _) _).alloc (by simp) _
  have hs := chgs_any l l _ _ _ (hv1.next hb) (hv2.next hb) hl hl
  rw [decide_eq_true rfl] at hs
  have HS := Lib.hid hs; clear hs
  have HB := Lib.hid hb; clear hb hv1 hv2
  go_enter Try.func24, Try.ntmps24
  go_wp2_with fail
  refine HS.out.mono ?_
  rintro e w3 ⟨rfl, hb3⟩
  have HB3 := Lib.hid (show Below w.heap.size w w3 from HB.out.trans (hb3.mono (by simp; omega))); clear hb3
  go_wp2_with fail
  go_ret
  exact ⟨rfl, HB3.out⟩
theorem span_guard : Try.prog.eqGuardType Try.prog.depth 83 = false := by kernel_rfl
set_option maxRecDepth 100000 in
theorem eql_span (a b c d : K) (W : World) : (binOp .eql 83 (.agg #[.string a, .string b]) (.agg #[.string c, .string d])).run Try.prog W = .ok (.bool (decide (a = c) && decide (b = d))) W := by
  have hS : Try.prog.underlying 83 = some (.struct (Try.prog.fieldsOf 83)) := by kernel_rfl
  have hp : Try.prog.stoodInHeld 83 = false := by kernel_rfl
  have u0 := Try.underlying9
  have ag0 := Try.isAgg9
  have sz0 := Try.sizeOf9
  rw [run_eql_struct, show (10000 : Nat) = 9999 + 1 from rfl, run_equalIn_agg W 9999 83 _ _ hS hp]
  simp only [Program.fieldsOf, Try.underlying83]
  go_simp
  by_cases h1 : a = c <;> by_cases h2 : b = d <;> simp [h1, h2]
set_option maxRecDepth 100000 in
theorem neq_span (a b c d : K) (W : World) : (binOp .neq 83 (.agg #[.string a, .string b]) (.agg #[.string c, .string d])).run Try.prog W = .ok (.bool (!(decide (a = c) && decide (b = d)))) W := by
  have h := eql_span a b c d W
  rw [run_eql_struct] at h
  rw [run_neq_struct]
  cases hr : (Op.equalIn 10000 83 (.agg #[.string a, .string b]) (.agg #[.string c, .string d])).run Try.prog W with
  | ok x w' => rw [hr] at h; simp only [Result.andThen] at h ⊢; injection h with h1 h2; subst h2; injection h1 with h1; rw [h1]
  | halt x w' => rw [hr] at h; simp [Result.andThen] at h

set_option maxHeartbeats 4000000 in
set_option maxRecDepth 100000 in
theorem sameT_eq (t : Txn) (hft : fitT t) (v1 v2 u1 u2 : Value) (w : World) (hv1 : RdP w w.heap.size v1 t.reads) (hv2 : RdC w w.heap.size v2 t.chgs) (hu1 : RdP w w.heap.size u1 t.reads) (hu2 : RdC w w.heap.size u2 t.chgs) :
    Calls Try.prog 19 #[tval t v1 v2, tval t u1 u2] w fun e w' => e = .returned (.bool true) ∧ Below w.heap.size w w' := by
  obtain ⟨h1, _, h3, _⟩ := hft
  obtain ⟨read, reads, chgs⟩ := t
  unfold tval
  simp only at h1 h3 hv1 hv2 hu1 hu2 ⊢
  obtain ⟨A1, c1, rfl, _, hi1⟩ := hv1.at
  obtain ⟨A2, c2, rfl, _, _⟩ := hv2.at
  obtain ⟨A3, c3, rfl, _, hi3⟩ := hu1.at
  obtain ⟨A4, c4, rfl, _, _⟩ := hu2.at
  obtain ⟨w1, hw1⟩ : ∃ w1, w1 = (w.alloc (.cells #[.int .i64 read, .slice A1 reads.length c1, .slice A2 chgs.length c2] 36)).alloc (.cells #[.int .i64 read, .slice A3 reads.length c3, .slice A4 chgs.length c4] 36) := ⟨_, rfl⟩
  have hb1 : Below w.heap.size w w1 := by rw [hw1]; exact ((Below.refl _ _).alloc (Nat.le_refl _) _).alloc (by simp) _
  have hV1 : Whole w1 w.heap.size 36 [.int .i64 read, .slice A1 reads.length c1, .slice A2 chgs.length c2] := by rw [hw1]; exact (Whole.fresh _ _ _).alloc _
  have hV2 : Whole w1 (w.heap.size + 1) 36 [.int .i64 read, .slice A3 reads.length c3, .slice A4 chgs.length c4] := by
    have h := Whole.fresh (w.alloc (.cells #[.int .i64 read, .slice A1 reads.length c1, .slice A2 chgs.length c2] 36)) 36 [.int .i64 read, .slice A3 reads.length c3, .slice A4 chgs.length c4]
    rw [World.size_alloc] at h
    rw [hw1]; exact h
  have hsz : w1.heap.size = w.heap.size + 2 := by rw [hw1]; simp
  have hs := fun W (h : Below w.heap.size w W) => chgs_any chgs chgs _ _ W (hv2.next h) (hu2.next h) h3 h3
  rw [decide_eq_true rfl] at hs
  have q1 := hV1.cell 1 _ rfl
  have r1 := hV2.cell 1 _ rfl
  have q0 := hV1.cell 0 _ rfl
  have r0 := hV2.cell 0 _ rfl
  have HS := Lib.hid hs; clear hs
  have HB1 := Lib.hid hb1; clear hb1
  have HV1 := Lib.hid hV1; clear hV1
  have HV2 := Lib.hid hV2; clear hV2
  have HW1 := Lib.hid hw1; clear hw1
  have HI1 := Lib.hid hi1; clear hi1
  have HI3 := Lib.hid hi3; clear hi3
  have HSZ := Lib.hid hsz; clear hsz
  clear hv1 hv2 hu1 hu2
  go_enter Try.func19, Try.ntmps19
  go_wp2_with fail
  (try rw [← HW1.out])
  go_loopw [5] (fun iv wr => ∃ i : Nat, i ≤ reads.length ∧ iv = .int .i64 i ∧ Below w1.heap.size w1 wr) (fun iv _ => reads.length - (intOf iv).toNat)
  case atStart => exact ⟨0, Nat.zero_le _, rfl, by first | exact Below.refl _ _ | (rw [HW1.out]; exact Below.refl _ _)⟩
  case round =>
    obtain ⟨i, hil, rfl, hbr⟩ := hrel
    have hg1 : w.heap.size < w1.heap.size := HV1.out.size
    have p1 := (HV1.out.below hbr HV1.out.size).cell 1 _ rfl
    have s1 := (HV2.out.below hbr HV2.out.size).cell 1 _ rfl
    have p2 := (HV1.out.below hbr HV1.out.size).cell 2 _ rfl
    have s2 := (HV2.out.below hbr HV2.out.size).cell 2 _ rfl
    have hbw : Below w.heap.size w wr := HB1.out.trans (hbr.mono (by omega))
    have HBR := Lib.hid hbr
    have HBW := Lib.hid hbw
    clear q1 r1 q0 r0
    by_cases hlt : i < reads.length
    · obtain ⟨b1, o1, rfl, hbB1, x0, x1⟩ := HI1.out i hlt
      obtain ⟨b3, o3, rfl, hbB3, y0, y1⟩ := HI3.out i hlt
      generalize reads[i] = z at x0 x1 y0 y1
      obtain ⟨sx, sy⟩ := z
      simp only at x0 x1 y0 y1
      rw [← hbw.cell (p := ⟨b1, _, none⟩) hbB1] at x0 x1
      rw [← hbw.cell (p := ⟨b3, _, none⟩) hbB3] at y0 y1
      have hz : w1.heap.size ≤ wr.heap.size := hbr.size
      have hz2 := HSZ.out
      have HK0 := Lib.hid (fun W (hW : Below wr.heap.size wr W) => (hW.cell (p := ⟨b1, o1 + i * 2, none⟩) (by show b1 < _; omega)).trans x0)
      have HK1 := Lib.hid (fun W (hW : Below wr.heap.size wr W) => (hW.cell (p := ⟨b1, o1 + i * 2 + 1, none⟩) (by show b1 < _; omega)).trans x1)
      have HK2 := Lib.hid (fun W (hW : Below wr.heap.size wr W) => (hW.cell (p := ⟨b3, o3 + i * 2, none⟩) (by show b3 < _; omega)).trans y0)
      have HK3 := Lib.hid (fun W (hW : Below wr.heap.size wr W) => (hW.cell (p := ⟨b3, o3 + i * 2 + 1, none⟩) (by show b3 < _; omega)).trans y1)
      have HK4 := Lib.hid (fun W (hW : Below wr.heap.size wr W) => (hW.cell (p := ⟨w.heap.size, 1, none⟩) (by show w.heap.size < _; omega)).trans p1)
      have HK5 := Lib.hid (fun W (hW : Below wr.heap.size wr W) => (hW.cell (p := ⟨w.heap.size + 1, 1, none⟩) (by show w.heap.size + 1 < _; omega)).trans s1)
      have HN := Lib.hid (show ∀ W : World, (binOp .neq 83 (.agg #[.string sx, .string sy]) (.agg #[.string sx, .string sy])).run Try.prog W = .ok (.bool false) W from fun W => by rw [neq_span]; simp)
      have hi1 : (i : Int) < (reads.length : Int) := by omega
      have hi0 : (0 : Int) ≤ (i : Int) := by omega
      clear x0 x1 y0 y1 p2 s2 hbw hbr hz hz2 hg1
      go_wp2_with fail
      clear p1 s1
      refine wp_region_planT (fun W => Below wr.heap.size wr W) (.take 0 (.take 1 (.take 2 (.take 3 (.take 4 (.take 5 (.take 6 (.take 7 (.take 8 (.take 9 (.take 10 .done))))))))))) (by kernel_rfl) (by kernel_rfl) (fun _ _ d _ _ h => by cases d <;> exact h) ((Below.refl _ _).drew) ?_
      repeat (refine PlanT.takeI (v := ?_) rfl rfl ?_ ?_; rotate_left; (focus (intro W hW; have k0 := HK0.out W hW; have k1 := HK1.out W hW; have k2 := HK2.out W hW; have k3 := HK3.out W hW; have k4 := HK4.out W hW; have k5 := HK5.out W hW; have kn := HN.out W; have kg := span_guard; go_simp; (try with_reducible rfl); done)); (try simp only [Act.put, List.setIfInBounds_toArray, List.set_cons_zero, List.set_cons_succ]))
      simp only [PlanT]
      go_wp2_with fail
      go_roundw
      case rel => exact ⟨i + 1, by omega, by go_num, HBR.out.drew⟩
      case measure => simp [intOf]; omega
    · have HC := Lib.hid (HS.out wr hbw)
      clear hbw hbr
      go_wp2_with fail
      refine HC.out.mono ?_
      rintro e w5 ⟨rfl, hb5⟩
      have HB5 := Lib.hid (HBW.out.trans (hb5.mono HBW.out.size)); clear hb5
      go_wp2_with fail
      go_ret
      exact ⟨rfl, HB5.out⟩
end Go.Proofs.Ytiijcikdlemndaa

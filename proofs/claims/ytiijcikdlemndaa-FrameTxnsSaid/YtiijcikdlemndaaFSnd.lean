/- Whether a message, a transaction, a batch, a state is sound: the program. -/
import Derived.Test.YtiijcikdlemndaaFSev
namespace Go.Proofs.Ytiijcikdlemndaa
open Go.RowKit
attribute [local go_sem] less_eq same_eq le_eq ge_eq gt_eq

/-- numbers laid as a literal -/
theorem RdI.lit (W : World) (l : List Int) : RdI (W.alloc (.cells (l.map (.int .i64)).toArray 3)) (W.heap.size + 1) (.slice (some ⟨W.heap.size, 0, none⟩) l.length l.length) l := by
  have h := Whole.rd (enc := encI) (k := 1) encI_len (l := l) (Whole.fresh W 3 (flatG encI l))
  have e : flatG encI l = l.map (.int .i64) := by
    induction l with
    | nil => rfl
    | cons a r ih => rw [show a :: r = [a] ++ r from rfl, flatG_append, List.map_append, ih (Whole.rd encI_len (Whole.fresh W 3 _))]; rfl
  rw [e] at h
  exact h

set_option maxHeartbeats 1000000 in
set_option maxRecDepth 100000 in
theorem from0_any (l : List Int) (v : Value) (w : World) (B : Nat) (hv : RdI w B v l) (hl : l.length < 4611686018427387904) :
    Calls Try.prog 64 #[v] w fun e w' => e = .returned (.bool (decide (∀ n ∈ l, 0 ≤ n))) ∧ w' = w := by
  obtain ⟨A, c, rfl, hc, hi⟩ := hv.at
  obtain ⟨D, hD⟩ : ∃ D, D = decide (∀ n ∈ l, 0 ≤ n) := ⟨_, rfl⟩
  rw [← hD]
  have HD := Lib.hid hD; clear hD
  have HI := Lib.hid hi; clear hi
  clear hv
  go_enter Try.func64, Try.ntmps64
  go_wp2_with fail
  go_loop [7] (fun iv => ∃ i : Nat, i ≤ l.length ∧ iv = .int .i64 i ∧ Hid (∀ n ∈ l.take i, 0 ≤ n)) (fun iv => l.length - (intOf iv).toNat)
  case atStart => exact ⟨0, Nat.zero_le _, rfl, Lib.hid (by simp)⟩
  case round =>
    obtain ⟨i, hil, rfl, HALL⟩ := hrel
    by_cases hlt : i < l.length
    · obtain ⟨b, o, rfl, hbB, h1⟩ := HI.out i hlt
      have hyes : 0 ≤ l[i] → ∀ n ∈ l.take (i + 1), 0 ≤ n := fun h n hn => by
        rw [List.take_add_one, List.getElem?_eq_getElem hlt, List.mem_append] at hn
        rcases hn with hn | hn
        · exact HALL.out n hn
        · simp only [Option.toList_some, List.mem_singleton] at hn; rw [hn]; exact h
      have hno : ¬ (0 ≤ l[i]) → D = false := fun h => by rw [HD.out]; exact decide_eq_false fun hall => h (hall _ (List.getElem_mem hlt))
      generalize l[i] = z at h1 hyes hno
      have HY := Lib.hid hyes; clear hyes
      have HN := Lib.hid hno; clear hno
      by_cases hz : z < 0
      · go_wp2_with fail
        go_ret
        exact ⟨by rw [HN.out (by omega)]; rfl, rfl⟩
      · go_wp2_with fail
        go_round
        case rel => exact ⟨i + 1, by omega, by go_num, Lib.hid (HY.out (by omega))⟩
        case measure => simp [intOf]; omega
    · have hd : D = true := by
        rw [HD.out]
        have := HALL.out
        rw [List.take_of_length_le (by omega)] at this
        exact decide_eq_true this
      have HD2 := Lib.hid hd; clear hd
      go_wp2_with fail
      go_ret
      exact ⟨by rw [HD2.out]; rfl, rfl⟩

set_option maxHeartbeats 1000000 in
set_option maxRecDepth 100000 in
theorem nodes_any (l : List Int) (v : Value) (w : World) (B : Nat) (hv : RdI w B v l) (hl : l.length < 4611686018427387904) :
    Calls Try.prog 63 #[v] w fun e w' => e = .returned (.bool (decide (∀ n ∈ l, 0 ≤ n ∧ n ≤ 255))) ∧ w' = w := by
  obtain ⟨A, c, rfl, hc, hi⟩ := hv.at
  obtain ⟨D, hD⟩ : ∃ D, D = decide (∀ n ∈ l, 0 ≤ n ∧ n ≤ 255) := ⟨_, rfl⟩
  rw [← hD]
  have HD := Lib.hid hD; clear hD
  have HI := Lib.hid hi; clear hi
  clear hv
  go_enter Try.func63, Try.ntmps63
  go_wp2_with fail
  go_loop [7] (fun iv => ∃ i : Nat, i ≤ l.length ∧ iv = .int .i64 i ∧ Hid (∀ n ∈ l.take i, 0 ≤ n ∧ n ≤ 255)) (fun iv => l.length - (intOf iv).toNat)
  case atStart => exact ⟨0, Nat.zero_le _, rfl, Lib.hid (by simp)⟩
  case round =>
    obtain ⟨i, hil, rfl, HALL⟩ := hrel
    by_cases hlt : i < l.length
    · obtain ⟨b, o, rfl, hbB, h1⟩ := HI.out i hlt
      have hyes : 0 ≤ l[i] ∧ l[i] ≤ 255 → ∀ n ∈ l.take (i + 1), 0 ≤ n ∧ n ≤ 255 := fun h n hn => by
        rw [List.take_add_one, List.getElem?_eq_getElem hlt, List.mem_append] at hn
        rcases hn with hn | hn
        · exact HALL.out n hn
        · simp only [Option.toList_some, List.mem_singleton] at hn; rw [hn]; exact h
      have hno : ¬ (0 ≤ l[i] ∧ l[i] ≤ 255) → D = false := fun h => by rw [HD.out]; exact decide_eq_false fun hall => h (hall _ (List.getElem_mem hlt))
      generalize l[i] = z at h1 hyes hno
      have HY := Lib.hid hyes; clear hyes
      have HN := Lib.hid hno; clear hno
      by_cases hz : z < 0
      · go_wp2_with fail
        go_ret
        exact ⟨by rw [HN.out (by omega)]; rfl, rfl⟩
      · by_cases hz2 : 255 < z
        · go_wp2_with fail
          go_ret
          exact ⟨by rw [HN.out (by omega)]; rfl, rfl⟩
        · go_wp2_with fail
          go_round
          case rel => exact ⟨i + 1, by omega, by go_num, Lib.hid (HY.out (by omega))⟩
          case measure => simp [intOf]; omega
    · have hd : D = true := by
        rw [HD.out]
        have := HALL.out
        rw [List.take_of_length_le (by omega)] at this
        exact decide_eq_true this
      have HD2 := Lib.hid hd; clear hd
      go_wp2_with fail
      go_ret
      exact ⟨by rw [HD2.out]; rfl, rfl⟩

/-- a message as a value -/
def mval (m : Msg) (v : Value) : Value := .agg #[.int .i64 m.kind, .int .i64 m.frm, .int .i64 m.to, .int .i64 m.epoch, .int .i64 m.a, .int .i64 m.b, .int .i64 m.c, v]

set_option maxHeartbeats 4000000 in
set_option maxRecDepth 100000 in
theorem soundM_any (m : Msg) (v : Value) (w : World) (B : Nat) (hv : RdB w B v m.body) (hl : m.body.length < 4611686018427387904) :
    Calls Try.prog 30 #[mval m v] w fun e w' => e = .returned (.bool (decide (soundM m))) ∧ Below w.heap.size w w' := by
  obtain ⟨k, f, t, e0, a, b, c, body⟩ := m
  obtain ⟨A, cc, rfl, _, _⟩ := hv.at
  clear hv
  obtain ⟨R, hR⟩ : ∃ R, R = decide (soundM ⟨k, f, t, e0, a, b, c, body⟩) := ⟨_, rfl⟩
  rw [← hR]
  unfold soundM at hR
  unfold mval
  simp only at hR hl ⊢
  have hN := fun W B h => nodes_any [f, t] (.slice (some ⟨w.heap.size + 1, 0, none⟩) 2 2) W B h (by simp)
  have hF := fun W B h => from0_any [e0, a, b, c] (.slice (some ⟨w.heap.size + 2, 0, none⟩) 4 4) W B h (by simp)
  have hi1 := RdI.lit (w.alloc (.cells #[.int .i64 k, .int .i64 f, .int .i64 t, .int .i64 e0, .int .i64 a, .int .i64 b, .int .i64 c, .slice A body.length cc] 24)) [f, t]
  have hi2 := RdI.lit ((w.alloc (.cells #[.int .i64 k, .int .i64 f, .int .i64 t, .int .i64 e0, .int .i64 a, .int .i64 b, .int .i64 c, .slice A body.length cc] 24)).alloc (.cells #[.int .i64 f, .int .i64 t] 3)) [e0, a, b, c]
  simp only [World.size_alloc, List.map_cons, List.map_nil, List.length_cons, List.length_nil] at hi1 hi2
  have e1 : (∀ n ∈ [f, t], 0 ≤ n ∧ n ≤ 255) ↔ (0 ≤ f ∧ f ≤ 255) ∧ (0 ≤ t ∧ t ≤ 255) := by simp
  have e2 : (∀ n ∈ [e0, a, b, c], 0 ≤ n) ↔ 0 ≤ e0 ∧ 0 ≤ a ∧ 0 ≤ b ∧ 0 ≤ c := by simp
  obtain ⟨D1, hD1⟩ : ∃ D1, D1 = decide (∀ n ∈ [f, t], 0 ≤ n ∧ n ≤ 255) := ⟨_, rfl⟩
  obtain ⟨D2, hD2⟩ : ∃ D2, D2 = decide (∀ n ∈ [e0, a, b, c], 0 ≤ n) := ⟨_, rfl⟩
  rw [← hD1] at hN
  rw [← hD2] at hF
  have HN := Lib.hid (hN _ _ hi1)
  have HF := Lib.hid (hF _ _ hi2)
  clear hN hF hi1 hi2
  have hno : ¬ ((1 ≤ k ∧ k ≤ 20) ∧ D1 = true ∧ D2 = true ∧ body.length ≤ 65536) → R = false := fun h => by
    rw [hR]
    refine decide_eq_false fun hs => h ⟨hs.1, ?_, ?_, hs.2.2.2.2.2.2.2⟩
    · rw [hD1]; exact decide_eq_true (e1.2 ⟨hs.2.1, hs.2.2.1⟩)
    · rw [hD2]; exact decide_eq_true (e2.2 ⟨hs.2.2.2.1, hs.2.2.2.2.1, hs.2.2.2.2.2.1, hs.2.2.2.2.2.2.1⟩)
  have hyes : (1 ≤ k ∧ k ≤ 20) ∧ D1 = true ∧ D2 = true ∧ body.length ≤ 65536 → R = true := fun h => by
    rw [hR]
    have h1 := e1.1 (of_decide_eq_true (hD1 ▸ h.2.1))
    have h2 := e2.1 (of_decide_eq_true (hD2 ▸ h.2.2.1))
    exact decide_eq_true ⟨h.1, h1.1, h1.2, h2.1, h2.2.1, h2.2.2.1, h2.2.2.2, h.2.2.2⟩
  have HNO := Lib.hid hno; clear hno
  have HYES := Lib.hid hyes; clear hyes
  clear hR e1 e2 hD1 hD2
  have fin : ∀ (o1 o2 o3 : Obj), Below w.heap.size w (w.alloc o1) ∧ Below w.heap.size w ((w.alloc o1).alloc o2) ∧ Below w.heap.size w (((w.alloc o1).alloc o2).alloc o3) := fun o1 o2 o3 =>
    ⟨(Below.refl _ _).alloc (Nat.le_refl _) _, ((Below.refl _ _).alloc (Nat.le_refl _) _).alloc (by simp) _, (((Below.refl _ _).alloc (Nat.le_refl _) _).alloc (by simp) _).alloc (by simp; omega) _⟩
  have FIN := Lib.hid fin; clear fin
  by_cases h1 : k < 1
  · go_enter Try.func30, Try.ntmps30
    go_wp2_with fail
    go_ret
    exact ⟨by rw [HNO.out (by omega)]; rfl, (FIN.out _ default default).1⟩
  by_cases h2 : 20 < k
  · go_enter Try.func30, Try.ntmps30
    go_wp2_with fail
    go_ret
    exact ⟨by rw [HNO.out (by omega)]; rfl, (FIN.out _ default default).1⟩
  go_enter Try.func30, Try.ntmps30
  go_wp2_with fail
  refine HN.out.mono ?_
  rintro e w1 ⟨rfl, rfl⟩
  cases D1 with
  | false =>
    go_wp2_with fail
    go_ret
    exact ⟨by rw [HNO.out (by simp)]; rfl, (FIN.out _ _ default).2.1⟩
  | true =>
    go_wp2_with fail
    refine HF.out.mono ?_
    rintro e w1 ⟨rfl, rfl⟩
    cases D2 with
    | false =>
      go_wp2_with fail
      go_ret
      exact ⟨by rw [HNO.out (by simp)]; rfl, (FIN.out _ _ _).2.2⟩
    | true =>
      by_cases h8 : (65536 : Int) < (body.length : Int)
      · go_wp2_with fail
        go_ret
        have hd : decide ((body.length : Int) ≤ 65536) = false := decide_eq_false (by omega)
        have hr : R = false := HNO.out (by simp only [true_and, not_and]; omega)
        exact ⟨by rw [hr]; show Ending.returned (Value.bool (decide ((body.length : Int) ≤ 65536))) = _; rw [hd], (FIN.out _ _ _).2.2⟩
      · go_wp2_with fail
        go_ret
        have hr : R = true := HYES.out (by simp only [true_and]; omega)
        exact ⟨by rw [hr]; rfl, (FIN.out _ _ _).2.2⟩

set_option maxHeartbeats 2000000 in
set_option maxRecDepth 100000 in
theorem soundRd_any (l : List (K × K)) (hs : ∀ s ∈ l, s.1.size < 4611686018427387904 ∧ s.2.size < 4611686018427387904) (v : Value) (w : World) (hv : RdP w w.heap.size v l) (hl : l.length < 4611686018427387904) :
    Calls Try.prog 76 #[v] w fun e w' => e = .returned (.bool (decide (l.length ≤ 24 ∧ ∀ s ∈ l, okSpan s))) ∧ Below w.heap.size w w' := by
  obtain ⟨A, c, rfl, hc, hi⟩ := hv.at
  obtain ⟨D, hD⟩ : ∃ D, D = decide (l.length ≤ 24 ∧ ∀ s ∈ l, okSpan s) := ⟨_, rfl⟩
  rw [← hD]
  have HD := Lib.hid hD; clear hD
  have HI := Lib.hid hi; clear hi
  have HS := Lib.hid hs; clear hs
  clear hv
  by_cases hbig : (24 : Int) < (l.length : Int)
  · have hd : D = false := by rw [HD.out]; exact decide_eq_false fun h => by have := h.1; omega
    subst hd
    clear HD
    go_enter Try.func76, Try.ntmps76
    go_wp2_with fail
    go_ret
    exact ⟨rfl, Below.refl _ _⟩
  obtain ⟨g, hg⟩ : ∃ g, g = w.heap.size := ⟨_, rfl⟩
  rw [← hg] at HI ⊢
  have HG := Lib.hid hg; clear hg
  go_enter Try.func76, Try.ntmps76
  go_wp2_with fail
  go_loopw [10] (fun iv wr => ∃ i : Nat, i ≤ l.length ∧ iv = .int .i64 i ∧ Below g w wr ∧ g ≤ wr.heap.size ∧ Hid (∀ s ∈ l.take i, okSpan s)) (fun iv _ => l.length - (intOf iv).toNat)
  case atStart => exact ⟨0, Nat.zero_le _, rfl, Below.refl _ _, by rw [HG.out]; exact Nat.le_refl _, Lib.hid (by simp)⟩
  case round =>
    obtain ⟨i, hil, rfl, hbw, hgs, HALL⟩ := hrel
    have HB := Lib.hid hbw; clear hbw
    by_cases hlt : i < l.length
    · obtain ⟨b, o, rfl, hbB, k0, k1⟩ := HI.out i hlt
      rw [← HB.out.cell (p := ⟨b, _, none⟩) hbB] at k0 k1
      have hsm := HS.out l[i] (List.getElem_mem hlt)
      have hyes : okSpan l[i] → ∀ s ∈ l.take (i + 1), okSpan s := fun h n hn => by
        rw [List.take_add_one, List.getElem?_eq_getElem hlt, List.mem_append] at hn
        rcases hn with hn | hn
        · exact HALL.out n hn
        · simp only [Option.toList_some, List.mem_singleton] at hn; rw [hn]; exact h
      have hno : ¬ okSpan l[i] → D = false := fun h => by rw [HD.out]; exact decide_eq_false fun hall => h (hall.2 _ (List.getElem_mem hlt))
      generalize l[i] = z at k0 k1 hyes hno hsm
      obtain ⟨x, y⟩ := z
      unfold okSpan at hyes hno
      simp only at k0 k1 hsm hyes hno
      have HY := Lib.hid hyes; clear hyes
      have HN := Lib.hid hno; clear hno
      have HB2 := Lib.hid (show Below g w (wr.alloc (.cells #[.string x, .string y] 83)) from HB.out.alloc hgs _)
      by_cases ha : (17 : Int) < (x.size : Int)
      · go_wp2_with fail
        go_ret
        exact ⟨by rw [HN.out (fun h => by omega)]; rfl, HB2.out⟩
      by_cases hb : (17 : Int) < (y.size : Int)
      · go_wp2_with fail
        go_ret
        exact ⟨by rw [HN.out (fun h => by omega)]; rfl, HB2.out⟩
      by_cases hxy : y < x
      · go_wp2_with fail
        go_ret
        exact ⟨by rw [HN.out (fun h => h.2.2 hxy)]; rfl, HB2.out⟩
      · have hok := HY.out ⟨by omega, by omega, hxy⟩
        have HOK := Lib.hid hok; clear hok
        go_wp2_with fail
        go_roundw
        case rel => exact ⟨i + 1, by omega, by go_num, HB2.out, by simp; omega, Lib.hid HOK.out⟩
        case measure => simp [intOf]; omega
    · have hd : D = true := by
        rw [HD.out]
        have := HALL.out
        rw [List.take_of_length_le (by omega)] at this
        exact decide_eq_true ⟨by omega, this⟩
      have HD2 := Lib.hid hd; clear hd
      go_wp2_with fail
      go_ret
      exact ⟨by rw [HD2.out]; rfl, HB.out⟩

theorem allAns_mem_zero {l : List Chg} (h : ∀ c ∈ l, checkAns c = 0) : allAns l = 0 := by
  induction l with
  | nil => rfl
  | cons x r ih => rw [allAns, if_pos (h x (by simp))]; exact ih fun c hc => h c (by simp [hc])

set_option maxHeartbeats 2000000 in
set_option maxRecDepth 100000 in
theorem soundCh_any (l : List Chg) (hs : ∀ c ∈ l, smallC c) (most : Nat) (hm : most ≤ 4096) (v : Value) (w : World) (hv : RdC w w.heap.size v l) (hl : l.length < 4611686018427387904) :
    Calls Try.prog 77 #[v, .int .i64 (most : Int)] w fun e w' => e = .returned (.bool (decide (l.length ≤ most ∧ allAns l = 0))) ∧ Below w.heap.size w w' := by
  obtain ⟨A, c, rfl, hc, hi⟩ := hv.at
  obtain ⟨D, hD⟩ : ∃ D, D = decide (l.length ≤ most ∧ allAns l = 0) := ⟨_, rfl⟩
  rw [← hD]
  have HD := Lib.hid hD; clear hD
  have HI := Lib.hid hi; clear hi
  have HS := Lib.hid hs; clear hs
  clear hv
  by_cases hbig : (most : Int) < (l.length : Int)
  · have hd : D = false := by rw [HD.out]; exact decide_eq_false fun h => by have := h.1; omega
    subst hd
    clear HD
    go_enter Try.func77, Try.ntmps77
    go_wp2_with fail
    go_ret
    exact ⟨rfl, Below.refl _ _⟩
  obtain ⟨g, hg⟩ : ∃ g, g = w.heap.size := ⟨_, rfl⟩
  rw [← hg] at HI ⊢
  have HG := Lib.hid hg; clear hg
  go_enter Try.func77, Try.ntmps77
  go_wp2_with fail
  go_loopw [13] (fun iv wr => ∃ i : Nat, i ≤ l.length ∧ iv = .int .i64 i ∧ Below g w wr ∧ g ≤ wr.heap.size ∧ Hid (∀ s ∈ l.take i, checkAns s = 0)) (fun iv _ => l.length - (intOf iv).toNat)
  case atStart => exact ⟨0, Nat.zero_le _, rfl, Below.refl _ _, by rw [HG.out]; exact Nat.le_refl _, Lib.hid (by simp)⟩
  case round =>
    obtain ⟨i, hil, rfl, hbw, hgs, HALL⟩ := hrel
    have HB := Lib.hid hbw; clear hbw
    by_cases hlt : i < l.length
    · obtain ⟨b, o, rfl, hbB, k0, k1, k2⟩ := HI.out i hlt
      rw [← HB.out.cell (p := ⟨b, _, none⟩) hbB] at k0 k1 k2
      have hsm := HS.out l[i] (List.getElem_mem hlt)
      have hyes : checkAns l[i] = 0 → ∀ s ∈ l.take (i + 1), checkAns s = 0 := fun h n hn => by
        rw [List.take_add_one, List.getElem?_eq_getElem hlt, List.mem_append] at hn
        rcases hn with hn | hn
        · exact HALL.out n hn
        · simp only [Option.toList_some, List.mem_singleton] at hn; rw [hn]; exact h
      have hno : ¬ checkAns l[i] = 0 → D = false := fun h => by rw [HD.out]; exact decide_eq_false fun hall => h (allAns_all hall.2 _ (List.getElem_mem hlt))
      generalize l[i] = z at k0 k1 k2 hyes hno hsm
      have hck := fun W => pcheck_any z W (by have := hsm.1; omega) (by have := hsm.2; omega)
      unfold cval at hck
      generalize checkAns z = q at hck hyes hno
      obtain ⟨kz, x, y⟩ := z
      simp only at k0 k1 k2 hck
      have HY := Lib.hid hyes; clear hyes
      have HN := Lib.hid hno; clear hno
      have HK := Lib.hid hck; clear hck hsm
      have HB2 := Lib.hid (show Below g w (wr.alloc (.cells #[.int .i64 kz, .string x, .string y] 89)) from HB.out.alloc hgs _)
      go_wp2_with fail
      refine (HK.out _).mono ?_
      rintro e w2 ⟨rfl, hb2⟩
      have hgs2 : g ≤ w2.heap.size := by have := hb2.size; simp at this; omega
      have HB3 := Lib.hid (show Below g w w2 from HB2.out.trans (hb2.mono (by simp; omega)))
      clear hb2 k0 k1 k2
      by_cases hq : q = 0
      · subst hq
        have hok := HY.out rfl
        have HOK := Lib.hid hok; clear hok
        go_wp2_with fail
        go_roundw
        case rel => exact ⟨i + 1, by omega, by go_num, HB3.out, hgs2, Lib.hid HOK.out⟩
        case measure => simp [intOf]; omega
      · go_wp2_with fail
        go_ret
        exact ⟨by rw [HN.out hq]; rfl, HB3.out⟩
    · have hd : D = true := by
        rw [HD.out]
        have := HALL.out
        rw [List.take_of_length_le (by omega)] at this
        exact decide_eq_true ⟨by omega, allAns_mem_zero this⟩
      have HD2 := Lib.hid hd; clear hd
      go_wp2_with fail
      go_ret
      exact ⟨by rw [HD2.out]; rfl, HB.out⟩

/-- a transaction, a batch, a state as values -/
def tval (t : Txn) (v1 v2 : Value) : Value := .agg #[.int .i64 t.read, v1, v2]
def bval (x : Bat) (v : Value) : Value := .agg #[.int .i64 x.prev, .int .i64 x.version, .int .i64 x.known, v]
def sval (x : Sta) (v : Value) : Value := .agg #[.int .i64 x.gen, .int .i64 x.epoch, .int .i64 x.recd, v]
/-- lengths that a walk needs -/
def fitT (t : Txn) : Prop := t.reads.length < 4611686018427387904 ∧ (∀ s ∈ t.reads, s.1.size < 4611686018427387904 ∧ s.2.size < 4611686018427387904) ∧ t.chgs.length < 4611686018427387904 ∧ ∀ c ∈ t.chgs, smallC c

set_option maxHeartbeats 2000000 in
set_option maxRecDepth 100000 in
theorem soundT_any (t : Txn) (hft : fitT t) (v1 v2 : Value) (w : World) (hv1 : RdP w w.heap.size v1 t.reads) (hv2 : RdC w w.heap.size v2 t.chgs) :
    Calls Try.prog 46 #[tval t v1 v2] w fun e w' => e = .returned (.bool (decide (soundT t))) ∧ Below w.heap.size w w' := by
  obtain ⟨h1, h2, h3, h4⟩ := hft
  obtain ⟨read, reads, chgs⟩ := t
  obtain ⟨R, hR⟩ : ∃ R, R = decide (soundT ⟨read, reads, chgs⟩) := ⟨_, rfl⟩
  rw [← hR]
  unfold soundT at hR
  unfold tval
  simp only at hR h1 h2 h3 h4 hv1 hv2 ⊢
  have hF := fun W B h => from0_any [read] (.slice (some ⟨w.heap.size + 1, 0, none⟩) 1 1) W B h (by simp)
  have hi1 := RdI.lit (w.alloc (.cells #[.int .i64 read, v1, v2] 36)) [read]
  simp only [World.size_alloc, List.map_cons, List.map_nil, List.length_cons, List.length_nil] at hi1
  have HF := Lib.hid (hF _ _ hi1); clear hF hi1
  have hb2 : Below w.heap.size w ((w.alloc (.cells #[.int .i64 read, v1, v2] 36)).alloc (.cells #[.int .i64 read] 3)) := ((Below.refl _ _).alloc (Nat.le_refl _) _).alloc (by simp) _
  have hA := soundRd_any reads h2 v1 _ (hv1.next hb2) h1
  have hB := fun W (h : Below w.heap.size w W) => soundCh_any chgs h4 24 (by omega) v2 W (hv2.next h) h3
  obtain ⟨D1, hD1⟩ : ∃ D1, D1 = decide (reads.length ≤ 24 ∧ ∀ s ∈ reads, okSpan s) := ⟨_, rfl⟩
  obtain ⟨D2, hD2⟩ : ∃ D2, D2 = decide (chgs.length ≤ 24 ∧ allAns chgs = 0) := ⟨_, rfl⟩
  rw [← hD1] at hA
  rw [← hD2] at hB
  have e0 : decide (∀ n ∈ [read], 0 ≤ n) = decide (0 ≤ read) := by simp
  rw [e0] at HF
  have hno : ¬ (0 ≤ read ∧ D1 = true ∧ D2 = true) → R = false := fun h => by
    rw [hR]
    exact decide_eq_false fun hs => h ⟨hs.1, by rw [hD1]; exact decide_eq_true ⟨hs.2.1, hs.2.2.1⟩, by rw [hD2]; exact decide_eq_true ⟨hs.2.2.2.1, hs.2.2.2.2⟩⟩
  have hyes : 0 ≤ read ∧ D1 = true ∧ D2 = true → R = true := fun h => by
    rw [hR]
    have h1 := of_decide_eq_true (hD1 ▸ h.2.1)
    have h2 := of_decide_eq_true (hD2 ▸ h.2.2)
    exact decide_eq_true ⟨h.1, h1.1, h1.2, h2.1, h2.2⟩
  have HNO := Lib.hid hno; clear hno
  have HYES := Lib.hid hyes; clear hyes
  have HA := Lib.hid hA; clear hA
  have HB := Lib.hid hB; clear hB
  have HB2 := Lib.hid hb2; clear hb2
  obtain ⟨A1, c1, rfl, _, _⟩ := hv1.at
  obtain ⟨A2, c2, rfl, _, _⟩ := hv2.at
  clear hR hD1 hD2 e0 hv1 hv2 h2 h4
  go_enter Try.func46, Try.ntmps46
  go_wp2_with fail
  refine HF.out.mono ?_
  rintro e w1 ⟨rfl, rfl⟩
  by_cases h0 : read < 0
  · rw [decide_eq_false (show ¬ 0 ≤ read by omega)]
    go_wp2_with fail
    go_ret
    exact ⟨by rw [HNO.out (by omega)]; rfl, HB2.out⟩
  · rw [decide_eq_true (show 0 ≤ read by omega)]
    go_wp2_with fail
    refine HA.out.mono ?_
    rintro e w3 ⟨rfl, hb3⟩
    have hb4 : Below w.heap.size w w3 := HB2.out.trans (hb3.mono (by simp; omega))
    have hB3 := HB.out w3 hb4
    have HB4 := Lib.hid hb4
    have HC := Lib.hid hB3
    have l1 : w.heap.size < w3.heap.size := by have := hb3.size; simp at this; omega
    have q0 : w3.cell? ⟨w.heap.size, 2, none⟩ = some (.slice A2 chgs.length c2) := by
      rw [hb3.cell (p := ⟨w.heap.size, 2, none⟩) (by simp; omega)]
      rw [((Below.refl (w.heap.size + 1) (w.alloc (.cells #[.int .i64 read, .slice A1 reads.length c1, .slice A2 chgs.length c2] 36))).alloc (by simp) _).cell (p := ⟨w.heap.size, 2, none⟩) (by simp)]
      exact World.cell?_alloc_at _ _ _ _ rfl
    clear hb3 hb4 hB3
    cases D1 with
    | false =>
      go_wp2_with fail
      go_ret
      exact ⟨by rw [HNO.out (by simp)]; rfl, HB4.out⟩
    | true =>
      go_wp2_with fail
      refine HC.out.mono ?_
      rintro e w4 ⟨rfl, hb5⟩
      have HB5 := Lib.hid (show Below w.heap.size w w4 from HB4.out.trans (hb5.mono (by omega))); clear hb5
      cases D2 with
      | false =>
        go_wp2_with fail
        go_ret
        exact ⟨by rw [HNO.out (by simp)]; rfl, HB5.out⟩
      | true =>
        go_wp2_with fail
        go_ret
        exact ⟨by rw [HYES.out (by simp only [and_true]; omega)]; rfl, HB5.out⟩
end Go.Proofs.Ytiijcikdlemndaa

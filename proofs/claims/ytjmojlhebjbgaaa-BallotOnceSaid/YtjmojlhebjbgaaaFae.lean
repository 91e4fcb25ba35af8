/- Whether a message, a transaction, a batch, a state is sound: the program. Whether a batch, a state is sound: the program. What the arguments' forms say of numbers. Arguments of the frame laws as data: messages, transactions, batches, states. Ballots and vows as values: which is below which, promise, take, best, bytes; pure. Councils that promise and take: no two states are ever taken by majorities; pure. -/
import Derived.Test.YtjmojlhebjbgaaaFad
import Derived.Test.YtjmojlhebjbgaaaRows
import Derived.Test.YtjmojlhebjbgaaaFaa
import Derived.Test.YtjmojlhebjbgaaaFac
import Derived.Deep.Fields
import Derived.Deep.Strs
namespace Go.Proofs.Ytjmojlhebjbgaaa
open Go.RowKit
attribute [local go_sem] less_eq same_eq le_eq ge_eq gt_eq

/-- numbers laid as a literal -/
theorem RdI.lit (W : World) (l : List Int) : RdI (W.alloc (.cells (l.map (.int .i64)).toArray 3)) (W.heap.size + 1) (.slice (some ⟨W.heap.size, 0, none⟩) l.length l.length) l := by
  have h := Whole.rd (enc := encI) (k := 1) encI_len (l := l) (Whole.fresh W 3 (flatG encI l))
  have e : flatG encI l = l.map (.int .i64) := by
    induction l with
    | nil => rfl
    | cons a r ih => rw [show a :: r = [a] ++ r from rfl, flatG_append, List.map_append, ih (Whole.rd encI_len (Whole.fresh W 3 _))]; rfl
  rw [e] at h
  exact h

set_option maxHeartbeats 1000000 in
set_option maxRecDepth 100000 in
theorem from0_any (l : List Int) (v : Value) (w : World) (B : Nat) (hv : RdI w B v l) (hl : l.length < 4611686018427387904) :
    Calls Try.prog 52 #[v] w fun e w' => e = .returned (.bool (decide (∀ n ∈ l, 0 ≤ n))) ∧ w' = w := by
  obtain ⟨A, c, rfl, hc, hi⟩ := hv.at
  obtain ⟨D, hD⟩ : ∃ D, D = decide (∀ n ∈ l, 0 ≤ n) := ⟨_, rfl⟩
  rw [← hD]
  have HD := Lib.hid hD; clear hD
  have HI := Lib.hid hi; clear hi
  clear hv
  go_enter Try.func52, Try.ntmps52
  go_wp2_with fail
  go_loop [7] (fun iv => ∃ i : Nat, i ≤ l.length ∧ iv = .int .i64 i ∧ Hid (∀ n ∈ l.take i, 0 ≤ n)) (fun iv => l.length - (intOf iv).toNat)
  case atStart => exact ⟨0, Nat.zero_le _, rfl, Lib.hid (by simp)⟩
  case round =>
    obtain ⟨i, hil, rfl, HALL⟩ := hrel
    by_cases hlt : i < l.length
    · obtain ⟨b, o, rfl, hbB, h1⟩ := HI.out i hlt
      have hyes : 0 ≤ l[i] → ∀ n ∈ l.take (i + 1), 0 ≤ n := fun h n hn => by
        rw [List.take_add_one, List.getElem?_eq_getElem hlt, List.mem_append] at hn
        rcases hn with hn | hn
        · exact HALL.out n hn
        · simp only [Option.toList_some, List.mem_singleton] at hn; rw [hn]; exact h
      have hno : ¬ (0 ≤ l[i]) → D = false := fun h => by rw [HD.out]; exact decide_eq_false fun hall => h (hall _ (List.getElem_mem hlt))
      generalize l[i] = z at h1 hyes hno
      have HY := Lib.hid hyes; clear hyes
      have HN := Lib.hid hno; clear hno
      by_cases hz : z < 0
      · go_wp2_with fail
        go_ret
        exact ⟨by rw [HN.out (by omega)]; rfl, rfl⟩
      · go_wp2_with fail
        go_round
        case rel => exact ⟨i + 1, by omega, by go_num, Lib.hid (HY.out (by omega))⟩
        case measure => simp [intOf]; omega
    · have hd : D = true := by
        rw [HD.out]
        have := HALL.out
        rw [List.take_of_length_le (by omega)] at this
        exact decide_eq_true this
      have HD2 := Lib.hid hd; clear hd
      go_wp2_with fail
      go_ret
      exact ⟨by rw [HD2.out]; rfl, rfl⟩

set_option maxHeartbeats 1000000 in
set_option maxRecDepth 100000 in
theorem nodes_any (l : List Int) (v : Value) (w : World) (B : Nat) (hv : RdI w B v l) (hl : l.length < 4611686018427387904) :
    Calls Try.prog 53 #[v] w fun e w' => e = .returned (.bool (decide (∀ n ∈ l, 0 ≤ n ∧ n ≤ 255))) ∧ w' = w := by
  obtain ⟨A, c, rfl, hc, hi⟩ := hv.at
  obtain ⟨D, hD⟩ : ∃ D, D = decide (∀ n ∈ l, 0 ≤ n ∧ n ≤ 255) := ⟨_, rfl⟩
  rw [← hD]
  have HD := Lib.hid hD; clear hD
  have HI := Lib.hid hi; clear hi
  clear hv
  go_enter Try.func53, Try.ntmps53
  go_wp2_with fail
  go_loop [7] (fun iv => ∃ i : Nat, i ≤ l.length ∧ iv = .int .i64 i ∧ Hid (∀ n ∈ l.take i, 0 ≤ n ∧ n ≤ 255)) (fun iv => l.length - (intOf iv).toNat)
  case atStart => exact ⟨0, Nat.zero_le _, rfl, Lib.hid (by simp)⟩
  case round =>
    obtain ⟨i, hil, rfl, HALL⟩ := hrel
    by_cases hlt : i < l.length
    · obtain ⟨b, o, rfl, hbB, h1⟩ := HI.out i hlt
      have hyes : 0 ≤ l[i] ∧ l[i] ≤ 255 → ∀ n ∈ l.take (i + 1), 0 ≤ n ∧ n ≤ 255 := fun h n hn => by
        rw [List.take_add_one, List.getElem?_eq_getElem hlt, List.mem_append] at hn
        rcases hn with hn | hn
        · exact HALL.out n hn
        · simp only [Option.toList_some, List.mem_singleton] at hn; rw [hn]; exact h
      have hno : ¬ (0 ≤ l[i] ∧ l[i] ≤ 255) → D = false := fun h => by rw [HD.out]; exact decide_eq_false fun hall => h (hall _ (List.getElem_mem hlt))
      generalize l[i] = z at h1 hyes hno
      have HY := Lib.hid hyes; clear hyes
      have HN := Lib.hid hno; clear hno
      by_cases hz : z < 0
      · go_wp2_with fail
        go_ret
        exact ⟨by rw [HN.out (by omega)]; rfl, rfl⟩
      · by_cases hz2 : 255 < z
        · go_wp2_with fail
          go_ret
          exact ⟨by rw [HN.out (by omega)]; rfl, rfl⟩
        · go_wp2_with fail
          go_round
          case rel => exact ⟨i + 1, by omega, by go_num, Lib.hid (HY.out (by omega))⟩
          case measure => simp [intOf]; omega
    · have hd : D = true := by
        rw [HD.out]
        have := HALL.out
        rw [List.take_of_length_le (by omega)] at this
        exact decide_eq_true this
      have HD2 := Lib.hid hd; clear hd
      go_wp2_with fail
      go_ret
      exact ⟨by rw [HD2.out]; rfl, rfl⟩

/-- a message as a value -/
def mval (m : Msg) (v : Value) : Value := .agg #[.int .i64 m.kind, .int .i64 m.frm, .int .i64 m.to, .int .i64 m.epoch, .int .i64 m.a, .int .i64 m.b, .int .i64 m.c, v]

theorem allAns_mem_zero {l : List Chg} (h : ∀ c ∈ l, checkAns c = 0) : allAns l = 0 := by
  induction l with
  | nil => rfl
  | cons x r ih => rw [allAns, if_pos (h x (by simp))]; exact ih fun c hc => h c (by simp [hc])

/-- a transaction, a batch, a state as values -/
def tval (t : Txn) (v1 v2 : Value) : Value := .agg #[.int .i64 t.read, v1, v2]
def bval (x : Bat) (v : Value) : Value := .agg #[.int .i64 x.prev, .int .i64 x.version, .int .i64 x.known, v]
def sval (x : Sta) (v : Value) : Value := .agg #[.int .i64 x.gen, .int .i64 x.epoch, .int .i64 x.recd, v]
/-- lengths that a walk needs -/
def fitT (t : Txn) : Prop := t.reads.length < 4611686018427387904 ∧ (∀ s ∈ t.reads, s.1.size < 4611686018427387904 ∧ s.2.size < 4611686018427387904) ∧ t.chgs.length < 4611686018427387904 ∧ ∀ c ∈ t.chgs, smallC c

end Go.Proofs.Ytjmojlhebjbgaaa
namespace Go.Proofs.Ytjmojlhebjbgaaa
open Go.RowKit

/-- a cell of a block that was made and stands -/
theorem box_cell {w W : World} {cs : List Value} {t : TypeId} (h : Below (w.heap.size + 1) (w.alloc (.cells cs.toArray t)) W) (i : Nat) (v : Value) (hv : cs[i]? = some v) : W.cell? ⟨w.heap.size, i, none⟩ = some v :=
  (h.cell (p := ⟨w.heap.size, i, none⟩) (Nat.lt_succ_self _)).trans ((Whole.fresh w t cs).cell i v hv)

def fitB (x : Bat) : Prop := x.chgs.length < 4611686018427387904 ∧ ∀ c ∈ x.chgs, smallC c

set_option maxHeartbeats 2000000 in
set_option maxRecDepth 100000 in
theorem soundS_any (x : Sta) (hl : x.chests.length < 4611686018427387904) (v : Value) (w : World) (hv : RdI w w.heap.size v x.chests) :
    Calls Try.prog 38 #[sval x v] w fun e w' => e = .returned (.bool (decide (soundS x))) ∧ Below w.heap.size w w' := by
  obtain ⟨a, b, c, l⟩ := x
  obtain ⟨R, hR⟩ : ∃ R, R = decide (soundS ⟨a, b, c, l⟩) := ⟨_, rfl⟩
  rw [← hR]
  unfold soundS at hR
  unfold sval
  simp only at hR hl hv ⊢
  have hF := fun W B h => from0_any [a, b, c] (.slice (some ⟨w.heap.size + 1, 0, none⟩) 3 3) W B h (by simp)
  have hi1 := RdI.lit (w.alloc (.cells #[.int .i64 a, .int .i64 b, .int .i64 c, v] 29)) [a, b, c]
  simp only [World.size_alloc, List.map_cons, List.map_nil, List.length_cons, List.length_nil] at hi1
  have hb2 : Below w.heap.size w ((w.alloc (.cells #[.int .i64 a, .int .i64 b, .int .i64 c, v] 29)).alloc (.cells #[.int .i64 a, .int .i64 b, .int .i64 c] 3)) := ((Below.refl _ _).alloc (Nat.le_refl _) _).alloc (by simp) _
  have hA := nodes_any l v _ _ (hv.next hb2) hl
  obtain ⟨D1, hD1⟩ : ∃ D1, D1 = decide (∀ n ∈ [a, b, c], 0 ≤ n) := ⟨_, rfl⟩
  obtain ⟨D2, hD2⟩ : ∃ D2, D2 = decide (∀ n ∈ l, 0 ≤ n ∧ n ≤ 255) := ⟨_, rfl⟩
  rw [← hD1] at hF
  rw [← hD2] at hA
  have e1 : (∀ n ∈ [a, b, c], 0 ≤ n) ↔ 0 ≤ a ∧ 0 ≤ b ∧ 0 ≤ c := by simp
  have hRR : R = (D1 && (decide (l.length ≤ 16) && D2)) := by
    rw [hR, hD1, hD2, ← Bool.decide_and, ← Bool.decide_and]
    exact decide_eq_decide.2 ⟨fun h => ⟨e1.2 h.1, h.2⟩, fun h => ⟨e1.1 h.1, h.2⟩⟩
  have HF := Lib.hid (hF _ _ hi1); clear hF hi1
  have HA := Lib.hid hA; clear hA
  have HB2 := Lib.hid hb2; clear hb2
  obtain ⟨A1, c1, rfl, _, _⟩ := hv.at
  clear hR hD1 hD2 e1 hv
  have HRR := Lib.hid hRR; clear hRR
  go_enter Try.func38, Try.ntmps38
  go_wp2_with fail
  refine HF.out.mono ?_
  rintro e w1 ⟨rfl, rfl⟩
  cases D1 with
  | false =>
    go_wp2_with fail
    go_ret
    exact ⟨by rw [HRR.out]; rfl, HB2.out⟩
  | true =>
    by_cases h16 : l.length ≤ 16
    · have hr : R = D2 := by rw [HRR.out, decide_eq_true h16]; simp
      have HR2 := Lib.hid hr; clear hr
      have h16i : (l.length : Int) ≤ 16 := by omega
      go_wp2_with fail
      refine HA.out.mono ?_
      rintro e w3 ⟨rfl, rfl⟩
      cases D2 with
      | false =>
        go_wp2_with fail
        go_ret
        exact ⟨by rw [HR2.out]; rfl, HB2.out⟩
      | true =>
        go_wp2_with fail
        go_ret
        exact ⟨by rw [HR2.out]; rfl, HB2.out⟩
    · have hr : R = false := by rw [HRR.out, decide_eq_false h16]; simp
      have HR2 := Lib.hid hr; clear hr
      have h16i : ¬ (l.length : Int) ≤ 16 := by omega
      go_wp2_with fail
      go_ret
      exact ⟨by rw [HR2.out]; rfl, HB2.out⟩
end Go.Proofs.Ytjmojlhebjbgaaa
namespace Go.Proofs.Ytjmojlhebjbgaaa
theorem int_of_wf {i : Int} (h : (Lit.int .i64 i).wf = true) : -9223372036854775808 ≤ i ∧ i < 9223372036854775808 := by
  have h1 : IntKind.i64.min = -9223372036854775808 := rfl
  have h2 : IntKind.i64.max = 9223372036854775807 := rfl
  simp only [Lit.wf, Bool.and_eq_true, decide_eq_true_eq] at h
  omega
theorem nat_of_wfu8 {i : Int} (h : (Lit.int .u8 i).wf = true) : ∃ n : Nat, i = (n : Int) ∧ n < 256 := by
  have h1 : IntKind.u8.min = 0 := rfl
  have h2 : IntKind.u8.max = 255 := rfl
  simp only [Lit.wf, Bool.and_eq_true, decide_eq_true_eq] at h
  exact ⟨i.toNat, by omega, by omega⟩
theorem nat_of_wfu16 {i : Int} (h : (Lit.int .u16 i).wf = true) : ∃ n : Nat, i = (n : Int) ∧ n < 65536 := by
  have h1 : IntKind.u16.min = 0 := rfl
  have h2 : IntKind.u16.max = 65535 := rfl
  simp only [Lit.wf, Bool.and_eq_true, decide_eq_true_eq] at h
  exact ⟨i.toNat, by omega, by omega⟩
theorem nat_of_wfu32 {i : Int} (h : (Lit.int .u32 i).wf = true) : ∃ n : Nat, i = (n : Int) ∧ n < 2 ^ 32 := by
  have h1 : IntKind.u32.min = 0 := rfl
  have h2 : IntKind.u32.max = 4294967295 := rfl
  simp only [Lit.wf, Bool.and_eq_true, decide_eq_true_eq] at h
  exact ⟨i.toNat, by omega, by omega⟩
end Go.Proofs.Ytjmojlhebjbgaaa
namespace Go.Proofs.Ytjmojlhebjbgaaa
open Go.ChangeShapes Go.WideShapes Go.ChangeAt Go.RowKit Go.Joins Go.Deep

theorem array8 {α : Type} {cs : Array α} (h : cs.size = 8) : ∃ c0 c1 c2 c3 c4 c5 c6 c7, cs = #[c0, c1, c2, c3, c4, c5, c6, c7] := by
  obtain ⟨l⟩ := cs
  match l, h with
  | [c0, c1, c2, c3, c4, c5, c6, c7], _ => exact ⟨c0, c1, c2, c3, c4, c5, c6, c7, rfl⟩
section
variable {H : Type} {enc : TypeId × Value → H} {P : Program} {w : World} {base : Nat} {spare : Nat → Bool} {held : Bool}
theorem open_agg8 {r : Reach} {b0 : Nat} {t : TypeId} {f0 f1 f2 f3 f4 f5 f6 f7 : Field} {v : Value} {d : DataW H} {p : List MemPlace} (hs : P.underlying t = some (.struct #[f0, f1, f2, f3, f4, f5, f6, f7])) (hone : oneCellFields P #[f0, f1, f2, f3, f4, f5, f6, f7] = true) (hC : P.cellsOf t = 8)
    (hv : Value.okWide P w r b0 t v) (h : DataW.Trod enc P w base spare held t v d p) :
    ∃ (v0 v1 v2 v3 v4 v5 v6 v7 : Value) (y0 y1 y2 y3 y4 y5 y6 y7 : DataW H × List MemPlace) (n : Nat), v = .agg #[v0, v1, v2, v3, v4, v5, v6, v7] ∧ d = .agg [y0.1, y1.1, y2.1, y3.1, y4.1, y5.1, y6.1, y7.1] ∧
      DataW.trod enc P w base spare held n f0.type [v0] = some y0 ∧ DataW.trod enc P w base spare held n f1.type [v1] = some y1 ∧ DataW.trod enc P w base spare held n f2.type [v2] = some y2 ∧ DataW.trod enc P w base spare held n f3.type [v3] = some y3 ∧ DataW.trod enc P w base spare held n f4.type [v4] = some y4 ∧ DataW.trod enc P w base spare held n f5.type [v5] = some y5 ∧ DataW.trod enc P w base spare held n f6.type [v6] = some y6 ∧ DataW.trod enc P w base spare held n f7.type [v7] = some y7 := by
  obtain ⟨cs, rfl, hsz⟩ := okWide_struct hs hv
  obtain ⟨c0, c1, c2, c3, c4, c5, c6, c7, rfl⟩ := array8 (hsz.trans hC)
  obtain ⟨fuel, hf⟩ := h
  obtain ⟨xs, n, _, hx, hl, hlen, hff⟩ := DataW.trod_struct hs hf
  match xs, hlen with
  | [y0, y1, y2, y3, y4, y5, y6, y7], _ =>
    obtain ⟨o0, k0⟩ := hone_of hone 0 f0 rfl
    obtain ⟨o1, k1⟩ := hone_of hone 1 f1 rfl
    obtain ⟨o2, k2⟩ := hone_of hone 2 f2 rfl
    obtain ⟨o3, k3⟩ := hone_of hone 3 f3 rfl
    obtain ⟨o4, k4⟩ := hone_of hone 4 f4 rfl
    obtain ⟨o5, k5⟩ := hone_of hone 5 f5 rfl
    obtain ⟨o6, k6⟩ := hone_of hone 6 f6 rfl
    obtain ⟨o7, k7⟩ := hone_of hone 7 f7 rfl
    have g0 := hff 0 f0 rfl
    have g1 := hff 1 f1 rfl
    have g2 := hff 2 f2 rfl
    have g3 := hff 3 f3 rfl
    have g4 := hff 4 f4 rfl
    have g5 := hff 5 f5 rfl
    have g6 := hff 6 f6 rfl
    have g7 := hff 7 f7 rfl
    simp only [Prod.mk.injEq] at hx
    exact ⟨c0, c1, c2, c3, c4, c5, c6, c7, y0, y1, y2, y3, y4, y5, y6, y7, n, rfl, by simpa using hx.1, by simpa [Value.cells, o0, k0] using g0, by simpa [Value.cells, o1, k1] using g1, by simpa [Value.cells, o2, k2] using g2, by simpa [Value.cells, o3, k3] using g3, by simpa [Value.cells, o4, k4] using g4, by simpa [Value.cells, o5, k5] using g5, by simpa [Value.cells, o6, k6] using g6, by simpa [Value.cells, o7, k7] using g7⟩
theorem slice_of {T e : TypeId} (hT : P.underlying T = some (.slice e)) {n : Nat} {v : Value} {y : DataW H × List MemPlace} (h : DataW.trod enc P w base spare held n T [v] = some y) : (∃ a len cap, v = .slice a len cap) ∧ DataW.Trod enc P w base spare held T v y.1 y.2 := by
  have hs : ∃ a len cap, v = .slice a len cap := by
    rcases open_slice hT h with ⟨hcs, _⟩ | ⟨a, len, cap, _, _, _, _, hcs, _⟩
    · exact ⟨none, 0, 0, by simpa using hcs⟩
    · exact ⟨some a, len, cap, by simpa using hcs⟩
  refine ⟨hs, ?_⟩
  obtain ⟨a, len, cap, rfl⟩ := hs
  exact ⟨n, by simpa [Value.cells] using h⟩
end
set_option maxRecDepth 100000 in
/-- a slice of bytes that came in reads as a list -/
theorem open_bytesF {H : Type} {enc : TypeId × Value → H} {W : World} {v : Value} {d : DataW H} {p : List MemPlace} (hv : ∃ a len cap, v = .slice a len cap) (h : DataW.Trod enc Try.prog W 0 (fun _ => true) true 42 v d p) :
    ∃ l, RdB W W.heap.size v l ∧ SizedB d l := by
  obtain ⟨a0, len, cap, rfl⟩ := hv
  obtain ⟨fuel, hf⟩ := h
  rcases open_ints Try.underlying42 Try.underlying5 (by kernel_rfl) hf with ⟨hcs, hx⟩ | ⟨a, len', cap', zs, hcs, _, hl, hm, hz, hx, hcell, hwz⟩
  · simp only [Value.cells] at hcs
    have e : Value.slice a0 len cap = .slice none 0 0 := by simpa using hcs
    injection e with e1 e2 e3
    subst e1 e2 e3
    simp only [Prod.mk.injEq] at hx
    exact ⟨[], Rd.nil _ _, .inl ⟨hx.1, rfl⟩⟩
  · simp only [Value.cells] at hcs
    have e : Value.slice a0 len cap = .slice (some a) len' cap' := by simpa using hcs
    injection e with e1 e2 e3
    subst e1 e2 e3
    simp only [Prod.mk.injEq] at hx
    obtain ⟨rfl, rfl⟩ := hx
    simp only [if_true] at hz
    have hb : ∀ n ∈ zs, 0 ≤ n ∧ n < 256 := fun n hn => by
      have h := hwz n hn
      have h1 : IntKind.u8.min = 0 := rfl
      have h2 : IntKind.u8.max = 255 := rfl
      simp only [Lit.wf, Bool.and_eq_true, decide_eq_true_eq] at h
      omega
    refine ⟨(zs.take len).map fun n => UInt8.ofNat n.toNat, ?_, .inr ⟨_, _, rfl, by simp [lits]⟩⟩
    have hlen : ((zs.take len).map fun n => UInt8.ofNat n.toNat).length = len := by simp; omega
    refine ⟨some a, cap, by rw [hlen], by rw [hlen]; exact hl, fun i hi => ?_⟩
    have hi' : i < len := by omega
    have hc := hcell i (by omega)
    have hsp : a.spot = none := by
      have h0 := hcell 0 (by omega)
      have e0 : a.add 0 = a := rfl
      rw [e0] at h0
      exact World.cell?_spot h0
    rw [addr_add a i hsp] at hc
    have hblk := World.block_lt_of_cell? _ _ hc
    refine ⟨a.block, a.off, by cases a; simp only at hsp; subst hsp; rfl, hblk, fun j u hu => ?_⟩
    match j, hu with
    | 0, hu =>
      simp only [byteEnc, List.getElem?_cons_zero, Option.some.injEq] at hu
      subst hu
      have hlt : i < zs.length := by omega
      have := hb zs[i] (List.getElem_mem hlt)
      rw [Nat.mul_one, Nat.add_zero, hc]
      simp [List.getD, hlt]
      omega
    | j + 1, hu => simp [byteEnc] at hu
set_option maxRecDepth 100000 in
/-- a slice of ints that came in reads as a list -/
theorem open_intsF {H : Type} {enc : TypeId × Value → H} {W : World} {v : Value} {d : DataW H} {p : List MemPlace} (hv : ∃ a len cap, v = .slice a len cap) (h : DataW.Trod enc Try.prog W 0 (fun _ => true) true 27 v d p) :
    ∃ l, RdI W W.heap.size v l ∧ SizedI d l ∧ ∀ n ∈ l, -9223372036854775808 ≤ n ∧ n < 9223372036854775808 := by
  obtain ⟨a0, len, cap, rfl⟩ := hv
  obtain ⟨fuel, hf⟩ := h
  rcases open_ints Try.underlying27 Try.underlying3 (by kernel_rfl) hf with ⟨hcs, hx⟩ | ⟨a, len', cap', zs, hcs, _, hl, hm, hz, hx, hcell, hwz⟩
  · simp only [Value.cells] at hcs
    have e : Value.slice a0 len cap = .slice none 0 0 := by simpa using hcs
    injection e with e1 e2 e3
    subst e1 e2 e3
    simp only [Prod.mk.injEq] at hx
    exact ⟨[], Rd.nil _ _, .inl ⟨hx.1, rfl⟩, by simp⟩
  · simp only [Value.cells] at hcs
    have e : Value.slice a0 len cap = .slice (some a) len' cap' := by simpa using hcs
    injection e with e1 e2 e3
    subst e1 e2 e3
    simp only [Prod.mk.injEq] at hx
    obtain ⟨rfl, rfl⟩ := hx
    simp only [if_true] at hz
    have hb : ∀ n ∈ zs, -9223372036854775808 ≤ n ∧ n < 9223372036854775808 := fun n hn => by
      have h := hwz n hn
      have h1 : IntKind.i64.min = -9223372036854775808 := rfl
      have h2 : IntKind.i64.max = 9223372036854775807 := rfl
      simp only [Lit.wf, Bool.and_eq_true, decide_eq_true_eq] at h
      omega
    have hlen : (zs.take len).length = len := by simp; omega
    refine ⟨zs.take len, ⟨some a, cap, by rw [hlen], by rw [hlen]; exact hl, fun i hi => ?_⟩, .inr ⟨_, _, rfl, by simp [lits]⟩, fun n hn => hb n (List.mem_of_mem_take hn)⟩
    have hi' : i < len := by omega
    have hc := hcell i (by omega)
    have hsp : a.spot = none := by
      have h0 := hcell 0 (by omega)
      have e0 : a.add 0 = a := rfl
      rw [e0] at h0
      exact World.cell?_spot h0
    rw [addr_add a i hsp] at hc
    have hblk := World.block_lt_of_cell? _ _ hc
    refine ⟨a.block, a.off, by cases a; simp only at hsp; subst hsp; rfl, hblk, fun j u hu => ?_⟩
    match j, hu with
    | 0, hu =>
      simp only [encI, List.getElem?_cons_zero, Option.some.injEq] at hu
      subst hu
      have hlt : i < zs.length := by omega
      rw [Nat.mul_one, Nat.add_zero, hc]
      simp [List.getD, hlt]
    | j + 1, hu => simp [encI] at hu
/-- what is known of the data of a list -/
def SizedL {H α : Type} (Ok : α → DataW H → Prop) (d : DataW H) (l : List α) : Prop := (d = .nil ∧ l = []) ∨ ∃ el sp, d = .slice el sp ∧ el.length = l.length ∧ ∀ i (_ : i < l.length), ∃ d', el[i]? = some d' ∧ Ok l[i] d'
set_option maxRecDepth 100000 in
/-- a slice that came in reads as a list, if each element's cells are known -/
theorem open_rowsF {H α : Type} [Inhabited α] {e2 : α → List Value} {k : Nat} (hk : 0 < k) (he2 : ∀ x, (e2 x).length = k) {T e : TypeId} (hT : Try.prog.underlying T = some (.slice e)) (hc : Try.prog.cellsOf e = k) (Ok : α → DataW H → Prop)
    {enc : TypeId × Value → H} {W : World} (one : ∀ fuel cs x, DataW.trod enc Try.prog W 0 (fun _ => true) true fuel e cs = some x → ∃ s, cs = e2 s ∧ Ok s x.1)
    {v : Value} {d : DataW H} {p : List MemPlace} (hv : ∃ a len cap, v = .slice a len cap) (h : DataW.Trod enc Try.prog W 0 (fun _ => true) true T v d p) :
    ∃ l, Rd e2 k W W.heap.size v l ∧ SizedL Ok d l := by
  obtain ⟨a0, len, cap, rfl⟩ := hv
  obtain ⟨fuel, hf⟩ := h
  rcases open_slice hT hf with ⟨hcs, hx⟩ | ⟨a, len', cap', m, n, D, Pl, hcs, _, hl, _, hm, hx, hi⟩
  · simp only [Value.cells] at hcs
    have e : Value.slice a0 len cap = .slice none 0 0 := by simpa using hcs
    injection e with e1 e2 e3
    subst e1 e2 e3
    simp only [Prod.mk.injEq] at hx
    exact ⟨[], Rd.nil _ _, .inl ⟨hx.1, rfl⟩⟩
  · simp only [Value.cells] at hcs
    have e : Value.slice a0 len cap = .slice (some a) len' cap' := by simpa using hcs
    injection e with e1 e2' e3
    subst e1 e2' e3
    simp only [Prod.mk.injEq] at hx
    obtain ⟨rfl, rfl⟩ := hx
    simp only [if_true] at hm
    subst hm
    have hcell : ∀ i, i < len → ∃ s : α, Ok s (D i) ∧ ∀ j, j < k → W.cell? (a.add (i * k + j)) = (e2 s)[j]? := fun i hi' => by
      obtain ⟨cs', hc', ht⟩ := hi i (Nat.lt_of_lt_of_le hi' hl)
      rw [hc] at hc'
      obtain ⟨s, rfl, hok⟩ := one _ _ _ ht
      obtain ⟨_, hlen, hat⟩ := World.cells?_some hc'
      refine ⟨s, hok, fun j hj => ?_⟩
      have h0 := hat j (by omega)
      rw [Go.Deep.add_add] at h0
      exact h0
    obtain ⟨f, hf⟩ : ∃ f : Nat → α, ∀ i, i < len → Ok (f i) (D i) ∧ ∀ j, j < k → W.cell? (a.add (i * k + j)) = (e2 (f i))[j]? := by
      refine ⟨fun i => if h : i < len then (hcell i h).choose else default, fun i hi' => ?_⟩
      simp only [dif_pos hi']
      exact (hcell i hi').choose_spec
    refine ⟨(List.range len).map f, ⟨some a, m, by simp, by simpa using hl, fun i hs => ?_⟩, .inr ⟨_, _, rfl, by simp, fun i hs => ?_⟩⟩
    · have hlt : i < len := by simpa using hs
      have h0 := (hf i hlt).2 0 hk
      rw [List.getElem?_eq_getElem (by rw [he2]; exact hk)] at h0
      have hblk := World.block_lt_of_cell? _ _ h0
      have hba : (a.add (i * k + 0)).block = a.block := by unfold Addr.add; split <;> rfl
      have hsp : a.spot = none := by
        have h0 := (hf 0 (by omega)).2 0 hk
        rw [List.getElem?_eq_getElem (by rw [he2]; exact hk), Nat.zero_mul] at h0
        exact World.cell?_spot (a := a.add (0 + 0)) h0
      refine ⟨a.block, a.off, by cases a; simp only at hsp; subst hsp; rfl, by omega, fun j u hu => ?_⟩
      have hj : j < k := by
        rcases Nat.lt_or_ge j k with h' | h'
        · exact h'
        · rw [List.getElem?_eq_none (by rw [he2]; exact h')] at hu; cases hu
      have h1 := (hf i hlt).2 j hj
      rw [addr_add a _ hsp] at h1
      simp only [List.getElem_map, List.getElem_range] at hu
      rw [hu] at h1
      rw [← h1]
      congr 2
      omega
    · have hlt : i < len := by simpa using hs
      exact ⟨D i, by simp [hlt], by simpa using (hf i hlt).1⟩

/-- the data of a pair, of a change -/
def PairD {H : Type} (s : K × K) (d : DataW H) : Prop := d = .agg [.lit (.string s.1.data.toList), .lit (.string s.2.data.toList)]
def ChgD {H : Type} (c : Chg) (d : DataW H) : Prop := ∃ y, d = .agg [y, .lit (.string c.key.data.toList), .lit (.string c.val.data.toList)]

section
variable {H : Type} {enc : TypeId × Value → H} {w : World} {base : Nat} {spare : Nat → Bool} {held : Bool}
set_option maxRecDepth 100000 in
theorem chg_of_cells {fuel : Nat} {cs : List Value} {x : DataW H × List MemPlace} (h : DataW.trod enc Try.prog w base spare held fuel 134 cs = some x) : ∃ s : Chg, cs = encC s ∧ ChgD s x.1 := by
  obtain ⟨y0, y1, y2, n, hx, hlen, h0, h1, h2⟩ := trod_struct3 Try.underlying134 h
  rw [show Try.prog.cellsOf 134 = 3 by kernel_rfl] at hlen
  match cs, hlen with
  | [u, v, t], _ =>
    have c9 : Try.prog.cellsOf 9 = 1 := by kernel_rfl
    have c3 : Try.prog.cellsOf 3 = 1 := by kernel_rfl
    simp [c9, c3] at h0 h1 h2
    obtain ⟨m, em, _, _⟩ := DataW.trod_int Try.underlying3 h0
    obtain ⟨a, ea, xa, ha⟩ := DataW.trod_string Try.underlying9 h1
    obtain ⟨b, eb, xb, hb⟩ := DataW.trod_string Try.underlying9 h2
    simp at em ea eb
    exact ⟨⟨m, a, b⟩, by rw [em, ea, eb]; rfl, y0.1, by rw [hx, xa, xb]⟩
end
theorem weights_el {H : Type} {P : Program} {T e : TypeId} (hu : P.underlying T = some (.slice e)) {el sp : List (DataW H)} {i : Nat} {d' : DataW H} (hi : el[i]? = some d') {n : Nat} (hn : n ∈ d'.weights P e) : n ∈ (DataW.slice el sp).weights P T := by
  have key : ∀ (el : List (DataW H)) (i : Nat), el[i]? = some d' → n ∈ DataW.weightsAll P e el := by
    intro el
    induction el with
    | nil => intro i h; simp at h
    | cons x r ih =>
      intro i h
      cases i with
      | zero => simp at h; subst h; simp [DataW.weightsAll, hn]
      | succ i => simp at h; simp [DataW.weightsAll, ih i h]
  simp only [DataW.weights, hu, List.mem_cons, List.mem_append]
  exact .inr (.inl (key el i hi))

theorem weights_all {H : Type} {P : Program} {ts : List TypeId} {ds : List (DataW H)} (h : (DataW.weightsEach P ts ds).all (· ≤ reachBytes) = true) {j : Nat} {t : TypeId} {d : DataW H} (ht : ts[j]? = some t) (hd : ds[j]? = some d) : ∀ n ∈ d.weights P t, n ≤ reachBytes := fun n hn => by
  have := List.all_eq_true.1 h _ (DataW.weights_mem_each ht hd n hn)
  simpa using this
theorem slice_len {H : Type} {P : Program} {T e : TypeId} (hu : P.underlying T = some (.slice e)) {el sp : List (DataW H)} (hw : ∀ n ∈ (DataW.slice el sp).weights P T, n ≤ reachBytes) : (el.length + sp.length) * P.bytesOf e ≤ 140737488351232 := by
  have := hw ((el.length + sp.length) * P.bytesOf e) (by simp [DataW.weights, hu])
  rwa [show reachBytes = 140737488351232 from rfl] at this
set_option maxRecDepth 100000 in
theorem SizedB.len {H : Type} {d : DataW H} {l : List UInt8} (hs : SizedB d l) (hw : ∀ n ∈ d.weights Try.prog 42, n ≤ reachBytes) : l.length ≤ 140737488351232 := by
  rcases hs with ⟨_, rfl⟩ | ⟨el, sp, rfl, he⟩
  · simp
  · have := slice_len Try.underlying42 hw
    rw [show Try.prog.bytesOf 5 = 1 by kernel_rfl] at this
    omega
set_option maxRecDepth 100000 in
theorem SizedI.len {H : Type} {d : DataW H} {l : List Int} (hs : SizedI d l) (hw : ∀ n ∈ d.weights Try.prog 27, n ≤ reachBytes) : l.length ≤ 17592186043904 := by
  rcases hs with ⟨_, rfl⟩ | ⟨el, sp, rfl, he⟩
  · simp
  · have := slice_len Try.underlying27 hw
    rw [show Try.prog.bytesOf 3 = 8 by kernel_rfl] at this
    omega
set_option maxRecDepth 100000 in
theorem SizedL.lenC {H : Type} {d : DataW H} {l : List Chg} (hs : SizedL ChgD d l) (hw : ∀ n ∈ d.weights Try.prog 132, n ≤ reachBytes) : l.length < 4611686018427387904 ∧ ∀ c ∈ l, smallC c := by
  rcases hs with ⟨_, rfl⟩ | ⟨el, sp, rfl, he, hall⟩
  · simp
  · have h1 := slice_len Try.underlying132 hw
    rw [show Try.prog.bytesOf 134 = 40 by kernel_rfl] at h1
    refine ⟨by omega, fun s hs => ?_⟩
    obtain ⟨i, hi, rfl⟩ := List.getElem_of_mem hs
    obtain ⟨d', h2, y, rfl⟩ := hall i hi
    have hm : ∀ n, n ∈ (DataW.agg [y, .lit (.string l[i].key.data.toList), .lit (.string l[i].val.data.toList)]).weights Try.prog 134 → n ≤ reachBytes := fun n hn => hw n (weights_el Try.underlying132 h2 hn)
    have a := hm l[i].key.data.toList.length (by simp [DataW.weights, DataW.weightsEach, Try.underlying134])
    have b := hm l[i].val.data.toList.length (by simp [DataW.weights, DataW.weightsEach, Try.underlying134])
    rw [show reachBytes = 140737488351232 from rfl] at a b
    have e : ∀ k : K, k.data.toList.length = k.size := fun k => by simp
    rw [e] at a b
    exact ⟨by omega, by omega⟩
set_option maxRecDepth 100000 in
theorem open_sta {H : Type} {enc : TypeId × Value → H} {W : World} {base : Nat} {v : Value} {d : DataW H} {p : List MemPlace} (hv : Value.okWide Try.prog W .any base 29 v) (h : DataW.Trod enc Try.prog W 0 (fun _ => true) true 29 v d p) (hw : ∀ n ∈ d.weights Try.prog 29, n ≤ reachBytes) :
    ∃ (s : Sta) (x : Value), v = sval s x ∧ RdI W W.heap.size x s.chests ∧ (s.gen < 9223372036854775808 ∧ s.epoch < 9223372036854775808 ∧ s.recd < 9223372036854775808) ∧ s.chests.length ≤ 17592186043904 := by
  obtain ⟨v0, v1, v2, v3, y0, y1, y2, y3, n, rfl, rfl, _, h0, h1, h2, h3⟩ := open_agg4 Try.underlying29 (by kernel_rfl) (by kernel_rfl) hv h
  obtain ⟨i0, e0, _, g0⟩ := DataW.trod_int Try.underlying3 h0
  obtain ⟨i1, e1, _, g1⟩ := DataW.trod_int Try.underlying3 h1
  obtain ⟨i2, e2, _, g2⟩ := DataW.trod_int Try.underlying3 h2
  simp at e0 e1 e2
  obtain ⟨hs, ht⟩ := slice_of Try.underlying27 h3
  obtain ⟨l, hr, hz, _⟩ := open_intsF hs ht
  refine ⟨⟨i0, i1, i2, l⟩, v3, by rw [e0, e1, e2]; rfl, hr, ?_, hz.len (fun n hn => hw n (by simp only [DataW.weights, Try.underlying29, List.map_cons, List.map_nil, DataW.weightsEach, List.mem_append]; simp only [hn, true_or, or_true]))⟩
  have k0 := int_of_wf g0
  have k1 := int_of_wf g1
  have k2 := int_of_wf g2
  simp only
  omega
end Go.Proofs.Ytjmojlhebjbgaaa
namespace Go.Proofs.Ytjmojlhebjbgaaa

abbrev Bal := Int × Int
def lessB (a b : Bal) : Bool := if a.1 ≠ b.1 then decide (a.1 < b.1) else decide (a.2 < b.2)
theorem lessB_iff (a b : Bal) : lessB a b = true ↔ a.1 < b.1 ∨ (a.1 = b.1 ∧ a.2 < b.2) := by
  unfold lessB
  split <;> simp only [decide_eq_true_eq] <;> omega
theorem lessB_not (a b : Bal) : lessB a b = false ↔ b.1 < a.1 ∨ (a.1 = b.1 ∧ b.2 ≤ a.2) := by
  unfold lessB
  split <;> simp only [decide_eq_false_iff_not] <;> omega
theorem lessB_self (a : Bal) : lessB a a = false := by rw [lessB_not]; omega
theorem lessB_asymm {a b : Bal} (h : lessB a b = true) : lessB b a = false := by rw [lessB_iff] at h; rw [lessB_not]; omega
theorem lessB_trans {a b c : Bal} (h : lessB a b = true) (g : lessB b c = true) : lessB a c = true := by rw [lessB_iff] at *; omega
theorem lessB_total {a b : Bal} (h : a ≠ b) : lessB a b = true ∨ lessB b a = true := by
  rw [lessB_iff, lessB_iff]
  have : ¬ (a.1 = b.1 ∧ a.2 = b.2) := fun e => h (Prod.ext e.1 e.2)
  omega
theorem lessB_or (a b : Bal) : (lessB a b || lessB b a) = decide (a ≠ b) := by
  by_cases h : a = b
  · subst h; simp [lessB_self]
  · rcases lessB_total h with e | e <;> simp [e, h]

/-- a vow -/
structure Vw where
  prom : Bal
  at' : Bal
  took : Sta
instance : DecidableEq Vw := fun x y => decidable_of_iff (x.prom = y.prom ∧ x.at' = y.at' ∧ x.took = y.took) ⟨fun h => by cases x; cases y; simp only at h; obtain ⟨rfl, rfl, rfl⟩ := h; rfl, fun h => by subst h; simp⟩
def zeroV : Vw := ⟨(0, 0), (0, 0), zeroS⟩
def promV (v : Vw) (b : Bal) : Vw := if lessB v.prom b then { v with prom := b } else v
def takeV (v : Vw) (b : Bal) (s : Sta) : Vw := if lessB b v.prom then v else ⟨b, b, s⟩
/-- the vow that was taken at the greatest ballot, of equal ones the first -/
def bestV : Vw → List Vw → Vw
  | b, [] => b
  | b, x :: l => bestV (if lessB b.at' x.at' then x else b) l
theorem bestV_append (b : Vw) (l : List Vw) (x : Vw) : bestV b (l ++ [x]) = if lessB (bestV b l).at' x.at' then x else bestV b l := by
  induction l generalizing b with
  | nil => rfl
  | cons y l ih => exact ih _
theorem bestV_mem (b : Vw) (l : List Vw) : bestV b l = b ∨ bestV b l ∈ l := by
  induction l generalizing b with
  | nil => exact .inl rfl
  | cons y l ih =>
    rcases ih (if lessB b.at' y.at' then y else b) with e | e
    · rw [bestV, e]
      split
      · exact .inr (List.mem_cons_self ..)
      · exact .inl rfl
    · exact .inr (List.mem_cons_of_mem _ e)
/-- what stands for a vow: its state's numbers are Go's, its chests are not too many to read -/
def Vw.fits (v : Vw) : Prop := (v.prom.1 < 9223372036854775808 ∧ v.prom.2 < 9223372036854775808 ∧ v.at'.1 < 9223372036854775808 ∧ v.at'.2 < 9223372036854775808) ∧ v.took.gen < 9223372036854775808 ∧ v.took.epoch < 9223372036854775808 ∧ v.took.recd < 9223372036854775808

def soundV (v : Vw) : Prop := (0 ≤ v.prom.1 ∧ 0 ≤ v.prom.2 ∧ 0 ≤ v.at'.1 ∧ 0 ≤ v.at'.2) ∧ soundS v.took ∧ lessB v.prom v.at' = false
instance (v : Vw) : Decidable (soundV v) := by unfold soundV; exact inferInstance
def vowB (v : Vw) : List UInt8 := encs [v.prom.1, v.prom.2, v.at'.1, v.at'.2] ++ staB v.took
def encV (v : Vw) : List UInt8 × Int := if soundV v then (vowB v, 0) else ([], 2)
/-- the four numbers ahead of the state -/
def rd4 (S : Rest) : (Int × Int × Int × Int) × Rest := let a := rdN S; let b := rdN a.2; let c := rdN b.2; let d := rdN c.2; ((a.1, b.1, c.1, d.1), d.2)
def decV (l : List UInt8) : Vw × Int :=
  match (rd4 (some l)).2 with
  | none => (zeroV, 2)
  | some r =>
    let v : Vw := ⟨((rd4 (some l)).1.1, (rd4 (some l)).1.2.1), ((rd4 (some l)).1.2.2.1, (rd4 (some l)).1.2.2.2), (getSta r).1⟩
    if (getSta r).2 = 0 ∧ soundV v then (v, 0) else (zeroV, 2)
theorem decV_bad {l : List UInt8} (h : (rd4 (some l)).2 = none) : decV l = (zeroV, 2) := by
  unfold decV
  rw [h]
theorem decV_some {l r : List UInt8} {a b c d : Int} (h : rd4 (some l) = ((a, b, c, d), some r)) : decV l = if (getSta r).2 = 0 ∧ soundV ⟨(a, b), (c, d), (getSta r).1⟩ then (⟨(a, b), (c, d), (getSta r).1⟩, 0) else (zeroV, 2) := by
  unfold decV
  rw [h]
theorem dec_encV {v : Vw} (hs : soundV v) (hf : v.fits) : decV (vowB v) = (v, 0) := by
  have hs0 := hs
  obtain ⟨⟨h1, h2, h3, h4⟩, h5, h6⟩ := hs
  obtain ⟨⟨f1, f2, f3, f4⟩, f5⟩ := hf
  have e1 := rdN_enc (n := v.prom.1.toNat) (by omega) (enc v.prom.2.toNat ++ (enc v.at'.1.toNat ++ (enc v.at'.2.toNat ++ staB v.took)))
  have e2 := rdN_enc (n := v.prom.2.toNat) (by omega) (enc v.at'.1.toNat ++ (enc v.at'.2.toNat ++ staB v.took))
  have e3 := rdN_enc (n := v.at'.1.toNat) (by omega) (enc v.at'.2.toNat ++ staB v.took)
  have e4 := rdN_enc (n := v.at'.2.toNat) (by omega) (staB v.took)
  have eb : vowB v = enc v.prom.1.toNat ++ (enc v.prom.2.toNat ++ (enc v.at'.1.toNat ++ (enc v.at'.2.toNat ++ staB v.took))) := by simp [vowB, encs]
  have e : rd4 (some (vowB v)) = ((v.prom.1, v.prom.2, v.at'.1, v.at'.2), some (staB v.took)) := by
    rw [rd4, eb]
    simp only [e1, e2, e3, e4, Int.toNat_of_nonneg h1, Int.toNat_of_nonneg h2, Int.toNat_of_nonneg h3, Int.toNat_of_nonneg h4]
  rw [decV_some e, get_putS h5 f5, if_pos ⟨rfl, hs0⟩]
end Go.Proofs.Ytjmojlhebjbgaaa
namespace Go.Proofs.Ytjmojlhebjbgaaa

/-- what each council has promised (0: nothing), at which ballot it took (0: none), what; what each ballot was told, what it proposes (0: not yet), who was asked, who took -/
structure Px where
  p : Nat → Nat
  a : Nat → Nat
  t : Nat → Nat
  told : Nat → List (Nat × Nat)
  mine : Nat → Nat
  asked : Nat → Nat → Bool
  took : Nat → Nat → Bool
/-- so many of the first n -/
def cnt (n : Nat) (q : Nat → Bool) : Nat := (List.range n).countP q
theorem cnt_zero (q : Nat → Bool) : cnt 0 q = 0 := rfl
theorem cnt_succ (n : Nat) (q : Nat → Bool) : cnt (n + 1) q = cnt n q + if q n then 1 else 0 := by
  unfold cnt
  rw [List.range_succ, List.countP_append]
  by_cases h : q n <;> simp [h]
theorem cnt_congr {n : Nat} {q r : Nat → Bool} (h : ∀ i, i < n → q i = r i) : cnt n q = cnt n r := by
  unfold cnt
  exact List.countP_congr fun i hi => by rw [h i (List.mem_range.1 hi)]
theorem cnt_mono {n : Nat} {q r : Nat → Bool} (h : ∀ i, i < n → q i = true → r i = true) : cnt n q ≤ cnt n r := by
  unfold cnt
  exact List.countP_mono_left fun i hi => h i (List.mem_range.1 hi)
theorem cnt_set {n : Nat} {q : Nat → Bool} {c : Nat} (hc : c < n) (hq : q c = false) : cnt n (fun i => if i = c then true else q i) = cnt n q + 1 := by
  induction n with
  | zero => omega
  | succ n ih =>
    rw [cnt_succ, cnt_succ]
    by_cases e : c = n
    · subst e
      rw [cnt_congr (r := q) (fun i hi => by rw [if_neg (by omega)])]
      simp [hq]
    · rw [ih (by omega), if_neg (by omega : ¬ n = c)]
      omega
/-- two majorities have one in common -/
theorem cnt_meet {n : Nat} {q r : Nat → Bool} (h1 : n < 2 * cnt n q) (h2 : n < 2 * cnt n r) : ∃ c, c < n ∧ q c = true ∧ r c = true := by
  have key : ∀ m, (∀ c, c < m → ¬ (q c = true ∧ r c = true)) → cnt m q + cnt m r ≤ m := by
    intro m
    induction m with
    | zero => intro _; simp [cnt_zero]
    | succ m ih =>
      intro h
      have := ih (fun c hc => h c (by omega))
      have hm := h m (by omega)
      rw [cnt_succ, cnt_succ]
      by_cases e1 : q m = true <;> by_cases e2 : r m = true
      · exact absurd ⟨e1, e2⟩ hm
      all_goals simp [e1, e2]; omega
  refine Classical.byContradiction fun hno => ?_
  have := key n (fun c hc h => hno ⟨c, hc, h⟩)
  omega

/-- what Best answers: what was taken at the greatest ballot, of equal ones the first -/
def best : List (Nat × Nat) → Nat × Nat → Nat × Nat
  | [], b => b
  | x :: l, b => best l (if b.1 < x.1 then x else b)
def bestT (l : List (Nat × Nat)) : Nat := (best l (0, 0)).2
theorem best_spec : ∀ (l : List (Nat × Nat)) (b : Nat × Nat), b.1 ≤ (best l b).1 ∧ (∀ x ∈ l, x.1 ≤ (best l b).1) ∧ (best l b = b ∨ best l b ∈ l)
  | [], b => ⟨Nat.le_refl _, by simp, .inl rfl⟩
  | y :: l, b => by
    have ih := best_spec l (if b.1 < y.1 then y else b)
    have e : best (y :: l) b = best l (if b.1 < y.1 then y else b) := rfl
    rw [e]
    generalize best l (if b.1 < y.1 then y else b) = z at ih ⊢
    obtain ⟨h1, h2, h3⟩ := ih
    by_cases hy : b.1 < y.1
    · rw [if_pos hy] at h1 h3
      refine ⟨by omega, fun x hx => ?_, ?_⟩
      · rcases List.mem_cons.1 hx with rfl | hx
        · exact h1
        · exact h2 x hx
      · rcases h3 with h3 | h3
        · exact .inr (by simp [h3])
        · exact .inr (by simp [h3])
    · rw [if_neg hy] at h1 h3
      refine ⟨h1, fun x hx => ?_, ?_⟩
      · rcases List.mem_cons.1 hx with rfl | hx
        · omega
        · exact h2 x hx
      · rcases h3 with h3 | h3
        · exact .inl h3
        · exact .inr (by simp [h3])

/-- council c has promised ballot k (numbered k + 1) -/
def Px.promise (s : Px) (c k : Nat) : Px := { s with p := fun i => if i = c then k + 1 else s.p i }
/-- ballot k is told of council c's vow -/
def Px.tell (s : Px) (c k : Nat) : Px := { s with
  told := fun i => if i = k then s.told k ++ [(s.a c, s.t c)] else s.told i
  asked := fun i j => if i = k ∧ j = c then true else s.asked i j }
/-- ballot k has its state -/
def Px.fix (s : Px) (k x : Nat) : Px := { s with mine := fun i => if i = k then x else s.mine i }
/-- council c takes what ballot k proposes -/
def Px.take (s : Px) (c k : Nat) : Px := { s with
  p := fun i => if i = c then k + 1 else s.p i
  a := fun i => if i = c then k + 1 else s.a i
  t := fun i => if i = c then s.mine k else s.t i
  took := fun i j => if i = k ∧ j = c then true else s.took i j }
/-- it has not taken at ballot j, and never will -/
def Px.shut (s : Px) (j c : Nat) : Bool := decide (j + 1 < s.p c) && !s.took j c
structure Px.Ok (s : Px) (n : Nat) : Prop where
  /-- what a council took some ballot proposed, and it is told to have taken it -/
  at_ : ∀ c, s.a c ≤ s.p c ∧ (s.a c = 0 → s.t c = 0) ∧ ∀ j, s.a c = j + 1 → s.mine j ≠ 0 ∧ s.t c = s.mine j
  kept : ∀ j c, s.took j c = true → j + 1 ≤ s.a c ∧ s.mine j ≠ 0
  ask : ∀ k c, s.asked k c = true → k + 1 ≤ s.p c
  len : ∀ k, (s.told k).length = cnt n (s.asked k)
  /-- what a ballot was told: it names what some elder ballot proposed -/
  said : ∀ k x, x ∈ s.told k → x.1 ≤ k ∧ (x.1 = 0 → x.2 = 0) ∧ ∀ j, x.1 = j + 1 → s.mine j ≠ 0 ∧ x.2 = s.mine j
  /-- who was asked took nothing between what it told and the ballot -/
  gap : ∀ k c, s.asked k c = true → ∃ x ∈ s.told k, ∀ j, x.1 ≤ j → j < k → s.took j c = false
  none_ : ∀ k, n < 2 * cnt n (s.asked k) → s.mine k ≠ 0
  safe : ∀ k j, s.mine k ≠ 0 → j < k → (s.mine j ≠ 0 ∧ s.mine j = s.mine k) ∨ n < 2 * cnt n (s.shut j)
def Px.new : Px := ⟨fun _ => 0, fun _ => 0, fun _ => 0, fun _ => [], fun _ => 0, fun _ _ => false, fun _ _ => false⟩
theorem Px.Ok.new (n : Nat) : Px.new.Ok n := by
  refine ⟨fun c => ⟨Nat.le_refl _, fun _ => rfl, fun j h => (by cases h)⟩, fun j c h => (by cases h), fun k c h => (by cases h), fun k => ?_, fun k x h => (by cases h), fun k c h => (by cases h), fun k h => ?_, fun k j h => absurd rfl h⟩
  · have : cnt n (Px.new.asked k) = 0 := by
      unfold cnt
      exact List.countP_eq_zero.2 fun i _ h => by cases h
    rw [this]; rfl
  · have : cnt n (Px.new.asked k) = 0 := by
      unfold cnt
      exact List.countP_eq_zero.2 fun i _ h => by cases h
    omega
theorem shut_mono {s s' : Px} {n j : Nat} (hp : ∀ c, s.p c ≤ s'.p c) (ht : ∀ c, s'.took j c = true → s.took j c = true ∨ s.p c ≤ j + 1) (h : n < 2 * cnt n (s.shut j)) : n < 2 * cnt n (s'.shut j) := by
  have : cnt n (s.shut j) ≤ cnt n (s'.shut j) := cnt_mono fun c _ hc => by
    unfold Px.shut at hc ⊢
    simp only [Bool.and_eq_true, decide_eq_true_eq, Bool.not_eq_true'] at hc ⊢
    refine ⟨by have := hp c; omega, ?_⟩
    cases e : s'.took j c with
    | false => rfl
    | true =>
      rcases ht c e with h1 | h1
      · rw [hc.2] at h1; cases h1
      · omega
  omega
/-- a promise, given -/
theorem Px.Ok.promise {s : Px} {n c k : Nat} (h : s.Ok n) (hk : s.p c < k + 1) : (s.promise c k).Ok n := by
  have hp : ∀ i, s.p i ≤ (s.promise c k).p i := fun i => by
    unfold Px.promise; simp only; split
    · rename_i e; subst e; omega
    · exact Nat.le_refl _
  refine ⟨fun i => ⟨Nat.le_trans (h.at_ i).1 (hp i), (h.at_ i).2⟩, h.kept, fun i j hij => Nat.le_trans (h.ask i j hij) (hp j), h.len, h.said, h.gap, h.none_, fun i j hi hj => ?_⟩
  rcases h.safe i j hi hj with h1 | h1
  · exact .inl h1
  · exact .inr (shut_mono hp (fun c hc => .inl hc) h1)
/-- the ballot is told of it, and has no majority yet -/
theorem Px.Ok.tell {s : Px} {n c k : Nat} (h : s.Ok n) (hc : c < n) (hp : s.p c = k + 1) (ha : s.a c ≤ k) (hq : s.asked k c = false) (hm : ¬ n < 2 * ((s.told k).length + 1)) : (s.tell c k).Ok n := by
  have hcnt : cnt n ((s.tell c k).asked k) = cnt n (s.asked k) + 1 := by
    rw [← cnt_set hc hq]
    refine cnt_congr fun i _ => ?_
    unfold Px.tell; simp
  have hcnt2 : ∀ i, i ≠ k → cnt n ((s.tell c k).asked i) = cnt n (s.asked i) := fun i hi => cnt_congr fun j _ => by unfold Px.tell; simp [hi]
  have htold : ∀ i x, x ∈ (s.tell c k).told i → x ∈ s.told i ∨ (i = k ∧ x = (s.a c, s.t c)) := fun i x hx => by
    unfold Px.tell at hx; simp only at hx
    split at hx
    · rename_i e; subst e
      rcases List.mem_append.1 hx with hx | hx
      · exact .inl hx
      · exact .inr ⟨rfl, by simpa using hx⟩
    · exact .inl hx
  refine ⟨h.at_, h.kept, fun i j hij => ?_, fun i => ?_, fun i x hx => ?_, fun i j hij => ?_, fun i hi => ?_, h.safe⟩
  · unfold Px.tell at hij; simp only at hij
    split at hij
    · rename_i e; obtain ⟨rfl, rfl⟩ := e
      show _ ≤ s.p j
      omega
    · exact h.ask i j hij
  · by_cases e : i = k
    · subst e
      rw [hcnt, ← h.len]
      unfold Px.tell; simp
    · rw [hcnt2 i e, ← h.len]
      unfold Px.tell; simp [e]
  · rcases htold i x hx with h1 | ⟨rfl, rfl⟩
    · exact h.said i x h1
    · exact ⟨ha, (h.at_ c).2⟩
  · have hsub : ∀ x, x ∈ s.told i → x ∈ (s.tell c k).told i := fun x hx => by
      unfold Px.tell; simp only; split
      · rename_i e; subst e; simp [hx]
      · exact hx
    by_cases e : i = k ∧ j = c
    · obtain ⟨rfl, rfl⟩ := e
      refine ⟨(s.a j, s.t j), by unfold Px.tell; simp, fun l hl hlk => ?_⟩
      cases ht : s.took l j with
      | false => exact ht
      | true => have := (h.kept l j ht).1; simp only at hl; omega
    · have hij' : s.asked i j = true := by unfold Px.tell at hij; simp only [if_neg e] at hij; exact hij
      obtain ⟨x, hx, hg⟩ := h.gap i j hij'
      exact ⟨x, hsub x hx, hg⟩
  · by_cases e : i = k
    · subst e
      rw [hcnt, ← h.len] at hi
      exact absurd hi hm
    · rw [hcnt2 i e] at hi
      exact h.none_ i hi
/-- the ballot is told of it, and has a majority: it proposes what Best says, or its own -/
theorem Px.Ok.fix {s : Px} {n c k : Nat} (h : s.Ok n) (hc : c < n) (hp : s.p c = k + 1) (ha : s.a c ≤ k) (hq : s.asked k c = false) (h0 : s.mine k = 0) (hm : n < 2 * ((s.told k).length + 1)) :
    ((s.tell c k).fix k (if bestT (s.told k ++ [(s.a c, s.t c)]) = 0 then k + 1 else bestT (s.told k ++ [(s.a c, s.t c)]))).Ok n := by
  obtain ⟨x, hx⟩ : ∃ x, x = if bestT (s.told k ++ [(s.a c, s.t c)]) = 0 then k + 1 else bestT (s.told k ++ [(s.a c, s.t c)]) := ⟨_, rfl⟩
  rw [← hx]
  have hx0 : x ≠ 0 := by rw [hx]; split <;> omega
  have hcnt : cnt n ((s.tell c k).asked k) = cnt n (s.asked k) + 1 := by
    rw [← cnt_set hc hq]
    refine cnt_congr fun i _ => ?_
    unfold Px.tell; simp
  have hcnt2 : ∀ i, i ≠ k → cnt n ((s.tell c k).asked i) = cnt n (s.asked i) := fun i hi => cnt_congr fun j _ => by unfold Px.tell; simp [hi]
  have htoldk : (s.tell c k).told k = s.told k ++ [(s.a c, s.t c)] := by unfold Px.tell; simp
  have htold : ∀ i x, x ∈ (s.tell c k).told i → x ∈ s.told i ∨ (i = k ∧ x = (s.a c, s.t c)) := fun i x hx => by
    unfold Px.tell at hx; simp only at hx
    split at hx
    · rename_i e; subst e
      rcases List.mem_append.1 hx with hx | hx
      · exact .inl hx
      · exact .inr ⟨rfl, by simpa using hx⟩
    · exact .inl hx
  have hmine : ∀ j, ((s.tell c k).fix k x).mine j = if j = k then x else s.mine j := fun j => rfl
  have hmk : ∀ j y, s.mine j ≠ 0 ∧ y = s.mine j → ((s.tell c k).fix k x).mine j ≠ 0 ∧ y = ((s.tell c k).fix k x).mine j := fun j y hj => by
    have e : ¬ j = k := fun e => hj.1 (by rw [e]; exact h0)
    rw [hmine, if_neg e]
    exact hj
  have hsaid : ∀ i y, y ∈ (s.tell c k).told i → y.1 ≤ i ∧ (y.1 = 0 → y.2 = 0) ∧ ∀ j, y.1 = j + 1 → s.mine j ≠ 0 ∧ y.2 = s.mine j := fun i y hy => by
    rcases htold i y hy with h1 | ⟨rfl, rfl⟩
    · exact h.said i y h1
    · exact ⟨ha, (h.at_ c).2⟩
  have hasked : ∀ i j, (s.tell c k).asked i j = true → i + 1 ≤ s.p j := fun i j hij => by
    unfold Px.tell at hij; simp only at hij
    split at hij
    · rename_i e; obtain ⟨rfl, rfl⟩ := e; omega
    · exact h.ask i j hij
  have hgap : ∀ i j, (s.tell c k).asked i j = true → ∃ y ∈ (s.tell c k).told i, ∀ l, y.1 ≤ l → l < i → s.took l j = false := fun i j hij => by
    have hsub : ∀ y, y ∈ s.told i → y ∈ (s.tell c k).told i := fun y hy => by
      unfold Px.tell; simp only; split
      · rename_i e; subst e; simp [hy]
      · exact hy
    by_cases e : i = k ∧ j = c
    · obtain ⟨rfl, rfl⟩ := e
      refine ⟨(s.a j, s.t j), by unfold Px.tell; simp, fun l hl hlk => ?_⟩
      cases ht : s.took l j with
      | false => rfl
      | true => have := (h.kept l j ht).1; simp only at hl; omega
    · have hij' : s.asked i j = true := by unfold Px.tell at hij; simp only [if_neg e] at hij; exact hij
      obtain ⟨y, hy, hg⟩ := h.gap i j hij'
      exact ⟨y, hsub y hy, hg⟩
  refine ⟨fun i => ⟨(h.at_ i).1, (h.at_ i).2.1, fun j hj => hmk j _ ((h.at_ i).2.2 j hj)⟩, fun j i hj => ⟨(h.kept j i hj).1, ?_⟩, hasked, fun i => ?_, fun i y hy => ?_, hgap, fun i hi => ?_, fun i j hi hj => ?_⟩
  · rw [hmine]
    split
    · exact hx0
    · exact (h.kept j i hj).2
  · show ((s.tell c k).told i).length = cnt n ((s.tell c k).asked i)
    by_cases e : i = k
    · subst e
      rw [hcnt, ← h.len, htoldk]; simp
    · rw [hcnt2 i e, ← h.len]
      unfold Px.tell; simp [e]
  · obtain ⟨h1, h2, h3⟩ := hsaid i y hy
    exact ⟨h1, h2, fun j hj => hmk j _ (h3 j hj)⟩
  · rw [hmine]
    split
    · exact hx0
    · rename_i e
      refine h.none_ i ?_
      rw [← hcnt2 i e]
      exact hi
  · have hshut : ((s.tell c k).fix k x).shut j = s.shut j := rfl
    rw [hshut, hmine, hmine]
    by_cases e : i = k
    · subst e
      rw [if_pos rfl, if_neg (by omega : ¬ j = i)]
      obtain ⟨h1, h2, h3⟩ := best_spec (s.told i ++ [(s.a c, s.t c)]) (0, 0)
      have hbt : bestT (s.told i ++ [(s.a c, s.t c)]) = (best (s.told i ++ [(s.a c, s.t c)]) (0, 0)).2 := rfl
      rw [hbt] at hx
      generalize best (s.told i ++ [(s.a c, s.t c)]) (0, 0) = z at h1 h2 h3 hx
      have hall : z.1 ≤ j → n < 2 * cnt n (s.shut j) := fun hz => by
        have hle : cnt n ((s.tell c i).asked i) ≤ cnt n (s.shut j) := cnt_mono fun d _ hd => by
          obtain ⟨y, hy, hg⟩ := hgap i d hd
          rw [htoldk] at hy
          have := h2 y hy
          have := hasked i d hd
          unfold Px.shut
          rw [hg j (by omega) hj]
          simp
          omega
        rw [hcnt, ← h.len] at hle
        omega
      by_cases hz : z.1 = 0
      · exact .inr (hall (by omega))
      · obtain ⟨i0, hi0⟩ : ∃ i0, z.1 = i0 + 1 := ⟨z.1 - 1, by omega⟩
        have hzT : z ∈ (s.tell c i).told i := by
          rw [htoldk]
          rcases h3 with h3 | h3
          · rw [h3] at hz; simp at hz
          · exact h3
        obtain ⟨g1, _, g3⟩ := hsaid i z hzT
        obtain ⟨g4, g5⟩ := g3 i0 hi0
        have hxe : x = s.mine i0 := by rw [hx, g5, if_neg g4]
        by_cases hji : j = i0
        · subst hji
          exact .inl ⟨g4, hxe.symm⟩
        · by_cases hlt : i0 < j
          · exact .inr (hall (by omega))
          · rcases h.safe i0 j g4 (by omega) with h5 | h5
            · exact .inl ⟨h5.1, by rw [hxe]; exact h5.2⟩
            · exact .inr h5
    · rw [hmine, if_neg e] at hi
      rw [if_neg e]
      rcases h.safe i j hi hj with h5 | h5
      · have hjk : ¬ j = k := fun e => h5.1 (by rw [e]; exact h0)
        rw [if_neg hjk]
        exact .inl h5
      · exact .inr h5
/-- a state, taken -/
theorem Px.Ok.take {s : Px} {n c k : Nat} (h : s.Ok n) (hp : s.p c ≤ k + 1) (hm : s.mine k ≠ 0) : (s.take c k).Ok n := by
  have hpm : ∀ i, s.p i ≤ (s.take c k).p i := fun i => by
    unfold Px.take; simp only; split
    · rename_i e; subst e; exact hp
    · exact Nat.le_refl _
  have htook : ∀ j d, (s.take c k).took j d = true → s.took j d = true ∨ (j = k ∧ d = c) := fun j d hd => by
    unfold Px.take at hd; simp only at hd
    split at hd
    · rename_i e; exact .inr e
    · exact .inl hd
  have ham : ∀ i, s.a i ≤ (s.take c k).a i := fun i => by
    unfold Px.take; simp only; split
    · rename_i e; subst e; have := (h.at_ i).1; omega
    · exact Nat.le_refl _
  refine ⟨fun i => ?_, fun j d hd => ?_, fun i j hij => Nat.le_trans (h.ask i j hij) (hpm j), h.len, h.said, fun i d hd => ?_, h.none_, fun i j hi hj => ?_⟩
  · by_cases e : i = c
    · subst e
      unfold Px.take
      simp only [if_true]
      refine ⟨Nat.le_refl _, fun h => by omega, fun j hj => ?_⟩
      obtain rfl : k = j := by omega
      exact ⟨hm, rfl⟩
    · unfold Px.take
      simp only [if_neg e]
      exact h.at_ i
  · rcases htook j d hd with h1 | ⟨rfl, rfl⟩
    · exact ⟨Nat.le_trans (h.kept j d h1).1 (ham d), (h.kept j d h1).2⟩
    · refine ⟨?_, hm⟩
      unfold Px.take; simp
  · obtain ⟨y, hy, hg⟩ := h.gap i d hd
    refine ⟨y, hy, fun l hl hli => ?_⟩
    cases ht : (s.take c k).took l d with
    | false => rfl
    | true =>
      rcases htook l d ht with h1 | ⟨rfl, rfl⟩
      · rw [hg l hl hli] at h1; cases h1
      · have := h.ask i d hd; omega
  · rcases h.safe i j hi hj with h1 | h1
    · exact .inl h1
    · refine .inr (shut_mono hpm (fun d hd => ?_) h1)
      rcases htook j d hd with h2 | ⟨rfl, rfl⟩
      · exact .inl h2
      · exact .inr hp
/-- no two states are taken by majorities -/
theorem Px.Ok.one {s : Px} {n i j : Nat} (h : s.Ok n) (hi : n < 2 * cnt n (s.took i)) (hj : n < 2 * cnt n (s.took j)) : s.mine i = s.mine j := by
  have key : ∀ i j, j < i → n < 2 * cnt n (s.took i) → n < 2 * cnt n (s.took j) → s.mine i = s.mine j := fun i j hlt hi hj => by
    obtain ⟨c, _, hc, _⟩ := cnt_meet hi hi
    rcases h.safe i j (h.kept i c hc).2 hlt with h1 | h1
    · exact h1.2.symm
    · obtain ⟨d, _, hd1, hd2⟩ := cnt_meet hj h1
      unfold Px.shut at hd2
      rw [hd1] at hd2
      simp at hd2
  rcases Nat.lt_trichotomy i j with h1 | h1 | h1
  · exact (key j i h1 hj hi).symm
  · rw [h1]
  · exact key i j h1 hi hj

/-! ### the law's steps -/
/-- council c is asked for a promise by ballot k -/
def Px.askS (s : Px) (n c k : Nat) : Px :=
  if s.p c < k + 1 then
    (if s.asked k c = false ∧ s.mine k = 0 then
      (if n < 2 * ((s.told k).length + 1) then ((s.promise c k).tell c k).fix k (if bestT (s.told k ++ [(s.a c, s.t c)]) = 0 then k + 1 else bestT (s.told k ++ [(s.a c, s.t c)]))
        else (s.promise c k).tell c k)
      else s.promise c k)
    else s
/-- council c is given what ballot k proposes -/
def Px.takeS (s : Px) (c k : Nat) : Px := if k + 1 < s.p c then s else s.take c k
theorem Px.Ok.askS {s : Px} {n c k : Nat} (h : s.Ok n) (hc : c < n) : (s.askS n c k).Ok n := by
  unfold Px.askS
  by_cases hp : s.p c < k + 1
  · rw [if_pos hp]
    have h1 := h.promise hp
    have e1 : (s.promise c k).p c = k + 1 := by unfold Px.promise; simp
    have e2 : (s.promise c k).a c ≤ k := by have := (h.at_ c).1; show s.a c ≤ k; omega
    by_cases hq : s.asked k c = false ∧ s.mine k = 0
    · rw [if_pos hq]
      by_cases hm : n < 2 * ((s.told k).length + 1)
      · rw [if_pos hm]
        exact h1.fix hc e1 e2 hq.1 hq.2 hm
      · rw [if_neg hm]
        exact h1.tell hc e1 e2 hq.1 hm
    · rw [if_neg hq]
      exact h1
  · rw [if_neg hp]
    exact h
theorem Px.Ok.takeS {s : Px} {n c k : Nat} (h : s.Ok n) (hm : s.mine k ≠ 0) : (s.takeS c k).Ok n := by
  unfold Px.takeS
  by_cases hp : k + 1 < s.p c
  · rw [if_pos hp]; exact h
  · rw [if_neg hp]; exact h.take (by omega) hm
/-- what was chosen, a majority took -/
def Px.Chose (s : Px) (n x : Nat) : Prop := x = 0 ∨ ∃ j, n < 2 * cnt n (s.took j) ∧ s.mine j = x
theorem Px.Chose.askS {s : Px} {n x c k : Nat} (h : s.Chose n x) (hok : s.Ok n) : (s.askS n c k).Chose n x := by
  rcases h with h | ⟨j, h1, h2⟩
  · exact .inl h
  · refine .inr ⟨j, ?_, ?_⟩
    · have e : (s.askS n c k).took = s.took := by unfold Px.askS Px.promise Px.tell Px.fix; repeat (split <;> try rfl)
      rw [e]; exact h1
    · obtain ⟨d, _, hd, _⟩ := cnt_meet h1 h1
      have hm := (hok.kept j d hd).2
      rw [← h2]
      have key : ∀ y, s.mine k = 0 → (((s.promise c k).tell c k).fix k y).mine j = s.mine j := fun y h0 => by
        have e : ¬ j = k := fun e => hm (by rw [e]; exact h0)
        unfold Px.fix
        simp only
        rw [if_neg e]
        rfl
      unfold Px.askS
      by_cases hp : s.p c < k + 1
      · rw [if_pos hp]
        by_cases hq : s.asked k c = false ∧ s.mine k = 0
        · rw [if_pos hq]
          by_cases hM : n < 2 * ((s.told k).length + 1)
          · rw [if_pos hM]; exact key _ hq.2
          · rw [if_neg hM]; rfl
        · rw [if_neg hq]; rfl
      · rw [if_neg hp]
theorem Px.Chose.takeS {s : Px} {n x c k : Nat} (h : s.Chose n x) : (s.takeS c k).Chose n x := by
  rcases h with h | ⟨j, h1, h2⟩
  · exact .inl h
  · refine .inr ⟨j, ?_, ?_⟩
    · have : cnt n (s.took j) ≤ cnt n ((s.takeS c k).took j) := cnt_mono fun d _ hd => by
        unfold Px.takeS
        split
        · exact hd
        · unfold Px.take; simp only; split
          · rfl
          · exact hd
      omega
    · unfold Px.takeS
      split
      · exact h2
      · exact h2
/-- who has a majority proposes what was chosen -/
theorem Px.Chose.same {s : Px} {n x k : Nat} (h : s.Chose n x) (hok : s.Ok n) (hk : n < 2 * cnt n (s.took k)) : x = 0 ∨ x = s.mine k := by
  rcases h with h | ⟨j, h1, h2⟩
  · exact .inl h
  · right; rw [← h2]; exact hok.one h1 hk
theorem Px.Chose.now {s : Px} {n k : Nat} (hk : n < 2 * cnt n (s.took k)) : s.Chose n (s.mine k) := .inr ⟨k, hk, rfl⟩
end Go.Proofs.Ytjmojlhebjbgaaa

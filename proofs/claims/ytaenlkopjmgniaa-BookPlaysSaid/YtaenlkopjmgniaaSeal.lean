/- What Seal and Open answer, the program's and the reference's. -/
import Derived.Test.YtaenlkopjmgniaaSum
namespace Go.Proofs.Ytaenlkopjmgniaa
open Go.RowKit

/-- a number out of bytes, the lowest first -/
def val : List UInt8 → Nat
  | [] => 0
  | c :: r => c.toNat + 256 * val r
set_option maxRecDepth 100000 in
theorem val_append (a b : List UInt8) : val (a ++ b) = val a + 256 ^ a.length * val b := by
  induction a with
  | nil => simp [val]
  | cons c a ih => rw [List.cons_append, val, ih, val, List.length_cons, Nat.pow_succ, Nat.mul_add, Nat.add_assoc, Nat.mul_comm (256 ^ a.length) 256, Nat.mul_assoc]
set_option maxRecDepth 100000 in
theorem val_lt : ∀ l : List UInt8, val l < 256 ^ l.length
  | [] => by simp [val]
  | c :: l => by
    have := val_lt l
    have := byte_lt c
    rw [val, List.length_cons, Nat.pow_succ]
    omega
set_option maxRecDepth 100000 in
theorem val_four {t : Nat} (h : t < 2 ^ 32) : val (four t) = t := by
  simp only [four, val, byteAt_toNat]
  simp only [Nat.mul_zero, Nat.pow_zero, Nat.div_one, Nat.reduceMul, Nat.reducePow]
  omega
set_option maxRecDepth 100000 in
theorem four_val {l : List UInt8} (h : l.length = 4) : four (val l) = l := by
  match l, h with
  | [a, b, c, d], _ =>
    have ha := byte_lt a
    have hb := byte_lt b
    have hc := byte_lt c
    have hd := byte_lt d
    simp only [four, val, byteAt, Nat.mul_zero, Nat.pow_zero, Nat.div_one, Nat.reduceMul, Nat.reducePow, Nat.add_zero]
    have e : ∀ (x : Nat) (y : UInt8), x % 256 = y.toNat → UInt8.ofNat x = y := fun x y h => by
      apply UInt8.toNat_inj.1
      simpa using h
    rw [e _ a (by omega), e _ b (by omega), e _ c (by omega), e _ d (by omega)]
set_option maxRecDepth 100000 in
theorem fill_set (F : List UInt8) (j m : Nat) (h : j < F.length) : ((F.take j) ++ List.replicate (m + 1) 0).set j F[j] = F.take (j + 1) ++ List.replicate m 0 := by
  rw [List.set_append_right _ _ (by simp; omega)]
  simp only [List.length_take, Nat.min_eq_left (Nat.le_of_lt h), Nat.sub_self, List.replicate_succ, List.set_cons_zero]
  rw [List.take_add_one, List.getElem?_eq_getElem h, Option.toList_some, List.append_assoc, List.singleton_append]

set_option maxHeartbeats 400000 in
set_option maxRecDepth 100000 in
theorem ahead_any (l : List UInt8) (h4 : 4 ≤ l.length) (v : Value) (w : World) (B : Nat) (hv : RdB w B v l) : Calls Try.prog 43 #[v] w fun e w' => e = .returned (.int .u32 (val (l.take 4) : Nat)) ∧ w' = w := by
  obtain ⟨A, c, rfl, hc, hi⟩ := hv.at
  have HI := Lib.hid hi; clear hi
  have HV := Lib.hid hv; clear hv
  go_enter Try.func43, Try.ntmps43
  go_wp2
  go_loop [3, 5] (fun rv i => ∃ j q : Nat, j ≤ 4 ∧ i = .int .i64 j ∧ rv = .int .u32 q ∧ q = val (l.take j)) (fun _ i => 4 - (intOf i).toNat)
  case atStart => exact ⟨0, 0, Nat.zero_le _, rfl, rfl, rfl⟩
  case round =>
    obtain ⟨j, q, hj, rfl, rfl, he⟩ := hrel
    have hq := val_lt (l.take j)
    rw [← he, List.length_take, Nat.min_eq_left (by omega)] at hq
    have HE := Lib.hid he; clear he
    by_cases hlt : j < 4
    · obtain ⟨b, o, rfl, hbB, h1⟩ := HI.out j (by omega)
      have h2 := byte32 (l[j]'(by omega))
      have hx : l[j].toNat * 2 ^ (8 * j) < 4294967296 := by
        have h8 := byte_lt l[j]
        have hp : 2 ^ (8 * j) ≤ 2 ^ (8 * 3) := Nat.pow_le_pow_right (by decide) (by omega)
        calc _ ≤ 255 * 2 ^ (8 * 3) := Nat.mul_le_mul (by omega) hp
          _ < _ := by decide
      have hor : bits .or .u32 (q : Int) ((l[j].toNat : Int) * 2 ^ (8 * j) % 4294967296) = ((q + l[j].toNat * 2 ^ (8 * j) : Nat) : Int) := by
        have e : ((l[j].toNat : Int) * 2 ^ (8 * j) % 4294967296) = ((l[j].toNat * 2 ^ (8 * j) : Nat) : Int) := by
          have : ((l[j].toNat : Int) * 2 ^ (8 * j)) = ((l[j].toNat * 2 ^ (8 * j) : Nat) : Int) := by simp
          rw [this]; omega
        rw [e]
        have hq2 : q < 2 ^ (8 * j) := by rw [Nat.pow_mul]; exact hq
        have hp : 2 ^ (8 * j) ≤ 2 ^ 32 := Nat.pow_le_pow_right (by decide) (by omega)
        have := bits_join_low .u32 32 (by decide) wraps_u32 (8 * j) (q : Int) ((l[j].toNat * 2 ^ (8 * j) : Nat) : Int) (by omega) (by exact_mod_cast hq2) (by exact_mod_cast Nat.lt_of_lt_of_le hq2 hp) (by omega) (by simp) (by exact_mod_cast hx)
        rw [this]; simp
      have hs : q + l[j].toNat * 2 ^ (8 * j) = val (l.take (j + 1)) := by
        rw [List.take_add_one, List.getElem?_eq_getElem (by omega), val_append, ← HE.out, List.length_take, Nat.min_eq_left (by omega), Nat.pow_mul, Nat.mul_comm]
        simp [val]
      have HS := Lib.hid hs; clear hs hx
      go_wp2_with fail
      go_round
      case rel => exact ⟨j + 1, _, by omega, by go_num, rfl, HS.out⟩
      case measure => simp [intOf]; omega
    · go_wp2_with fail
      go_ret
      exact ⟨by rw [HE.out, show j = 4 by omega]; rfl, rfl⟩

def sealed (l : List UInt8) : List UInt8 := four (sum l) ++ l
set_option maxRecDepth 100000 in
theorem byteAt_conv {t : Nat} (j : Nat) : IntKind.u8.wrap ((t : Int) / 2 ^ (8 * j)) = ((byteAt t j).toNat : Int) := by
  rw [IntKind.wrap_u8, byteAt_toNat]
  simp
set_option maxRecDepth 100000 in
theorem four_get (t j : Nat) (h : j < (four t).length) : (four t)[j] = byteAt t j := by
  match j, h with
  | 0, _ => rfl
  | 1, _ => rfl
  | 2, _ => rfl
  | 3, _ => rfl

set_option maxHeartbeats 1000000 in
set_option maxRecDepth 100000 in
theorem seal_any (l : List UInt8) (v : Value) (w : World) (hv : RdB w w.heap.size v l) (hl : l.length ≤ 140737488355328) : Calls Try.prog 46 #[v] w fun e w' => e = .returned (.slice (some ⟨w.heap.size, 0, none⟩) (sealed l).length (sealed l).length) ∧ RowB w' w.heap.size (sealed l) ∧ Below w.heap.size w w' := by
  have hsum := sum_any l v w _ hv (by omega)
  obtain ⟨A, c, rfl, hc, _⟩ := hv.at
  obtain ⟨t, ht⟩ : ∃ t, t = sum l := ⟨_, rfl⟩
  have htl : t < 2 ^ 32 := by rw [ht]; exact sum_lt l
  rw [← ht] at hsum
  have HT := Lib.hid ht; clear ht
  have HS := Lib.hid hsum; clear hsum
  have HV := Lib.hid hv; clear hv
  obtain ⟨g, hg⟩ : ∃ g, g = w.heap.size := ⟨_, rfl⟩
  have HG := Lib.hid hg
  have hw : IntKind.i64.wrap (4 + (l.length : Int)) = ((l.length + 4 : Nat) : Int) := by rw [IntKind.wrap_i64]; omega
  clear hg
  go_enter Try.func46, Try.ntmps46
  go_wp2_with fail
  refine HS.out.mono ?_
  rintro e w1 ⟨rfl, rfl⟩
  go_wp2_with (refine wpList_makeB rfl _ _ rfl (l.length + 4) ?c1 ?c2 (by omega) ?c3)
  case c1 => rfl
  case c2 => rfl
  intro w2 hr2 hb2
  rw [← HG.out] at hr2
  rw [show w1.heap.size = g from HG.out.symm]
  have HR2 := Lib.hid hr2; clear hr2
  have HB2 := Lib.hid hb2; clear hb2
  go_wp2_with fail
  go_loopw [12] (fun i wr => ∃ j : Nat, j ≤ 4 ∧ i = .int .i64 j ∧ RowB wr g ((four t).take j ++ List.replicate (l.length + 4 - j) 0) ∧ Below g w1 wr) (fun i _ => 4 - (intOf i).toNat)
  case atStart => exact ⟨0, Nat.zero_le _, rfl, HR2.out, by rw [HG.out]; exact HB2.out⟩
  case round =>
    obtain ⟨j, hj, rfl, hr, hb⟩ := hrel
    by_cases hlt : j < 4
    · have hfl : j < (four t).length := hlt
      have hcl : j < ((four t).take j ++ List.replicate (l.length + 4 - j) (0 : UInt8)).length := by simp [four]; omega
      have hc0 := hr.cell j hcl
      have hf0 := hr.frozen j
      have hset := hr.set j (byteAt t j)
      rw [show l.length + 4 - j = (l.length + 4 - (j + 1)) + 1 by omega, ← four_get t j hfl, fill_set _ _ _ hfl, four_get t j hfl] at hset
      have hcv := byteAt_conv (t := t) j
      have hbs := hb.setCell (p := ⟨g, j, none⟩) (Nat.le_refl _) (.int .u8 ((byteAt t j).toNat : Int))
      have HR := Lib.hid hset
      have HB := Lib.hid hbs
      clear hr hset hbs
      go_wp2_with fail
      go_roundw
      case rel => exact ⟨j + 1, by omega, by go_num, HR.out, HB.out⟩
      case measure => simp [intOf]; omega
    · obtain rfl : j = 4 := by omega
      rw [show l.length + 4 - 4 = l.length by omega, show (four t).take 4 = four t from rfl] at hr
      have hfit : 4 + l.length ≤ (four t ++ List.replicate l.length (0 : UInt8)).length := by simp [four]; omega
      have hfin : (four t ++ List.replicate l.length (0 : UInt8)).take 4 ++ (l ++ (four t ++ List.replicate l.length (0 : UInt8)).drop (4 + l.length)) = sealed l := by
        rw [sealed, ← HT.out, List.take_append_of_le_length (by simp [four]), show (four t).take 4 = four t from rfl, List.drop_eq_nil_of_le (by simp [four]; omega), List.append_nil]
      have hle : (sealed l).length = l.length + 4 := by simp [sealed, four]
      have hrv : RdB wr g (.slice A l.length c) l := by have := HV.out; rw [← HG.out] at this; exact this.below hb (Nat.le_refl _)
      have HR := Lib.hid hr
      have HB := Lib.hid hb
      have HF := Lib.hid hfin
      have HL := Lib.hid hle
      have HRV := Lib.hid hrv
      clear hr hb hfin hle hrv
      by_cases hz : l = []
      · subst hz
        go_wp2_with (refine wpList_copyB rfl (.tmp 25) (.tmp 26) rfl g 4 _ _ (four t ++ List.replicate ([] : List UInt8).length 0) [] _ g rfl ?c1 rfl HRV.out HR.out hfit g w1 HB.out (Nat.le_refl _) ?c2)
        case c1 => intro h; simp at h
        intro w4 hr4 hb4
        go_wp2_with fail
        go_ret
        exact ⟨by rw [HL.out, ← HG.out]; rfl, by rw [← HG.out, ← HF.out]; simpa using hr4.out, by rw [← HG.out]; exact hb4⟩
      · go_wp2_with (with_reducible show wpList _ _ _ (⟨some 27, _, _, _, _, _⟩ :: _) _ _; go_must (refine wpList_copyB rfl (.tmp 25) (.tmp 26) rfl g 4 (some ⟨g, 4, none⟩) _ (four t ++ List.replicate l.length 0) l (.slice A l.length c) g rfl ?d1 rfl HRV.out HR.out hfit g w1 HB.out (Nat.le_refl _) ?d2))
        intro w4 hr4 hb4
        go_wp2_with fail
        go_ret
        exact ⟨by rw [HL.out, ← HG.out]; rfl, by rw [← HG.out, ← HF.out]; simpa using hr4.out, by rw [← HG.out]; exact hb4⟩
end Go.Proofs.Ytaenlkopjmgniaa

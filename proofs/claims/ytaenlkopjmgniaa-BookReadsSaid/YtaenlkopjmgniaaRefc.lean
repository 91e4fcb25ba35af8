/- What the reference's Seal and Open answer. -/
import Derived.Test.YtaenlkopjmgniaaOpn
import Derived.Test.YtaenlkopjmgniaaPlanB
import Derived.Lib.SlBytesConst
import Derived.Lib.SmallJoins
namespace Go.Proofs.Ytaenlkopjmgniaa
open Go.RowKit


set_option maxHeartbeats 1000000 in
set_option maxRecDepth 100000 in
theorem rseal_any (l : List UInt8) (v : Value) (w : World) (hv : RdB w w.heap.size v l) (hl : l.length ≤ 140737488355320) : Calls Try.prog 28 #[v] w fun e w' => ∃ A c, e = .returned (.slice A (sealed l).length c) ∧ OwnB w' w.heap.size (.slice A (sealed l).length c) (sealed l) ∧ Below w.heap.size w w' := by
  have hsum := rsum_any l v w _ hv (by omega)
  obtain ⟨A, c, rfl, hc, _⟩ := hv.at
  obtain ⟨t, ht⟩ : ∃ t, t = sum l := ⟨_, rfl⟩
  have htl : t < 2 ^ 32 := by rw [ht]; exact sum_lt l
  rw [← ht] at hsum
  have HT := Lib.hid ht; clear ht
  have HS := Lib.hid hsum; clear hsum
  have HV := Lib.hid hv; clear hv
  go_enter Try.func28, Try.ntmps28
  go_wp2_with fail
  refine HS.out.mono ?_
  rintro e w1 ⟨rfl, rfl⟩
  go_wp2_with fail
  go_loopw [3, 4, 5] (fun sv ov i wr => ∃ (j : Nat) (x : Nat) (A' : Option Addr) (c' : Nat), j ≤ 4 ∧ i = .int .i64 j ∧ sv = .int .u32 x ∧ x = t / 2 ^ (8 * j) ∧ ov = .slice A' j c' ∧ OwnB wr w1.heap.size (.slice A' j c') ((four t).take j) ∧ Below w1.heap.size w1 wr) (fun _ _ i _ => 4 - (intOf i).toNat)
  case atStart => exact ⟨0, t, _, _, Nat.zero_le _, rfl, rfl, by simp, rfl, Own.empty _ _ (Nat.le_refl _), (Below.refl _ _).alloc (Nat.le_refl _) _⟩
  case round =>
    obtain ⟨j, x, A', c', hj, rfl, rfl, hx, rfl, ho, hb⟩ := hrel
    have HX := Lib.hid hx; clear hx
    have HO := Lib.hid ho; clear ho
    have HB := Lib.hid hb; clear hb
    by_cases hlt : j < 4
    · have h1 : (x : Int) % 256 = ((byteAt t j).toNat : Int) := by rw [byteAt_toNat, ← HX.out]; omega
      have h2 : (x : Int).tdiv 256 = ((x / 256 : Nat) : Int) := by rw [Int.tdiv_eq_ediv_of_nonneg (by omega)]; simp
      have hlj : ((four t).take j).length = j := by simp [four]; omega
      have HLJ := Lib.hid hlj; clear hlj
      go_wp2_with (at_builtin; go_must (refine wpList_addB rfl _ _ rfl w1.heap.size (.slice A' j c') ((four t).take j) rfl ?x1 (wr.heap.size + 1) _ [byteAt t j] rfl (RdB.one wr _) (by rw [HLJ.out]; simp; omega) ?x2 w1.heap.size w1 ?x3 (Nat.le_refl _) ?x4))
      case x1 => exact HO.out.alloc _
      case x2 => have := HB.out.size; simp; omega
      case x3 => exact HB.out.alloc HB.out.size _
      intro A2 c2 w2 ho2 hb2 hz2
      have hx32 : x < 2 ^ 32 := by rw [HX.out]; exact Nat.lt_of_le_of_lt (Nat.div_le_self _ _) htl
      have htk : (four t).take j ++ [byteAt t j] = (four t).take (j + 1) := by
        have hfl : j < (four t).length := hlt
        rw [List.take_add_one, List.getElem?_eq_getElem hfl, four_get]; rfl
      have ho3 : OwnB w2 w1.heap.size (.slice A2 (j + 1) c2) ((four t).take (j + 1)) := by
        have := ho2.out
        rwa [htk, Nat.min_eq_left (show j ≤ (four t).length from hj)] at this
      have hmin : min j (four t).length = j := Nat.min_eq_left (show j ≤ (four t).length from hj)
      have HO3 := Lib.hid ho3
      have HM := Lib.hid hmin
      clear ho3 htk hmin
      go_wp2_with fail
      go_roundw
      case rel => exact ⟨j + 1, x / 256, A2, c2, by omega, by go_num, by go_num, by rw [HX.out, Nat.div_div_eq_div_mul, show 8 * (j + 1) = 8 * j + 8 by omega, Nat.pow_add], by rw [HM.out], HO3.out, hb2.out⟩
      case measure => simp [intOf]; omega
    · obtain rfl : j = 4 := by omega
      rw [show (four t).take 4 = four t from rfl] at HO
      go_wp2_with (at_builtin; go_must (refine wpList_addB rfl _ _ rfl w1.heap.size (.slice A' 4 c') (four t) rfl HO.out w1.heap.size (.slice A l.length c) l rfl (HV.out.below HB.out (Nat.le_refl _)) (by simp [four]; omega) HB.out.size w1.heap.size w1 HB.out (Nat.le_refl _) ?y4))
      intro A2 c2 w2 ho2 hb2 hz2
      go_wp2_with fail
      go_ret
      have e : (four t ++ l) = sealed l := by rw [sealed, ← HT.out]
      have e2 : (four t).length + l.length = (sealed l).length := by rw [← e, List.length_append]
      have ho3 := ho2.out
      rw [e, e2] at ho3
      exact ⟨A2, c2, by rw [← e2]; rfl, ho3, hb2.out⟩

set_option maxRecDepth 100000 in
theorem sealed_eq {p r : List UInt8} (hp : p.length = 4) : sealed r = p ++ r ↔ val p = sum r := by
  unfold sealed
  rw [List.append_left_inj]
  constructor
  · intro h
    rw [← h, val_four (sum_lt r)]
  · intro h
    rw [← h, four_val hp]
end Go.Proofs.Ytaenlkopjmgniaa

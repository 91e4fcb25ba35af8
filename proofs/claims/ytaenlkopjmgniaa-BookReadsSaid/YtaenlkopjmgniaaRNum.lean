/- What the reference's Num answers. -/
import Derived.Test.YtaenlkopjmgniaaByte
import Derived.Test.YtaenlkopjmgniaaNum
namespace Go.Proofs.Ytaenlkopjmgniaa
open Go.RowKit

/-- three results: a number, how many bytes, the error -/
def numVal (x : Nat × Nat × Nat) : Value := .tuple #[.int .i64 (x.1 : Int), .int .i64 (x.2.1 : Int), .int .i64 (x.2.2 : Int)]

set_option maxHeartbeats 2000000 in
set_option maxRecDepth 100000 in
theorem rnum_any (l : List UInt8) (v : Value) (w : World) (B : Nat) (hv : RdB w B v l) (hl : l.length < 4611686018427387904) : Calls Try.prog 40 #[v] w fun e w' => e = .returned (numVal (numAns l)) ∧ w' = w := by
  obtain ⟨A, c, rfl, hc, hi⟩ := hv.at
  have HI := Lib.hid hi; clear hi
  have HV := Lib.hid hv; clear hv
  obtain ⟨R, hR⟩ : ∃ R, R = numAns l := ⟨_, rfl⟩
  rw [← hR]
  have HR := Lib.hid hR; clear hR
  go_enter Try.func40, Try.ntmps40
  go_wp2
  go_loop [5, 6, 7] (fun nv tv iv => ∃ (i n : Nat) (T : Int), i ≤ 9 ∧ i ≤ l.length ∧ iv = .int .i64 i ∧ nv = .int .i64 n ∧ tv = .int .i64 T ∧ n < 128 ^ i ∧ (i < 9 → T = ((128 ^ i : Nat) : Int)) ∧ R = numGo i n (128 ^ i) (l.drop i)) (fun _ _ iv => 9 - (intOf iv).toNat)
  case atStart => exact ⟨0, 0, 1, by omega, Nat.zero_le _, rfl, rfl, rfl, by simp, fun _ => rfl, by rw [HR.out]; rfl⟩
  case round =>
    obtain ⟨i, n, T, hi9, hil, rfl, rfl, rfl, hn, hT, he⟩ := hrel
    have HN := Lib.hid hn; clear hn
    have HE := Lib.hid he; clear he
    have HTT := Lib.hid hT; clear hT
    by_cases hlt : i < l.length
    · by_cases h9 : i < 9
      · obtain ⟨b, o, rfl, hbB, h1⟩ := HI.out i hlt
        have hd : l.drop i = l[i] :: l.drop (i + 1) := List.drop_eq_getElem_cons hlt
        have hgo := HE.out
        rw [hd, numGo, if_neg (by omega)] at hgo
        generalize l[i] = cc at h1 hgo
        have hcc := cc.toNat_lt
        obtain ⟨t, ht⟩ : ∃ t, t = 128 ^ i := ⟨_, rfl⟩
        have hTt : T = (t : Int) := by rw [HTT.out h9, ht]
        subst hTt
        obtain ⟨x, hx⟩ : ∃ x, x = cc.toNat % 128 := ⟨_, rfl⟩
        have hx1 : (cc.toNat : Int) % 128 = (x : Int) := by rw [hx]; simp
        obtain ⟨p, hp⟩ : ∃ p, p = x * t := ⟨_, rfl⟩
        have hp1 : (x : Int) * (t : Int) = (p : Int) := by rw [hp]; simp
        have hx7 : x < 128 := by omega
        have hnp1 : n + p < 128 ^ (i + 1) := by
          have hn' := HN.out
          rw [Nat.pow_succ]
          rw [← ht] at hn' ⊢
          have hle : x * t ≤ 127 * t := Nat.mul_le_mul_right t (by omega)
          omega
        have hnp : n + p < 9223372036854775808 := Nat.lt_of_lt_of_le hnp1 (Nat.pow_le_pow_right (by decide) (show i + 1 ≤ 9 by omega))
        obtain ⟨T2, hT2⟩ : ∃ T2, T2 = IntKind.i64.wrap ((t : Int) * 128) := ⟨_, rfl⟩
        have hT3 : i + 1 < 9 → T2 = ((128 ^ (i + 1) : Nat) : Int) := fun h => by
          have hle : 128 ^ (i + 1) ≤ 128 ^ 8 := Nat.pow_le_pow_right (by decide) (by omega)
          rw [hT2, Nat.pow_succ, ← ht, IntKind.wrap_i64]
          rw [Nat.pow_succ, ← ht] at hle
          omega
        rw [← ht, ← hx, ← hp] at hgo
        have hT4 : IntKind.i64.wrap ((t : Int) * 128) = T2 := hT2.symm
        have H1 := Lib.hid hnp1
        have H3 := Lib.hid hT3
        have HT := Lib.hid ht
        have HG := Lib.hid hgo
        clear hnp1 hT3 ht hgo hx hp hT2 hd
        by_cases hs : cc.toNat < 128
        · have hg2 := HG.out
          rw [if_pos hs] at hg2
          by_cases hz : cc.toNat = 0
          · by_cases hi0 : i > 0
            · rw [if_pos ⟨hz, hi0⟩] at hg2
              have HG2 := Lib.hid hg2; clear hg2
              go_wp2_with fail
              go_ret3
              exact ⟨by rw [HG2.out]; rfl, rfl⟩
            · rw [if_neg (by omega)] at hg2
              have hi00 : ¬ ((0 : Int) < (i : Int)) := by omega
              have HG2 := Lib.hid hg2; clear hg2
              have hx0 : x = 0 := by omega
              subst hx0
              go_wp2_with fail
              go_ret3
              exact ⟨by rw [HG2.out]; obtain rfl : p = 0 := (by simp at hp1; omega); rfl, rfl⟩
          · rw [if_neg (by omega)] at hg2
            have HG2 := Lib.hid hg2; clear hg2
            have hzi : ¬ ((cc.toNat : Int) = 0) := by omega
            go_wp2_with fail
            go_ret3
            exact ⟨by rw [HG2.out]; rfl, rfl⟩
        · have hg2 := HG.out
          rw [if_neg hs, HT.out, ← Nat.pow_succ] at hg2
          have HG2 := Lib.hid hg2; clear hg2
          have hsi : ¬ ((cc.toNat : Int) < 128) := by omega
          go_wp2_with fail
          go_round
          case rel => exact ⟨i + 1, n + p, T2, by omega, by omega, by go_num, by go_num, by first | rfl | go_num, H1.out, H3.out, HG2.out⟩
          case measure => simp [intOf]; omega
      · obtain rfl : i = 9 := by omega
        have hg2 := HE.out
        rw [List.drop_eq_getElem_cons hlt, numGo, if_pos (by omega)] at hg2
        have HG2 := Lib.hid hg2; clear hg2
        have hl9 : (9 : Int) ≤ (l.length : Int) := by omega
        go_wp2_with fail
        go_ret3
        exact ⟨by rw [HG2.out]; rfl, rfl⟩
    · obtain rfl : i = l.length := by omega
      have hg2 := HE.out
      rw [List.drop_length, numGo] at hg2
      by_cases h9 : l.length ≥ 9
      · rw [if_pos h9] at hg2
        have HG2 := Lib.hid hg2; clear hg2
        have hl9 : (9 : Int) ≤ (l.length : Int) := by omega
        go_wp2_with fail
        go_ret3
        exact ⟨by rw [HG2.out]; rfl, rfl⟩
      · rw [if_neg h9] at hg2
        have HG2 := Lib.hid hg2; clear hg2
        have hl9 : ¬ (9 : Int) ≤ (l.length : Int) := by omega
        go_wp2_with fail
        go_ret3
        exact ⟨by rw [HG2.out]; rfl, rfl⟩
end Go.Proofs.Ytaenlkopjmgniaa

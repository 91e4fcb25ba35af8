/- What the sums answer: the program's and the reference's, for every text and every world. -/
import Derived.Test.YtaenlkopjmgniaaRows
import Derived.Test.YtaenlkopjmgniaaCrc
import Derived.Test.YtaenlkopjmgniaaByte
import Derived.WalkKit
import Derived.WalkSpells
import Derived.WalkLawsBesides
import Derived.Lib.Hide
import Derived.Lib.EndianBits
import Derived.Sort.Walk0
namespace Go.Proofs.Ytaenlkopjmgniaa
open Go.RowKit

set_option maxRecDepth 100000 in
theorem xor_nat (k : IntKind) (j : Nat) (hj : j ≤ k.bits) (hk : ∀ n : Int, 0 ≤ n → n < 2 ^ j → k.wrap n = n) (a b : Nat) (ha : a < 2 ^ j) (hb : b < 2 ^ j) : bits .xor k a b = ((a ^^^ b : Nat) : Int) := by
  have hp : 2 ^ j ≤ 2 ^ k.bits := Nat.pow_le_pow_right (by decide) hj
  have ha' : a % 2 ^ k.bits = a := Nat.mod_eq_of_lt (Nat.lt_of_lt_of_le ha hp)
  have hb' : b % 2 ^ k.bits = b := Nat.mod_eq_of_lt (Nat.lt_of_lt_of_le hb hp)
  simp only [bits, BitVec.ofInt_natCast, BitVec.toNat_xor, BitVec.toNat_ofNat, ha', hb']
  exact hk _ (Int.natCast_nonneg _) (by exact_mod_cast Nat.xor_lt_two_pow ha hb)
set_option maxRecDepth 100000 in
theorem xor32 {a b : Nat} (ha : a < 2 ^ 32) (hb : b < 2 ^ 32) : bits .xor .u32 (a : Int) (b : Int) = ((a ^^^ b : Nat) : Int) := xor_nat .u32 32 (by decide) wraps_u32 a b ha hb
set_option maxRecDepth 100000 in
theorem xor8 {a b : Nat} (ha : a < 2 ^ 8) (hb : b < 2 ^ 8) : bits .xor .u8 (a : Int) (b : Int) = ((a ^^^ b : Nat) : Int) := xor_nat .u8 8 (by decide) wraps_u8 a b ha hb
set_option maxRecDepth 100000 in
theorem and1 {a : Nat} (ha : a < 2 ^ 32) : bits .and .u32 (a : Int) 1 = ((a % 2 : Nat) : Int) := by
  have := bits_mask .u32 32 (by decide) wraps_u32 1 (by decide) (a : Int) (by omega) (by exact_mod_cast ha)
  simpa using this

set_option maxHeartbeats 400000 in
set_option maxRecDepth 100000 in
theorem shift_any (r : Nat) (hr : r < 2 ^ 32) (w : World) : Calls Try.prog 54 #[.int .u32 r] w fun e w' => e = .returned (.int .u32 (steps 8 r : Nat)) ∧ w' = w := by
  go_enter Try.func54, Try.ntmps54
  go_wp2
  go_loop [0, 4] (fun rv i => ∃ j q : Nat, j ≤ 8 ∧ i = .int .i64 j ∧ rv = .int .u32 q ∧ q < 2 ^ 32 ∧ steps 8 r = steps (8 - j) q) (fun _ i => 8 - (intOf i).toNat)
  case atStart => exact ⟨0, r, Nat.zero_le _, rfl, rfl, hr, rfl⟩
  case round =>
    obtain ⟨j, q, hj, rfl, rfl, hq, he⟩ := hrel
    have HE := Lib.hid he; clear he
    by_cases hlt : j < 8
    · have h1 := and1 hq
      have h3 : bits .xor .u32 ((q : Int) / 2) 2197175160 = ((q / 2 ^^^ 2197175160 : Nat) : Int) := by
        have := xor32 (a := q / 2) (b := 2197175160) (by omega) (by decide)
        simpa using this
      rcases Nat.mod_two_eq_zero_or_one q with hm | hm
      all_goals
        rw [hm] at h1
        go_wp2_with fail
        go_round
        case rel => exact ⟨j + 1, step q, by omega, by go_num, by unfold step; rw [hm]; simp, step_lt hq, by rw [HE.out, show 8 - j = (8 - (j + 1)) + 1 by omega, steps]⟩
        case measure => simp [intOf]; omega
    · go_wp2_with fail
      go_ret
      exact ⟨by rw [HE.out, show 8 - j = 0 by omega]; rfl, rfl⟩

set_option maxRecDepth 100000 in
theorem byte32 (c : UInt8) : IntKind.u32.wrap (c.toNat : Int) = (c.toNat : Int) := wraps_u32 _ (by omega) (by have := byte_lt c; omega)
set_option maxRecDepth 100000 in
theorem run_take_succ (r : Nat) (l : List UInt8) (j : Nat) (h : j < l.length) : run r (l.take (j + 1)) = take8 (run r (l.take j)) l[j] := by
  rw [List.take_add_one, List.getElem?_eq_getElem h, run_append]; rfl

set_option maxHeartbeats 400000 in
set_option maxRecDepth 100000 in
theorem more_any (s : Nat) (hs : s < 2 ^ 32) (l : List UInt8) (v : Value) (w : World) (B : Nat) (hv : RdB w B v l) (hl : l.length < 4611686018427387904) : Calls Try.prog 50 #[.int .u32 s, v] w fun e w' => e = .returned (.int .u32 (more s l : Nat)) ∧ w' = w := by
  obtain ⟨A, c, rfl, hc, hi⟩ := hv.at
  have h0 : bits .xor .u32 IntKind.u32.max (s : Int) = ((4294967295 ^^^ s : Nat) : Int) := xor32 (a := 4294967295) (by decide) hs
  have hr0 : 4294967295 ^^^ s < 2 ^ 32 := Nat.xor_lt_two_pow (by decide) hs
  have HI := Lib.hid hi; clear hi
  have HV := Lib.hid hv; clear hv
  go_enter Try.func50, Try.ntmps50
  go_wp2
  go_loop [5, 12] (fun rv i => ∃ j q : Nat, j ≤ l.length ∧ i = .int .i64 j ∧ rv = .int .u32 q ∧ q < 2 ^ 32 ∧ q = run (4294967295 ^^^ s) (l.take j)) (fun _ i => l.length - (intOf i).toNat)
  case atStart => exact ⟨0, _, Nat.zero_le _, rfl, rfl, hr0, rfl⟩
  case round =>
    obtain ⟨j, q, hj, rfl, rfl, hq, he⟩ := hrel
    have HE := Lib.hid he; clear he
    by_cases hlt : j < l.length
    · obtain ⟨b, o, rfl, hbB, h1⟩ := HI.out j hlt
      have h2 := byte32 l[j]
      have h3 : bits .xor .u32 (q : Int) (l[j].toNat : Int) = ((q ^^^ l[j].toNat : Nat) : Int) := xor32 hq (by have := byte_lt l[j]; omega)
      have h4 : q ^^^ l[j].toNat < 2 ^ 32 := Nat.xor_lt_two_pow hq (by have := byte_lt l[j]; omega)
      go_wp2_with fail
      refine (shift_any _ h4 _).mono ?_
      rintro e w1 ⟨rfl, rfl⟩
      go_wp2_with fail
      go_round
      case rel => exact ⟨j + 1, steps 8 (q ^^^ l[j].toNat), by omega, by go_num, rfl, steps_lt h4 8, by rw [run_take_succ _ _ _ hlt, ← HE.out]; rfl⟩
      case measure => simp [intOf]; omega
    · have h5 : bits .xor .u32 IntKind.u32.max (q : Int) = ((4294967295 ^^^ q : Nat) : Int) := xor32 (a := 4294967295) (by decide) hq
      go_wp2_with fail
      go_ret
      exact ⟨by rw [HE.out, List.take_of_length_le (by omega), more, xcomm s, xcomm (run _ _)]; rfl, rfl⟩

set_option maxHeartbeats 400000 in
set_option maxRecDepth 100000 in
theorem sum_any (l : List UInt8) (v : Value) (w : World) (B : Nat) (hv : RdB w B v l) (hl : l.length < 4611686018427387904) : Calls Try.prog 44 #[v] w fun e w' => e = .returned (.int .u32 (sum l : Nat)) ∧ w' = w := by
  have HM := Lib.hid (more_any 0 (by decide) l v w B hv hl)
  obtain ⟨A, c, rfl, hc, hi⟩ := hv
  clear hi
  go_enter Try.func44, Try.ntmps44
  go_wp2_with fail
  refine HM.out.mono ?_
  rintro e w1 ⟨rfl, rfl⟩
  go_wp2_with fail
  go_ret
  exact ⟨rfl, rfl⟩

set_option maxHeartbeats 400000 in
set_option maxRecDepth 100000 in
theorem rmore_any (s : Nat) (hs : s < 2 ^ 32) (l : List UInt8) (v : Value) (w : World) (B : Nat) (hv : RdB w B v l) (hl : l.length < 4611686018427387904) : Calls Try.prog 47 #[.int .u32 s, v] w fun e w' => e = .returned (.int .u32 (more s l : Nat)) ∧ w' = w := by
  obtain ⟨A, c, rfl, hc, hi⟩ := hv.at
  have h0 : bits .xor .u32 (s : Int) 4294967295 = ((s ^^^ 4294967295 : Nat) : Int) := xor32 (b := 4294967295) hs (by decide)
  have hr0 : s ^^^ 4294967295 < 2 ^ 32 := Nat.xor_lt_two_pow hs (by decide)
  have HI := Lib.hid hi; clear hi
  have HV := Lib.hid hv; clear hv
  go_enter Try.func47, Try.ntmps47
  go_wp2
  go_loop [5, 6] (fun rv i => ∃ j q : Nat, j ≤ l.length ∧ i = .int .i64 j ∧ rv = .int .u32 q ∧ q < 2 ^ 32 ∧ q = run (s ^^^ 4294967295) (l.take j)) (fun _ i => l.length - (intOf i).toNat)
  case atStart => exact ⟨0, _, Nat.zero_le _, rfl, rfl, hr0, rfl⟩
  case round =>
    obtain ⟨j, q, hj, rfl, rfl, hq, he⟩ := hrel
    have HE := Lib.hid he; clear he
    by_cases hlt : j < l.length
    · obtain ⟨b, o, rfl, hbB, h1⟩ := HI.out j hlt
      have h2 := byte32 l[j]
      have h3 : bits .xor .u32 (q : Int) (l[j].toNat : Int) = ((q ^^^ l[j].toNat : Nat) : Int) := xor32 hq (by have := byte_lt l[j]; omega)
      have h4 : q ^^^ l[j].toNat < 2 ^ 32 := Nat.xor_lt_two_pow hq (by have := byte_lt l[j]; omega)
      go_wp2_with fail
      go_loop [5, 7] (fun rv i => ∃ m p : Nat, m ≤ 8 ∧ i = .int .i64 m ∧ rv = .int .u32 p ∧ p < 2 ^ 32 ∧ steps 8 (q ^^^ l[j].toNat) = steps (8 - m) p) (fun _ i => 8 - (intOf i).toNat)
      case atStart => exact ⟨0, _, Nat.zero_le _, rfl, rfl, h4, rfl⟩
      case round =>
        obtain ⟨m, p, hm, rfl, rfl, hp, hf⟩ := hrel
        have HF := Lib.hid hf; clear hf
        by_cases hlt2 : m < 8
        · have h1 : (p : Int).tmod 2 = ((p % 2 : Nat) : Int) := by rw [Int.tmod_eq_emod_of_nonneg (by omega)]; simp
          have h3 : bits .xor .u32 ((p : Int) / 2) 2197175160 = ((p / 2 ^^^ 2197175160 : Nat) : Int) := by
            have := xor32 (a := p / 2) (b := 2197175160) (by omega) (by decide)
            simpa using this
          have h6 : (p : Int).tdiv 2 = (p : Int) / 2 := Int.tdiv_eq_ediv_of_nonneg (by omega)
          rcases Nat.mod_two_eq_zero_or_one p with hm2 | hm2
          all_goals
            rw [hm2] at h1
            go_wp2_with fail
            go_round
            case rel => exact ⟨m + 1, step p, by omega, by go_num, by unfold step; rw [hm2]; simp, step_lt hp, by rw [HF.out, show 8 - m = (8 - (m + 1)) + 1 by omega, steps]⟩
            case measure => simp [intOf]; omega
        · go_wp2_with fail
          go_round
          case rel => exact ⟨j + 1, p, by omega, by go_num, rfl, hp, by rw [run_take_succ _ _ _ hlt, ← HE.out, take8, HF.out, show 8 - m = 0 by omega]; rfl⟩
          case measure => simp [intOf]; omega
    · have h5 : bits .xor .u32 (q : Int) 4294967295 = ((q ^^^ 4294967295 : Nat) : Int) := xor32 (b := 4294967295) hq (by decide)
      go_wp2_with fail
      go_ret
      exact ⟨by rw [HE.out, List.take_of_length_le (by omega), more]; rfl, rfl⟩

set_option maxHeartbeats 400000 in
set_option maxRecDepth 100000 in
theorem rsum_any (l : List UInt8) (v : Value) (w : World) (B : Nat) (hv : RdB w B v l) (hl : l.length < 4611686018427387904) : Calls Try.prog 39 #[v] w fun e w' => e = .returned (.int .u32 (sum l : Nat)) ∧ w' = w := by
  have HM := Lib.hid (rmore_any 0 (by decide) l v w B hv hl)
  obtain ⟨A, c, rfl, hc, hi⟩ := hv
  clear hi
  go_enter Try.func39, Try.ntmps39
  go_wp2_with fail
  refine HM.out.mono ?_
  rintro e w1 ⟨rfl, rfl⟩
  go_wp2_with fail
  go_ret
  exact ⟨rfl, rfl⟩
end Go.Proofs.Ytaenlkopjmgniaa

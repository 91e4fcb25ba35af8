/- The register as plain arithmetic: one step, a byte, a text; that it adds up bit by bit, and that it loses nothing. The bits of numbers as plain arithmetic. What the sums answer: the program's and the reference's, for every text and every world. What Seal and Open answer, the program's and the reference's. What Open answers, the program's. What the reference's Put and Num answer. What the reference's PutText answers. Records on a tape, as plain lists: laid, read, cut off. -/
import Derived.Test.YtbifnogocmgddaaGreatRows
import Derived.Test.YtbifnogocmgddaaGreatFaa
import Derived.Test.YtbifnogocmgddaaGreatFai
import Derived.Laws.BitsLemmas
import Derived.Lib.EndianBits
import Derived.WalkKit
import Derived.WalkSpells
import Derived.WalkLawsBesides
import Derived.Lib.Hide
import Derived.Sort.Walk0
namespace Go.Proofs.YtbifnogocmgddaaGreat

/-- one bit falls out -/
def step (r : Nat) : Nat := if r % 2 = 1 then (r / 2) ^^^ 2197175160 else r / 2
def steps : Nat → Nat → Nat
  | 0, r => r
  | n + 1, r => steps n (step r)
theorem steps_succ (n r : Nat) : steps (n + 1) r = step (steps n r) := by
  induction n generalizing r with
  | zero => rfl
  | succ n ih => rw [steps, ih, ← steps]
theorem steps_add (m n r : Nat) : steps (m + n) r = steps n (steps m r) := by
  induction m generalizing r with
  | zero => simp [steps]
  | succ m ih => rw [show m + 1 + n = (m + n) + 1 by omega, steps, ih, ← steps]

theorem step_lt {r : Nat} (h : r < 2 ^ 32) : step r < 2 ^ 32 := by
  unfold step
  split
  · exact Nat.xor_lt_two_pow (by omega) (by decide)
  · omega
theorem steps_lt {r : Nat} (h : r < 2 ^ 32) : ∀ n, steps n r < 2 ^ 32
  | 0 => h
  | n + 1 => by rw [steps_succ]; exact step_lt (steps_lt h n)

theorem xor_mod2 (a b : Nat) : (a ^^^ b) % 2 = (a % 2) ^^^ (b % 2) := Nat.xor_mod_two_pow (n := 1)
theorem xor_div2 (a b : Nat) : (a ^^^ b) / 2 = (a / 2) ^^^ (b / 2) := Nat.xor_div_two_pow (n := 1)

theorem xcomm (a b : Nat) : a ^^^ b = b ^^^ a := Nat.xor_comm a b
theorem xleft (a b c : Nat) : a ^^^ (b ^^^ c) = b ^^^ (a ^^^ c) := by rw [← Nat.xor_assoc, Nat.xor_comm a b, Nat.xor_assoc]
theorem xcancel (a b : Nat) : a ^^^ (a ^^^ b) = b := by rw [← Nat.xor_assoc, Nat.xor_self, Nat.zero_xor]

theorem step_xor (a b : Nat) : step (a ^^^ b) = step a ^^^ step b := by
  unfold step
  rw [xor_mod2, xor_div2]
  rcases Nat.mod_two_eq_zero_or_one a with ha | ha <;> rcases Nat.mod_two_eq_zero_or_one b with hb | hb <;> simp only [ha, hb]
  · simp
  · simp [Nat.xor_assoc]
  · simp; simp only [Nat.xor_assoc, xcomm, xleft]
  · simp; simp only [xcomm, xleft]; simp only [Nat.xor_self, Nat.xor_zero]
theorem steps_xor (n a b : Nat) : steps n (a ^^^ b) = steps n a ^^^ steps n b := by
  induction n generalizing a b with
  | zero => rfl
  | succ n ih => rw [steps, step_xor, ih, ← steps, ← steps]
theorem step_zero : step 0 = 0 := rfl
theorem steps_zero (n : Nat) : steps n 0 = 0 := by
  induction n with
  | zero => rfl
  | succ n ih => rw [steps, step_zero, ih]

/-- a step loses nothing: the highest bit behind it tells which bit fell out -/
theorem step_ne {r : Nat} (h : r < 2 ^ 32) (h0 : step r = 0) : r = 0 := by
  unfold step at h0
  split at h0
  · have e : r / 2 = 2197175160 := by
      have := congrArg (fun x => x ^^^ 2197175160) h0
      simp only [Nat.xor_assoc, Nat.xor_self, Nat.xor_zero, Nat.zero_xor] at this
      exact this
    omega
  · omega
theorem steps_ne {r : Nat} (h : r < 2 ^ 32) : ∀ {n}, steps n r = 0 → r = 0
  | 0, h0 => h0
  | n + 1, h0 => steps_ne h (step_ne (steps_lt h n) (by rw [← steps_succ]; exact h0))

theorem step_double (r : Nat) : step (r * 2) = r := by unfold step; split <;> omega
theorem steps_shift : ∀ (n r : Nat), steps n (r * 2 ^ n) = r
  | 0, r => by simp [steps]
  | n + 1, r => by rw [Nat.pow_succ, ← Nat.mul_assoc, steps, step_double, steps_shift]

/-- a byte -/
def take8 (r : Nat) (c : UInt8) : Nat := steps 8 (r ^^^ c.toNat)
/-- bytes -/
def run (r : Nat) (l : List UInt8) : Nat := l.foldl take8 r
theorem run_nil (r : Nat) : run r [] = r := rfl
theorem run_cons (r : Nat) (c : UInt8) (l : List UInt8) : run r (c :: l) = run (take8 r c) l := rfl
theorem run_append (r : Nat) (a b : List UInt8) : run r (a ++ b) = run (run r a) b := List.foldl_append
theorem cbyte_lt (c : UInt8) : c.toNat < 256 := c.toNat_lt
theorem take8_lt {r : Nat} (h : r < 2 ^ 32) (c : UInt8) : take8 r c < 2 ^ 32 := steps_lt (Nat.xor_lt_two_pow h (by have := cbyte_lt c; omega)) 8
theorem run_lt {r : Nat} (h : r < 2 ^ 32) : ∀ l, run r l < 2 ^ 32
  | [] => h
  | c :: l => run_lt (take8_lt h c) l

/-- the sum of bytes behind others -/
def more (s : Nat) (l : List UInt8) : Nat := run (s ^^^ 4294967295) l ^^^ 4294967295
def sum (l : List UInt8) : Nat := more 0 l
theorem more_lt {s : Nat} (h : s < 2 ^ 32) (l : List UInt8) : more s l < 2 ^ 32 := Nat.xor_lt_two_pow (run_lt (Nat.xor_lt_two_pow h (by decide)) l) (by decide)
theorem sum_lt (l : List UInt8) : sum l < 2 ^ 32 := more_lt (by decide) l

/-- a text may be summed in two parts -/
theorem more_sum (a b : List UInt8) : more (sum a) b = sum (a ++ b) := by
  simp only [sum, more, run_append, Nat.xor_assoc, Nat.xor_self, Nat.xor_zero]

/-- the bits of two texts of one length, added -/
def addB (a b : List UInt8) : List UInt8 := List.zipWith (· ^^^ ·) a b
theorem toNat_xor (a b : UInt8) : (a ^^^ b).toNat = a.toNat ^^^ b.toNat := UInt8.toNat_xor a b
theorem take8_xor (r s : Nat) (a b : UInt8) : take8 (r ^^^ s) (a ^^^ b) = take8 r a ^^^ take8 s b := by
  unfold take8
  rw [toNat_xor, ← steps_xor]
  congr 1
  simp only [Nat.xor_assoc, xleft]
theorem run_addB : ∀ (a b : List UInt8) (r s : Nat), a.length = b.length → run (r ^^^ s) (addB a b) = run r a ^^^ run s b
  | [], [], r, s, _ => rfl
  | x :: a, y :: b, r, s, h => by
    rw [addB, List.zipWith_cons_cons, run_cons, take8_xor, ← addB, run_addB a b _ _ (by simpa using h), run_cons, run_cons]
/-- three texts of one length -/
theorem sum_three (a b c : List UInt8) (hb : b.length = a.length) (hc : c.length = a.length) : sum (addB (addB a b) c) = sum a ^^^ sum b ^^^ sum c := by
  have h := run_addB (addB a b) c (4294967295 ^^^ 4294967295) 4294967295 (by simp [addB]; omega)
  rw [run_addB a b _ _ hb.symm] at h
  simp only [sum, more, Nat.zero_xor]
  rw [show (4294967295 ^^^ 4294967295 ^^^ 4294967295 : Nat) = 4294967295 by decide] at h
  rw [h]
  simp only [Nat.xor_assoc, xcomm, xleft, xcancel]
  
/-- bytes of 0 leave the register 0 -/
theorem run_zeros : ∀ n, run 0 (List.replicate n 0) = 0
  | 0 => rfl
  | n + 1 => by rw [List.replicate_succ, run_cons, show take8 0 0 = 0 from rfl, run_zeros n]
/-- a register that is not 0 stays so -/
theorem run_ne : ∀ (n r : Nat), r < 2 ^ 32 → r ≠ 0 → run r (List.replicate n 0) ≠ 0
  | 0, r, _, h => h
  | n + 1, r, hr, h => by
    rw [List.replicate_succ, run_cons]
    refine run_ne n _ (take8_lt hr 0) fun h0 => h ?_
    unfold take8 at h0
    simpa using steps_ne (by simpa using hr) h0

/-- byte k of a number -/
def byteAt (t k : Nat) : UInt8 := UInt8.ofNat (t / 2 ^ (8 * k))
theorem byteAt_toNat (t k : Nat) : (byteAt t k).toNat = t / 2 ^ (8 * k) % 256 := by simp [byteAt]
def four (t : Nat) : List UInt8 := [byteAt t 0, byteAt t 1, byteAt t 2, byteAt t 3]

theorem steps8_into (x d : Nat) : steps 8 x ^^^ d = steps 8 (x ^^^ d * 256) := by
  rw [steps_xor, show d * 256 = d * 2 ^ 8 by rfl, steps_shift]
/-- the four bytes of a number, as a difference -/
theorem run_four {t : Nat} (ht : t < 2 ^ 32) (h : run 0 (four t) = 0) : t = 0 := by
  obtain ⟨a, ha⟩ : ∃ a, a = t % 256 := ⟨_, rfl⟩
  obtain ⟨b, hb⟩ : ∃ b, b = t / 256 % 256 := ⟨_, rfl⟩
  obtain ⟨c, hc⟩ : ∃ c, c = t / 65536 % 256 := ⟨_, rfl⟩
  obtain ⟨d, hd⟩ : ∃ d, d = t / 16777216 % 256 := ⟨_, rfl⟩
  have e0 : (byteAt t 0).toNat = a := by rw [byteAt_toNat, ha]; simp
  have e1 : (byteAt t 1).toNat = b := by rw [byteAt_toNat, hb]
  have e2 : (byteAt t 2).toNat = c := by rw [byteAt_toNat, hc]
  have e3 : (byteAt t 3).toNat = d := by rw [byteAt_toNat, hd]
  have key : steps 8 (steps 8 (steps 8 (steps 8 a ^^^ b) ^^^ c) ^^^ d) = 0 := by
    have h' := h
    simp only [four, run_cons, run_nil, take8, e0, e1, e2, e3, Nat.zero_xor] at h'
    exact h'
  rw [steps8_into a b, ← steps_add, show steps (8 + 8) (a ^^^ b * 256) ^^^ c = steps (8 + 8) (a ^^^ b * 256 ^^^ c * 65536) by
    rw [steps_xor _ (a ^^^ b * 256), show c * 65536 = c * 2 ^ (8 + 8) by rfl, steps_shift], ← steps_add,
    show steps (8 + 8 + 8) (a ^^^ b * 256 ^^^ c * 65536) ^^^ d = steps (8 + 8 + 8) (a ^^^ b * 256 ^^^ c * 65536 ^^^ d * 16777216) by
    rw [steps_xor _ (a ^^^ b * 256 ^^^ c * 65536), show d * 16777216 = d * 2 ^ (8 + 8 + 8) by rfl, steps_shift], ← steps_add] at key
  have hlt : a ^^^ b * 256 ^^^ c * 65536 ^^^ d * 16777216 < 2 ^ 32 :=
    Nat.xor_lt_two_pow (Nat.xor_lt_two_pow (Nat.xor_lt_two_pow (by omega) (by omega)) (by omega)) (by omega)
  have hz := steps_ne hlt key
  have m : ∀ x y : Nat, (x ^^^ y) % 256 = (x % 256) ^^^ (y % 256) := fun x y => Nat.xor_mod_two_pow (n := 8)
  have q : ∀ x y : Nat, (x ^^^ y) / 256 = (x / 256) ^^^ (y / 256) := fun x y => Nat.xor_div_two_pow (n := 8)
  have z0 := congrArg (· % 256) hz
  have z1 := congrArg (· / 256 % 256) hz
  have z2 := congrArg (· / 256 / 256 % 256) hz
  have z3 := congrArg (· / 256 / 256 / 256 % 256) hz
  simp only [m, q] at z0 z1 z2 z3
  rw [show b * 256 % 256 = 0 by omega, show c * 65536 % 256 = 0 by omega, show d * 16777216 % 256 = 0 by omega] at z0
  rw [show a / 256 = 0 by omega, show b * 256 / 256 = b by omega, show c * 65536 / 256 = c * 256 by omega, show d * 16777216 / 256 = d * 65536 by omega, show c * 256 % 256 = 0 by omega, show d * 65536 % 256 = 0 by omega] at z1
  rw [show a / 256 / 256 = 0 by omega, show b * 256 / 256 / 256 = 0 by omega, show c * 65536 / 256 / 256 = c by omega, show d * 16777216 / 256 / 256 = d * 256 by omega, show d * 256 % 256 = 0 by omega] at z2
  rw [show a / 256 / 256 / 256 = 0 by omega, show b * 256 / 256 / 256 / 256 = 0 by omega, show c * 65536 / 256 / 256 / 256 = 0 by omega, show d * 16777216 / 256 / 256 / 256 = d by omega] at z3
  simp at z0 z1 z2 z3
  omega

/-- a text whose four bytes from i on are turned by t -/
theorem burst (p m s : List UInt8) (t : Nat) (hm : m.length = 4) (ht : t < 2 ^ 32) (h0 : t ≠ 0) : sum (p ++ (addB m (four t) ++ s)) ≠ sum (p ++ (m ++ s)) := by
  have hd : p ++ (addB m (four t) ++ s) = addB (p ++ (m ++ s)) (List.replicate p.length 0 ++ (four t ++ List.replicate s.length 0)) := by
    have hz : ∀ l : List UInt8, addB l (List.replicate l.length 0) = l := by
      intro l
      induction l with
      | nil => rfl
      | cons x l ih => rw [List.length_cons, List.replicate_succ, addB, List.zipWith_cons_cons, ← addB, ih]; simp
    show _ = List.zipWith _ _ _
    rw [List.zipWith_append (by simp), List.zipWith_append (by simp [hm, four])]
    show _ = addB _ _ ++ (addB _ _ ++ addB _ _)
    rw [hz, hz]
  have hlen : (p ++ (m ++ s)).length = (List.replicate p.length (0 : UInt8) ++ (four t ++ List.replicate s.length 0)).length := by simp [hm, four]; omega
  rw [hd]
  intro h
  have h1 := run_addB (p ++ (m ++ s)) _ 4294967295 0 hlen
  rw [Nat.xor_zero] at h1
  simp only [sum, more, Nat.zero_xor] at h
  rw [h1] at h
  have h2 : run 0 (List.replicate p.length 0 ++ (four t ++ List.replicate s.length 0)) = 0 := by
    have := congrArg (fun x => run 4294967295 (p ++ (m ++ s)) ^^^ (x ^^^ 4294967295)) h
    simp only [Nat.xor_assoc, Nat.xor_self, Nat.xor_zero, xcancel] at this
    exact this
  rw [run_append, run_zeros, run_append] at h2
  refine run_ne s.length (run 0 (four t)) (run_lt (by decide) _) (fun h3 => h0 (run_four ht h3)) h2
end Go.Proofs.YtbifnogocmgddaaGreat
namespace Go.Proofs.YtbifnogocmgddaaGreat
theorem xor_nat (k : IntKind) (j : Nat) (hj : j ≤ k.bits) (hk : ∀ n : Int, 0 ≤ n → n < 2 ^ j → k.wrap n = n) (a b : Nat) (ha : a < 2 ^ j) (hb : b < 2 ^ j) : bits .xor k a b = ((a ^^^ b : Nat) : Int) := by
  have hp : 2 ^ j ≤ 2 ^ k.bits := Nat.pow_le_pow_right (by decide) hj
  have ha' : a % 2 ^ k.bits = a := Nat.mod_eq_of_lt (Nat.lt_of_lt_of_le ha hp)
  have hb' : b % 2 ^ k.bits = b := Nat.mod_eq_of_lt (Nat.lt_of_lt_of_le hb hp)
  simp only [bits, BitVec.ofInt_natCast, BitVec.toNat_xor, BitVec.toNat_ofNat, ha', hb']
  exact hk _ (Int.natCast_nonneg _) (by exact_mod_cast Nat.xor_lt_two_pow ha hb)
theorem xor32 {a b : Nat} (ha : a < 2 ^ 32) (hb : b < 2 ^ 32) : bits .xor .u32 (a : Int) (b : Int) = ((a ^^^ b : Nat) : Int) := xor_nat .u32 32 (by decide) wraps_u32 a b ha hb
theorem xor8 {a b : Nat} (ha : a < 2 ^ 8) (hb : b < 2 ^ 8) : bits .xor .u8 (a : Int) (b : Int) = ((a ^^^ b : Nat) : Int) := xor_nat .u8 8 (by decide) wraps_u8 a b ha hb
end Go.Proofs.YtbifnogocmgddaaGreat
namespace Go.Proofs.YtbifnogocmgddaaGreat
open Go.RowKit

set_option maxRecDepth 100000 in
theorem and1 {a : Nat} (ha : a < 2 ^ 32) : bits .and .u32 (a : Int) 1 = ((a % 2 : Nat) : Int) := by
  have := bits_mask .u32 32 (by decide) wraps_u32 1 (by decide) (a : Int) (by omega) (by exact_mod_cast ha)
  simpa using this

set_option maxHeartbeats 400000 in
set_option maxRecDepth 100000 in
theorem shift_any (r : Nat) (hr : r < 2 ^ 32) (w : World) : Calls Tryz.prog 106 #[.int .u32 r] w fun e w' => e = .returned (.int .u32 (steps 8 r : Nat)) ∧ w' = w := by
  go_enter Tryz.func106, Tryz.ntmps106
  go_wp2
  go_loop [0, 4] (fun rv i => ∃ j q : Nat, j ≤ 8 ∧ i = .int .i64 j ∧ rv = .int .u32 q ∧ q < 2 ^ 32 ∧ steps 8 r = steps (8 - j) q) (fun _ i => 8 - (intOf i).toNat)
  case atStart => exact ⟨0, r, Nat.zero_le _, rfl, rfl, hr, rfl⟩
  case round =>
    obtain ⟨j, q, hj, rfl, rfl, hq, he⟩ := hrel
    have HE := Lib.hid he; clear he
    by_cases hlt : j < 8
    · have h1 := and1 hq
      have h3 : bits .xor .u32 ((q : Int) / 2) 2197175160 = ((q / 2 ^^^ 2197175160 : Nat) : Int) := by
        have := xor32 (a := q / 2) (b := 2197175160) (by omega) (by decide)
        simpa using this
      rcases Nat.mod_two_eq_zero_or_one q with hm | hm
      all_goals
        rw [hm] at h1
        go_wp2_with fail
        go_round
        case rel => exact ⟨j + 1, step q, by omega, by go_num, by unfold step; rw [hm]; simp, step_lt hq, by rw [HE.out, show 8 - j = (8 - (j + 1)) + 1 by omega, steps]⟩
        case measure => simp [intOf]; omega
    · go_wp2_with fail
      go_ret
      exact ⟨by rw [HE.out, show 8 - j = 0 by omega]; rfl, rfl⟩

set_option maxRecDepth 100000 in
theorem byte32 (c : UInt8) : IntKind.u32.wrap (c.toNat : Int) = (c.toNat : Int) := wraps_u32 _ (by omega) (by have := byte_lt c; omega)
set_option maxRecDepth 100000 in
theorem run_take_succ (r : Nat) (l : List UInt8) (j : Nat) (h : j < l.length) : run r (l.take (j + 1)) = take8 (run r (l.take j)) l[j] := by
  rw [List.take_add_one, List.getElem?_eq_getElem h, run_append]; rfl

set_option maxHeartbeats 400000 in
set_option maxRecDepth 100000 in
theorem more_any (s : Nat) (hs : s < 2 ^ 32) (l : List UInt8) (v : Value) (w : World) (B : Nat) (hv : RdB w B v l) (hl : l.length < 4611686018427387904) : Calls Tryz.prog 100 #[.int .u32 s, v] w fun e w' => e = .returned (.int .u32 (more s l : Nat)) ∧ w' = w := by
  obtain ⟨A, c, rfl, hc, hi⟩ := hv.at
  have h0 : bits .xor .u32 IntKind.u32.max (s : Int) = ((4294967295 ^^^ s : Nat) : Int) := xor32 (a := 4294967295) (by decide) hs
  have hr0 : 4294967295 ^^^ s < 2 ^ 32 := Nat.xor_lt_two_pow (by decide) hs
  have HI := Lib.hid hi; clear hi
  have HV := Lib.hid hv; clear hv
  go_enter Tryz.func100, Tryz.ntmps100
  go_wp2
  go_loop [5, 12] (fun rv i => ∃ j q : Nat, j ≤ l.length ∧ i = .int .i64 j ∧ rv = .int .u32 q ∧ q < 2 ^ 32 ∧ q = run (4294967295 ^^^ s) (l.take j)) (fun _ i => l.length - (intOf i).toNat)
  case atStart => exact ⟨0, _, Nat.zero_le _, rfl, rfl, hr0, rfl⟩
  case round =>
    obtain ⟨j, q, hj, rfl, rfl, hq, he⟩ := hrel
    have HE := Lib.hid he; clear he
    by_cases hlt : j < l.length
    · obtain ⟨b, o, rfl, hbB, h1⟩ := HI.out j hlt
      have h2 := byte32 l[j]
      have h3 : bits .xor .u32 (q : Int) (l[j].toNat : Int) = ((q ^^^ l[j].toNat : Nat) : Int) := xor32 hq (by have := byte_lt l[j]; omega)
      have h4 : q ^^^ l[j].toNat < 2 ^ 32 := Nat.xor_lt_two_pow hq (by have := byte_lt l[j]; omega)
      go_wp2_with fail
      refine (shift_any _ h4 _).mono ?_
      rintro e w1 ⟨rfl, rfl⟩
      go_wp2_with fail
      go_round
      case rel => exact ⟨j + 1, steps 8 (q ^^^ l[j].toNat), by omega, by go_num, rfl, steps_lt h4 8, by rw [run_take_succ _ _ _ hlt, ← HE.out]; rfl⟩
      case measure => simp [intOf]; omega
    · have h5 : bits .xor .u32 IntKind.u32.max (q : Int) = ((4294967295 ^^^ q : Nat) : Int) := xor32 (a := 4294967295) (by decide) hq
      go_wp2_with fail
      go_ret
      exact ⟨by rw [HE.out, List.take_of_length_le (by omega), more, xcomm s, xcomm (run _ _)]; rfl, rfl⟩

set_option maxHeartbeats 400000 in
set_option maxRecDepth 100000 in
theorem sum_any (l : List UInt8) (v : Value) (w : World) (B : Nat) (hv : RdB w B v l) (hl : l.length < 4611686018427387904) : Calls Tryz.prog 88 #[v] w fun e w' => e = .returned (.int .u32 (sum l : Nat)) ∧ w' = w := by
  have HM := Lib.hid (more_any 0 (by decide) l v w B hv hl)
  obtain ⟨A, c, rfl, hc, hi⟩ := hv
  clear hi
  go_enter Tryz.func88, Tryz.ntmps88
  go_wp2_with fail
  refine HM.out.mono ?_
  rintro e w1 ⟨rfl, rfl⟩
  go_wp2_with fail
  go_ret
  exact ⟨rfl, rfl⟩

end Go.Proofs.YtbifnogocmgddaaGreat
namespace Go.Proofs.YtbifnogocmgddaaGreat
open Go.RowKit

/-- a number out of bytes, the lowest first -/
def val : List UInt8 → Nat
  | [] => 0
  | c :: r => c.toNat + 256 * val r
set_option maxRecDepth 100000 in
theorem val_append (a b : List UInt8) : val (a ++ b) = val a + 256 ^ a.length * val b := by
  induction a with
  | nil => simp [val]
  | cons c a ih => rw [List.cons_append, val, ih, val, List.length_cons, Nat.pow_succ, Nat.mul_add, Nat.add_assoc, Nat.mul_comm (256 ^ a.length) 256, Nat.mul_assoc]
set_option maxRecDepth 100000 in
theorem val_lt : ∀ l : List UInt8, val l < 256 ^ l.length
  | [] => by simp [val]
  | c :: l => by
    have := val_lt l
    have := byte_lt c
    rw [val, List.length_cons, Nat.pow_succ]
    omega
set_option maxRecDepth 100000 in
theorem val_four {t : Nat} (h : t < 2 ^ 32) : val (four t) = t := by
  simp only [four, val, byteAt_toNat]
  simp only [Nat.mul_zero, Nat.pow_zero, Nat.div_one, Nat.reduceMul, Nat.reducePow]
  omega
set_option maxRecDepth 100000 in
theorem four_val {l : List UInt8} (h : l.length = 4) : four (val l) = l := by
  match l, h with
  | [a, b, c, d], _ =>
    have ha := byte_lt a
    have hb := byte_lt b
    have hc := byte_lt c
    have hd := byte_lt d
    simp only [four, val, byteAt, Nat.mul_zero, Nat.pow_zero, Nat.div_one, Nat.reduceMul, Nat.reducePow, Nat.add_zero]
    have e : ∀ (x : Nat) (y : UInt8), x % 256 = y.toNat → UInt8.ofNat x = y := fun x y h => by
      apply UInt8.toNat_inj.1
      simpa using h
    rw [e _ a (by omega), e _ b (by omega), e _ c (by omega), e _ d (by omega)]
set_option maxRecDepth 100000 in
theorem fill_set (F : List UInt8) (j m : Nat) (h : j < F.length) : ((F.take j) ++ List.replicate (m + 1) 0).set j F[j] = F.take (j + 1) ++ List.replicate m 0 := by
  rw [List.set_append_right _ _ (by simp; omega)]
  simp only [List.length_take, Nat.min_eq_left (Nat.le_of_lt h), Nat.sub_self, List.replicate_succ, List.set_cons_zero]
  rw [List.take_add_one, List.getElem?_eq_getElem h, Option.toList_some, List.append_assoc, List.singleton_append]

set_option maxHeartbeats 400000 in
set_option maxRecDepth 100000 in
theorem ahead_any (l : List UInt8) (h4 : 4 ≤ l.length) (v : Value) (w : World) (B : Nat) (hv : RdB w B v l) : Calls Tryz.prog 87 #[v] w fun e w' => e = .returned (.int .u32 (val (l.take 4) : Nat)) ∧ w' = w := by
  obtain ⟨A, c, rfl, hc, hi⟩ := hv.at
  have HI := Lib.hid hi; clear hi
  have HV := Lib.hid hv; clear hv
  go_enter Tryz.func87, Tryz.ntmps87
  go_wp2
  go_loop [3, 5] (fun rv i => ∃ j q : Nat, j ≤ 4 ∧ i = .int .i64 j ∧ rv = .int .u32 q ∧ q = val (l.take j)) (fun _ i => 4 - (intOf i).toNat)
  case atStart => exact ⟨0, 0, Nat.zero_le _, rfl, rfl, rfl⟩
  case round =>
    obtain ⟨j, q, hj, rfl, rfl, he⟩ := hrel
    have hq := val_lt (l.take j)
    rw [← he, List.length_take, Nat.min_eq_left (by omega)] at hq
    have HE := Lib.hid he; clear he
    by_cases hlt : j < 4
    · obtain ⟨b, o, rfl, hbB, h1⟩ := HI.out j (by omega)
      have h2 := byte32 (l[j]'(by omega))
      have hx : l[j].toNat * 2 ^ (8 * j) < 4294967296 := by
        have h8 := byte_lt l[j]
        have hp : 2 ^ (8 * j) ≤ 2 ^ (8 * 3) := Nat.pow_le_pow_right (by decide) (by omega)
        calc _ ≤ 255 * 2 ^ (8 * 3) := Nat.mul_le_mul (by omega) hp
          _ < _ := by decide
      have hor : bits .or .u32 (q : Int) ((l[j].toNat : Int) * 2 ^ (8 * j) % 4294967296) = ((q + l[j].toNat * 2 ^ (8 * j) : Nat) : Int) := by
        have e : ((l[j].toNat : Int) * 2 ^ (8 * j) % 4294967296) = ((l[j].toNat * 2 ^ (8 * j) : Nat) : Int) := by
          have : ((l[j].toNat : Int) * 2 ^ (8 * j)) = ((l[j].toNat * 2 ^ (8 * j) : Nat) : Int) := by simp
          rw [this]; omega
        rw [e]
        have hq2 : q < 2 ^ (8 * j) := by rw [Nat.pow_mul]; exact hq
        have hp : 2 ^ (8 * j) ≤ 2 ^ 32 := Nat.pow_le_pow_right (by decide) (by omega)
        have := bits_join_low .u32 32 (by decide) wraps_u32 (8 * j) (q : Int) ((l[j].toNat * 2 ^ (8 * j) : Nat) : Int) (by omega) (by exact_mod_cast hq2) (by exact_mod_cast Nat.lt_of_lt_of_le hq2 hp) (by omega) (by simp) (by exact_mod_cast hx)
        rw [this]; simp
      have hs : q + l[j].toNat * 2 ^ (8 * j) = val (l.take (j + 1)) := by
        rw [List.take_add_one, List.getElem?_eq_getElem (by omega), val_append, ← HE.out, List.length_take, Nat.min_eq_left (by omega), Nat.pow_mul, Nat.mul_comm]
        simp [val]
      have HS := Lib.hid hs; clear hs hx
      go_wp2_with fail
      go_round
      case rel => exact ⟨j + 1, _, by omega, by go_num, rfl, HS.out⟩
      case measure => simp [intOf]; omega
    · go_wp2_with fail
      go_ret
      exact ⟨by rw [HE.out, show j = 4 by omega]; rfl, rfl⟩

def sealed (l : List UInt8) : List UInt8 := four (sum l) ++ l
set_option maxRecDepth 100000 in
theorem byteAt_conv {t : Nat} (j : Nat) : IntKind.u8.wrap ((t : Int) / 2 ^ (8 * j)) = ((byteAt t j).toNat : Int) := by
  rw [IntKind.wrap_u8, byteAt_toNat]
  simp
set_option maxRecDepth 100000 in
theorem four_get (t j : Nat) (h : j < (four t).length) : (four t)[j] = byteAt t j := by
  match j, h with
  | 0, _ => rfl
  | 1, _ => rfl
  | 2, _ => rfl
  | 3, _ => rfl

set_option maxHeartbeats 1000000 in
set_option maxRecDepth 100000 in
theorem seal_any (l : List UInt8) (v : Value) (w : World) (hv : RdB w w.heap.size v l) (hl : l.length ≤ 140737488355328) : Calls Tryz.prog 97 #[v] w fun e w' => e = .returned (.slice (some ⟨w.heap.size, 0, none⟩) (sealed l).length (sealed l).length) ∧ RowB w' w.heap.size (sealed l) ∧ Below w.heap.size w w' := by
  have hsum := sum_any l v w _ hv (by omega)
  obtain ⟨A, c, rfl, hc, _⟩ := hv.at
  obtain ⟨t, ht⟩ : ∃ t, t = sum l := ⟨_, rfl⟩
  have htl : t < 2 ^ 32 := by rw [ht]; exact sum_lt l
  rw [← ht] at hsum
  have HT := Lib.hid ht; clear ht
  have HS := Lib.hid hsum; clear hsum
  have HV := Lib.hid hv; clear hv
  obtain ⟨g, hg⟩ : ∃ g, g = w.heap.size := ⟨_, rfl⟩
  have HG := Lib.hid hg
  have hw : IntKind.i64.wrap (4 + (l.length : Int)) = ((l.length + 4 : Nat) : Int) := by rw [IntKind.wrap_i64]; omega
  clear hg
  go_enter Tryz.func97, Tryz.ntmps97
  go_wp2_with fail
  refine HS.out.mono ?_
  rintro e w1 ⟨rfl, rfl⟩
  go_wp2_with (refine wpList_makeB rfl _ _ rfl (l.length + 4) ?c1 ?c2 (by omega) ?c3)
  case c1 => rfl
  case c2 => rfl
  intro w2 hr2 hb2
  rw [← HG.out] at hr2
  rw [show w1.heap.size = g from HG.out.symm]
  have HR2 := Lib.hid hr2; clear hr2
  have HB2 := Lib.hid hb2; clear hb2
  go_wp2_with fail
  go_loopw [12] (fun i wr => ∃ j : Nat, j ≤ 4 ∧ i = .int .i64 j ∧ RowB wr g ((four t).take j ++ List.replicate (l.length + 4 - j) 0) ∧ Below g w1 wr) (fun i _ => 4 - (intOf i).toNat)
  case atStart => exact ⟨0, Nat.zero_le _, rfl, HR2.out, by rw [HG.out]; exact HB2.out⟩
  case round =>
    obtain ⟨j, hj, rfl, hr, hb⟩ := hrel
    by_cases hlt : j < 4
    · have hfl : j < (four t).length := hlt
      have hcl : j < ((four t).take j ++ List.replicate (l.length + 4 - j) (0 : UInt8)).length := by simp [four]; omega
      have hc0 := hr.cell j hcl
      have hf0 := hr.frozen j
      have hset := hr.set j (byteAt t j)
      rw [show l.length + 4 - j = (l.length + 4 - (j + 1)) + 1 by omega, ← four_get t j hfl, fill_set _ _ _ hfl, four_get t j hfl] at hset
      have hcv := byteAt_conv (t := t) j
      have hbs := hb.setCell (p := ⟨g, j, none⟩) (Nat.le_refl _) (.int .u8 ((byteAt t j).toNat : Int))
      have HR := Lib.hid hset
      have HB := Lib.hid hbs
      clear hr hset hbs
      go_wp2_with fail
      go_roundw
      case rel => exact ⟨j + 1, by omega, by go_num, HR.out, HB.out⟩
      case measure => simp [intOf]; omega
    · obtain rfl : j = 4 := by omega
      rw [show l.length + 4 - 4 = l.length by omega, show (four t).take 4 = four t from rfl] at hr
      have hfit : 4 + l.length ≤ (four t ++ List.replicate l.length (0 : UInt8)).length := by simp [four]; omega
      have hfin : (four t ++ List.replicate l.length (0 : UInt8)).take 4 ++ (l ++ (four t ++ List.replicate l.length (0 : UInt8)).drop (4 + l.length)) = sealed l := by
        rw [sealed, ← HT.out, List.take_append_of_le_length (by simp [four]), show (four t).take 4 = four t from rfl, List.drop_eq_nil_of_le (by simp [four]; omega), List.append_nil]
      have hle : (sealed l).length = l.length + 4 := by simp [sealed, four]
      have hrv : RdB wr g (.slice A l.length c) l := by have := HV.out; rw [← HG.out] at this; exact this.below hb (Nat.le_refl _)
      have HR := Lib.hid hr
      have HB := Lib.hid hb
      have HF := Lib.hid hfin
      have HL := Lib.hid hle
      have HRV := Lib.hid hrv
      clear hr hb hfin hle hrv
      by_cases hz : l = []
      · subst hz
        go_wp2_with (refine wpList_copyB rfl (.tmp 25) (.tmp 26) rfl g 4 _ _ (four t ++ List.replicate ([] : List UInt8).length 0) [] _ g rfl ?c1 rfl HRV.out HR.out hfit g w1 HB.out (Nat.le_refl _) ?c2)
        case c1 => intro h; simp at h
        intro w4 hr4 hb4
        go_wp2_with fail
        go_ret
        exact ⟨by rw [HL.out, ← HG.out]; rfl, by rw [← HG.out, ← HF.out]; simpa using hr4.out, by rw [← HG.out]; exact hb4⟩
      · go_wp2_with (with_reducible show wpList _ _ _ (⟨some 27, _, _, _, _, _⟩ :: _) _ _; go_must (refine wpList_copyB rfl (.tmp 25) (.tmp 26) rfl g 4 (some ⟨g, 4, none⟩) _ (four t ++ List.replicate l.length 0) l (.slice A l.length c) g rfl ?d1 rfl HRV.out HR.out hfit g w1 HB.out (Nat.le_refl _) ?d2))
        intro w4 hr4 hb4
        go_wp2_with fail
        go_ret
        exact ⟨by rw [HL.out, ← HG.out]; rfl, by rw [← HG.out, ← HF.out]; simpa using hr4.out, by rw [← HG.out]; exact hb4⟩
end Go.Proofs.YtbifnogocmgddaaGreat
namespace Go.Proofs.YtbifnogocmgddaaGreat
open Go.RowKit

/-- what Open answers: the bytes, and the error's number -/
def openAns (l : List UInt8) : List UInt8 × Int :=
  if l.length < 4 then ([], 3) else if val (l.take 4) = sum (l.drop 4) then (l.drop 4, 0) else ([], 2)

set_option maxRecDepth 100000 in
theorem openAns_sealed (l : List UInt8) : openAns (sealed l) = (l, 0) := by
  unfold openAns sealed
  rw [if_neg (by simp [four]), show (four (sum l) ++ l).take 4 = four (sum l) from rfl, show (four (sum l) ++ l).drop 4 = l from rfl, val_four (sum_lt l), if_pos rfl]

set_option maxRecDepth 100000 in
theorem RdB.tail {w : World} {B b o c : Nat} {p r : List UInt8} (h : RdB w B (.slice (some ⟨b, o, none⟩) (p ++ r).length c) (p ++ r)) (hp : p.length = 4) (c' : Nat) (hc : r.length ≤ c') : RdB w B (.slice (some ⟨b, o + 4, none⟩) r.length c') r := by
  have := Rd.drop (k := 1) h 4 c' (by simp [hp]) (by simp [hp]; omega) (some ⟨b, o + 4, none⟩) (fun _ => by simp [Addr.add])
  rw [show (p ++ r).drop 4 = r by rw [← hp]; simp, show (p ++ r).length - 4 = r.length by simp [hp]] at this
  exact this

set_option maxHeartbeats 1000000 in
set_option maxRecDepth 100000 in
theorem open_any (l : List UInt8) (v : Value) (w : World) (hv : RdB w w.heap.size v l) (hl : l.length ≤ 140737488355328) : Calls Tryz.prog 65 #[v] w fun e w' => ∃ v', e = .returned (.tuple #[v', .int .i64 (openAns l).2]) ∧ RdB w' w'.heap.size v' (openAns l).1 ∧ Below w.heap.size w w' := by
  by_cases h4 : l.length < 4
  · obtain ⟨A, c, rfl, hc, _⟩ := hv.at
    rw [show openAns l = ([], 3) by rw [openAns, if_pos h4]]
    clear hv
    go_enter Tryz.func65, Tryz.ntmps65
    go_wp2_with fail
    go_ret2
    exact ⟨_, rfl, Rd.nil _ _, Below.refl _ _⟩
  · obtain ⟨p, r, rfl, hp⟩ : ∃ p r, l = p ++ r ∧ p.length = 4 := ⟨l.take 4, l.drop 4, by simp, by simp; omega⟩
    have hah := ahead_any (p ++ r) (by omega) v w _ hv
    obtain ⟨A, c, rfl, hc, hi⟩ := hv.at
    obtain ⟨b, o, rfl, hbB, _⟩ := hi 0 (by simp [hp]; omega)
    clear hi
    obtain ⟨c', rfl⟩ : ∃ c', c = c' + 4 := ⟨c - 4, by simp [hp] at hc; omega⟩
    have hlen : (p ++ r).length = r.length + 4 := by simp [hp]; omega
    have htl := hv.tail hp c' (by simp [hp] at hc; omega)
    rw [show (p ++ r).take 4 = p by rw [← hp]; simp] at hah
    have hans : openAns (p ++ r) = if val p = sum r then (r, 0) else ([], 2) := by
      rw [openAns, if_neg h4, show (p ++ r).take 4 = p by rw [← hp]; simp, show (p ++ r).drop 4 = r by rw [← hp]; simp]
    rw [hans]
    rw [hlen] at hah hv hc hl ⊢
    clear hans hlen h4
    obtain ⟨x, hx⟩ : ∃ x, x = val p := ⟨_, rfl⟩
    rw [← hx] at hah ⊢
    clear hx
    have hcr : r.length ≤ c' := by omega
    have HA := Lib.hid hah; clear hah
    have HT := Lib.hid htl
    have HV := Lib.hid hv; clear hv
    obtain ⟨tp, htp⟩ : ∃ tp, tp = Value.slice (if c' = 0 then some ⟨b, o, none⟩ else some ⟨b, o + 4, none⟩) r.length c' := ⟨_, rfl⟩
    have hrt : RdB w w.heap.size tp r := by
      subst htp
      split
      · have : r = [] := List.eq_nil_of_length_eq_zero (by omega)
        subst this
        exact Rd.none_ _ _ _ _
      · exact HT.out
    have hsm := sum_any r tp w _ hrt (by omega)
    have HRT := Lib.hid hrt; clear hrt
    have HS := Lib.hid hsm; clear hsm
    have HX := Lib.hid htp
    clear htp HT
    by_cases hxs : x = sum r
    · rw [if_pos hxs]
      rw [← hxs] at HS
      clear hxs
      by_cases hc0 : c' = 0
      · have hr0 : r = [] := List.eq_nil_of_length_eq_zero (by omega)
        subst hc0 hr0
        have htp := HX.out
        simp only [if_true] at htp
        subst htp
        go_enter Tryz.func65, Tryz.ntmps65
        go_wp2_with fail
        refine HA.out.mono ?_
        rintro e w1 ⟨rfl, rfl⟩
        go_wp2_with fail
        refine HS.out.mono ?_
        rintro e w2 ⟨rfl, rfl⟩
        go_wp2_with (refine wpList_makeB rfl _ _ rfl 0 ?pa ?pb (by omega) ?pc)
        case pa => rfl
        case pb => rfl
        intro w3 hr3 hb3
        have hrt3 : RdB w3 w2.heap.size (.slice (some ⟨b, o, none⟩) 0 0) ([] : List UInt8) := HRT.out.below hb3 (Nat.le_refl _)
        have HR3 := Lib.hid hr3; clear hr3
        have HRT3 := Lib.hid hrt3; clear hrt3
        have HB3 := Lib.hid hb3; clear hb3
        go_wp2_with (with_reducible show wpList _ _ _ (⟨some 21, _, _, _, _, _⟩ :: _) _ _; go_must (refine wpList_copyB rfl (.tmp 19) (.tmp 20) rfl w2.heap.size 0 (some ⟨w2.heap.size, 0, none⟩) _ ([] : List UInt8) ([] : List UInt8) (.slice (some ⟨b, o, none⟩) 0 0) w2.heap.size rfl (fun _ => rfl) rfl HRT3.out HR3.out (by simp) w2.heap.size w2 HB3.out (Nat.le_refl _) ?pd))
        intro w4 hr4 hb4
        go_wp2_with fail
        go_ret2
        have hr5 : RowB w4 w2.heap.size ([] : List UInt8) := by simpa using hr4.out
        exact ⟨_, rfl, hr5.rd 0 0 _ rfl (Nat.le_refl _), hb4⟩
      · have htp := HX.out
        rw [if_neg hc0] at htp
        subst htp
        go_enter Tryz.func65, Tryz.ntmps65
        go_wp2_with fail
        refine HA.out.mono ?_
        rintro e w1 ⟨rfl, rfl⟩
        go_wp2_with fail
        refine HS.out.mono ?_
        rintro e w2 ⟨rfl, rfl⟩
        go_wp2_with (refine wpList_makeB rfl _ _ rfl r.length ?qa ?qb (by omega) ?qc)
        case qa => rfl
        case qb => rfl
        intro w3 hr3 hb3
        have hrt3 : RdB w3 w2.heap.size (.slice (some ⟨b, o + 4, none⟩) r.length c') r := HRT.out.below hb3 (Nat.le_refl _)
        have HR3 := Lib.hid hr3; clear hr3
        have HRT3 := Lib.hid hrt3; clear hrt3
        have HB3 := Lib.hid hb3; clear hb3
        go_wp2_with (with_reducible show wpList _ _ _ (⟨some 21, _, _, _, _, _⟩ :: _) _ _; go_must (refine wpList_copyB rfl (.tmp 19) (.tmp 20) rfl w2.heap.size 0 (some ⟨w2.heap.size, 0, none⟩) _ (List.replicate r.length 0 : List UInt8) r (.slice (some ⟨b, o + 4, none⟩) r.length c') w2.heap.size rfl (fun _ => rfl) rfl HRT3.out HR3.out (by simp) w2.heap.size w2 HB3.out (Nat.le_refl _) ?qd))
        intro w4 hr4 hb4
        go_wp2_with fail
        go_ret2
        have hr5 : RowB w4 w2.heap.size r := by simpa using hr4.out
        exact ⟨_, rfl, hr5.rd 0 r.length _ rfl (Nat.le_refl _), hb4⟩
    · rw [if_neg hxs]
      obtain ⟨y, hy⟩ : ∃ y, y = sum r := ⟨_, rfl⟩
      rw [← hy] at HS hxs
      clear hy
      by_cases hc0 : c' = 0
      · have hr0 : r = [] := List.eq_nil_of_length_eq_zero (by omega)
        subst hc0 hr0
        have htp := HX.out
        simp only [if_true] at htp
        subst htp
        go_enter Tryz.func65, Tryz.ntmps65
        go_wp2_with fail
        refine HA.out.mono ?_
        rintro e w1 ⟨rfl, rfl⟩
        go_wp2_with fail
        refine HS.out.mono ?_
        rintro e w2 ⟨rfl, rfl⟩
        go_wp2_with fail
        go_ret2
        exact ⟨_, rfl, Rd.nil _ _, Below.refl _ _⟩
      · have htp := HX.out
        rw [if_neg hc0] at htp
        subst htp
        go_enter Tryz.func65, Tryz.ntmps65
        go_wp2_with fail
        refine HA.out.mono ?_
        rintro e w1 ⟨rfl, rfl⟩
        go_wp2_with fail
        refine HS.out.mono ?_
        rintro e w2 ⟨rfl, rfl⟩
        go_wp2_with fail
        go_ret2
        exact ⟨_, rfl, Rd.nil _ _, Below.refl _ _⟩
end Go.Proofs.YtbifnogocmgddaaGreat
namespace Go.Proofs.YtbifnogocmgddaaGreat
open Go.RowKit

end Go.Proofs.YtbifnogocmgddaaGreat
namespace Go.Proofs.YtbifnogocmgddaaGreat
open Go.RowKit

/-- a text's bytes -/
def encT (s : List UInt8) : List UInt8 := enc s.length ++ s

/-- what PutNum and PutText answer: the bytes, and the error -/
def putAns (l : List UInt8) (n : Int) : List UInt8 × Int := if n < 0 then ([], 5) else (l ++ enc n.toNat, 0)
def putTAns (l : List UInt8) (s : ByteArray) : List UInt8 × Int := if s.size > 65536 then ([], 6) else (l ++ encT s.data.toList, 0)

end Go.Proofs.YtbifnogocmgddaaGreat
namespace Go.Proofs.YtbifnogocmgddaaGreat

/-- one record's bytes; records' bytes -/
def recB (r : List UInt8) : List UInt8 := encT (sealed r)
def lay (l : List (List UInt8)) : List UInt8 := l.flatMap recB
/-- may it be written? -/
def fitR (r : List UInt8) : Prop := r.length ≤ 65532
theorem lay_nil : lay [] = [] := rfl
theorem lay_cons (r : List UInt8) (l : List (List UInt8)) : lay (r :: l) = recB r ++ lay l := by simp [lay]
theorem lay_append (a b : List (List UInt8)) : lay (a ++ b) = lay a ++ lay b := by simp [lay]
theorem slen (r : List UInt8) : (sealed r).length = r.length + 4 := by simp [sealed, four]
theorem recB_len (r : List UInt8) : (recB r).length = (enc (r.length + 4)).length + (r.length + 4) := by simp [recB, encT, slen]
theorem recB_ge (r : List UInt8) : 5 ≤ (recB r).length := by rw [recB_len]; have := enc_pos (r.length + 4); omega
theorem lay_ge (l : List (List UInt8)) : l.length ≤ (lay l).length := by
  induction l with
  | nil => simp
  | cons r l ih => rw [lay_cons, List.length_append, List.length_cons]; have := recB_ge r; omega

/-- the record that bytes begin with, and how many bytes it has -/
def oneAns (b : List UInt8) : Option (List UInt8 × Nat) :=
  if (textAns b).2.2 = 0 ∧ (openAns (textAns b).1).2 = 0 then some ((openAns (textAns b).1).1, (textAns b).2.1) else none
def readGo : Nat → List UInt8 → List (List UInt8) × Nat
  | 0, _ => ([], 0)
  | f + 1, b => match oneAns b with
    | none => ([], 0)
    | some (r, u) => (r :: (readGo f (b.drop u)).1, u + (readGo f (b.drop u)).2)
/-- the records that bytes begin with, and how many bytes these are -/
def readAns (b : List UInt8) : List (List UInt8) × Nat := readGo b.length b

theorem text_enc {n : Nat} (hn : n ≤ 65536) (s t : List UInt8) (hs : s.length = n) : textAns (enc n ++ s ++ t) = (s, (enc n).length + n, 0) := by
  have h := numAns_enc (n := n) (by omega) (s ++ t)
  rw [List.append_assoc]
  unfold textAns
  rw [h]
  simp only
  rw [if_neg (by simp), if_neg (by omega), if_neg (by simp; omega), List.drop_left, ← hs, List.take_left]
theorem text_short {n : Nat} (hn : n ≤ 65536) (s : List UInt8) (hs : s.length < n) : (textAns (enc n ++ s)).2.2 ≠ 0 := by
  have h := numAns_enc (n := n) (by omega) s
  unfold textAns
  rw [h]
  simp only
  rw [if_neg (by simp), if_neg (by omega), if_pos (by simp; omega)]
  simp
theorem one_rec {r : List UInt8} (h : fitR r) (s : List UInt8) : oneAns (recB r ++ s) = some (r, (recB r).length) := by
  have e : textAns (recB r ++ s) = (sealed r, (recB r).length, 0) := by
    have := text_enc (n := (sealed r).length) (by rw [slen]; unfold fitR at h; omega) (sealed r) s rfl
    rw [recB, encT, this]
    simp
  unfold oneAns
  rw [e]
  simp only [openAns_sealed]
  rw [if_pos ⟨trivial, trivial⟩]
theorem one_nil : oneAns [] = none := by decide
theorem readGo_lay : ∀ (l : List (List UInt8)) (s : List UInt8) (f : Nat), (∀ r ∈ l, fitR r) → oneAns s = none → l.length ≤ f → readGo f (lay l ++ s) = (l, (lay l).length)
  | [], s, 0, _, _, _ => rfl
  | [], s, f + 1, _, hs, _ => by rw [lay_nil, List.nil_append, readGo, hs]; rfl
  | r :: l, s, 0, _, _, hf => by simp at hf
  | r :: l, s, f + 1, hl, hs, hf => by
    rw [lay_cons, List.append_assoc, readGo, one_rec (hl r (by simp))]
    simp only
    rw [List.drop_left, readGo_lay l s f (fun x hx => hl x (by simp [hx])) hs (by simpa using hf)]
    simp
theorem read_lay (l : List (List UInt8)) (s : List UInt8) (hl : ∀ r ∈ l, fitR r) (hs : oneAns s = none) : readAns (lay l ++ s) = (l, (lay l).length) :=
  readGo_lay l s _ hl hs (by rw [List.length_append]; have := lay_ge l; omega)

/-- the first k bytes, and perhaps one more that is turned -/
def cutAt (b : List UInt8) (k : Nat) (turn : UInt8) : List UInt8 := b.take k ++ (if turn = 0 then [] else (b[k]?.map fun x => x ^^^ turn).toList)
theorem cutAt_left (a b : List UInt8) (k : Nat) (turn : UInt8) (h : k < a.length) : cutAt (a ++ b) k turn = cutAt a k turn := by
  unfold cutAt
  rw [List.take_append_of_le_length (by omega), List.getElem?_append_left h]
theorem cutAt_right (a b : List UInt8) (k : Nat) (turn : UInt8) (h : a.length ≤ k) : cutAt (a ++ b) k turn = a ++ cutAt b (k - a.length) turn := by
  unfold cutAt
  rw [List.take_append, List.take_of_length_le h, List.getElem?_append_right h, List.append_assoc]

theorem xor_self_ne {x t : UInt8} (h : t ≠ 0) : x ^^^ t ≠ x := by
  intro e
  have := congrArg (fun y => x ^^^ y) e
  simp only [← UInt8.xor_assoc, UInt8.xor_self, UInt8.zero_xor] at this
  exact h this
theorem sum_last (r : List UInt8) (x t : UInt8) (h : t ≠ 0) : sum (r ++ [x ^^^ t]) ≠ sum (r ++ [x]) := by
  intro he
  simp only [sum, more, Nat.zero_xor, run_append] at he
  have h1 := congrArg (fun y => y ^^^ 4294967295) he
  simp only [Nat.xor_assoc, Nat.xor_self, Nat.xor_zero] at h1
  rw [run_cons, run_nil, run_cons, run_nil] at h1
  generalize hR : run 4294967295 r = R at h1
  have hRl : R < 2 ^ 32 := by rw [← hR]; exact run_lt (by decide) r
  have e : take8 R (x ^^^ t) = take8 R x ^^^ take8 0 t := by
    have := take8_xor R 0 x t
    rwa [Nat.xor_zero] at this
  rw [e] at h1
  have h2 : take8 0 t = 0 := by
    have := congrArg (fun y => take8 R x ^^^ y) h1
    simp only [xcancel, Nat.xor_self] at this
    exact this
  unfold take8 at h2
  rw [Nat.zero_xor] at h2
  have := steps_ne (r := t.toNat) (by have := t.toNat_lt; omega) h2
  exact h (UInt8.toNat_inj.1 (by simpa using this))
/-- a sealed record whose last byte is turned is none -/
theorem open_last (r : List UInt8) (t : UInt8) (h : t ≠ 0) (S : List UInt8) (x : UInt8) (hS : sealed r = S ++ [x]) : (openAns (S ++ [x ^^^ t])).2 ≠ 0 := by
  have hlen : S.length + 1 = r.length + 4 := by rw [← slen, hS]; simp
  unfold openAns
  rw [if_neg (by simp; omega)]
  rcases List.eq_nil_or_concat r with rfl | ⟨r', y, rfl⟩
  · have hS3 : S.length = 3 := by simpa using hlen
    have h4 : (S ++ [x ^^^ t]).length = 4 := by simp [hS3]
    rw [List.take_of_length_le (by omega), List.drop_eq_nil_of_le (by omega), if_neg]
    · simp
    · intro he
      have h1 := four_val h4
      rw [he] at h1
      have h2 : sealed [] = four (sum []) := by simp [sealed]
      rw [← h2, hS] at h1
      have := List.append_inj_right h1 rfl
      simp only [List.cons.injEq, and_true] at this
      exact xor_self_ne h this.symm
  · have hs : sealed (r' ++ [y]) = (four (sum (r' ++ [y])) ++ r') ++ [y] := by simp [sealed]
    rw [List.concat_eq_append] at hS hlen
    rw [hs] at hS
    obtain ⟨h1, h2⟩ := List.append_inj' hS rfl
    simp only [List.cons.injEq, and_true] at h2
    subst h2
    rw [← h1, List.append_assoc, show (four (sum (r' ++ [y])) ++ (r' ++ [y ^^^ t])).take 4 = four (sum (r' ++ [y])) from rfl, show (four (sum (r' ++ [y])) ++ (r' ++ [y ^^^ t])).drop 4 = r' ++ [y ^^^ t] from rfl, val_four (sum_lt _), if_neg]
    · simp
    · intro he
      exact sum_last r' y t h he.symm

theorem one_err {b : List UInt8} (h : (textAns b).2.2 ≠ 0) : oneAns b = none := by
  unfold oneAns
  rw [if_neg (fun hh => h hh.1)]
/-- what is left of one record is none -/
theorem one_cut {r : List UInt8} (hr : fitR r) (k : Nat) (turn : UInt8) (hk : k < (recB r).length) : oneAns (cutAt (recB r) k turn) = none := by
  obtain ⟨n, hn⟩ : ∃ n, n = (sealed r).length := ⟨_, rfl⟩
  have hn4 : n = r.length + 4 := by rw [hn, slen]
  have hn6 : n ≤ 65536 := by unfold fitR at hr; omega
  have hrec : recB r = enc n ++ sealed r := by rw [recB, encT, hn]
  have hlen : (recB r).length = (enc n).length + n := by rw [hrec, List.length_append, ← hn]
  rcases Nat.lt_or_ge k (enc n).length with he | he
  · -- within the number
    rw [hrec, cutAt_left _ _ _ _ he]
    unfold cutAt
    by_cases ht : turn = 0
    · rw [if_pos ht, List.append_nil]
      refine one_err ?_
      unfold textAns
      rw [numAns_cut (by omega) he]
      simp
    · rw [if_neg ht, List.getElem?_eq_getElem he]
      simp only [Option.map_some, Option.toList_some]
      obtain ⟨s, hs⟩ : ∃ s, s = (enc n).take k ++ [(enc n)[k] ^^^ turn] := ⟨_, rfl⟩
      rw [← hs]
      have hsl : s.length = k + 1 := by rw [hs]; simp; omega
      rcases hnum : numAns s with ⟨m, u, e⟩
      by_cases h0 : e = 0
      · subst h0
        obtain ⟨hu, hu9, hu1, rest, hrest⟩ := numAns_once hnum
        have hall : u = k + 1 := by
          rcases Nat.lt_or_ge k u with h | h
          · have : (enc m).length ≤ s.length := by rw [hrest, List.length_append]; omega
            omega
          · exfalso
            have h1 : (enc n).take u = enc m := by
              have e1 : s.take u = enc m := by rw [hrest, hu, List.take_left]
              have e2 : s.take u = (enc n).take u := by rw [hs, List.take_append_of_le_length (by simp; omega), List.take_take, Nat.min_eq_left h]
              rw [← e2, e1]
            have h2 := numAns_cut (n := n) (k := u) (by omega) (by omega)
            rw [h1] at h2
            have h3 := numAns_enc (n := m) (enc_lt (by omega)) []
            rw [List.append_nil, h2] at h3
            simp at h3
        have ht2 : textAns s = if m > 65536 then ([], 0, 6) else if 0 < m then ([], 0, 3) else ([], k + 1, 0) := by
          unfold textAns
          rw [hnum]
          simp only [hall, hsl, Nat.sub_self]
          rw [if_neg (by simp)]
          split
          · rfl
          · split
            · rfl
            · rename_i h1 h2
              have : m = 0 := by omega
              subst this
              simp
        by_cases a1 : m > 65536
        · exact one_err (by rw [ht2, if_pos a1]; simp)
        · by_cases a2 : 0 < m
          · exact one_err (by rw [ht2, if_neg a1, if_pos a2]; simp)
          · unfold oneAns
            rw [ht2, if_neg a1, if_neg a2, if_neg (by simp [openAns])]
      · refine one_err ?_
        unfold textAns
        rw [hnum]
        simp only
        rw [if_pos h0]
        exact h0
  · rw [hrec, cutAt_right _ _ _ _ he]
    obtain ⟨j, hj⟩ : ∃ j, j = k - (enc n).length := ⟨_, rfl⟩
    rw [← hj]
    have hjn : j < (sealed r).length := by rw [← hn]; omega
    unfold cutAt
    by_cases ht : turn = 0
    · rw [if_pos ht, List.append_nil]
      exact one_err (text_short hn6 _ (by simp; omega))
    · rw [if_neg ht, List.getElem?_eq_getElem hjn]
      simp only [Option.map_some, Option.toList_some]
      rcases Nat.lt_or_ge (j + 1) n with h1 | h1
      · exact one_err (text_short hn6 _ (by simp; omega))
      · have hlast : sealed r = (sealed r).take j ++ [(sealed r)[j]] := by
          have := List.take_append_drop j (sealed r)
          rw [List.drop_eq_getElem_cons hjn, List.drop_eq_nil_of_le (by omega)] at this
          exact this.symm
        have h2 := open_last r turn ht _ _ hlast
        have h3 := text_enc hn6 ((sealed r).take j ++ [(sealed r)[j] ^^^ turn]) [] (by simp; omega)
        rw [List.append_nil] at h3
        unfold oneAns
        rw [h3]
        rw [if_neg (fun hh => h2 hh.2)]
/-- what is left of records: some first ones, and behind them none -/
theorem cut_lay : ∀ (l : List (List UInt8)) (k : Nat) (turn : UInt8), (∀ r ∈ l, fitR r) → ∃ j s, j ≤ l.length ∧ cutAt (lay l) k turn = lay (l.take j) ++ s ∧ oneAns s = none
  | [], k, turn, _ => ⟨0, [], by simp, by simp [cutAt, lay], one_nil⟩
  | r :: l, k, turn, hl => by
    rw [lay_cons]
    rcases Nat.lt_or_ge k (recB r).length with h | h
    · rw [cutAt_left _ _ _ _ h]
      exact ⟨0, _, by simp, by simp [lay], one_cut (hl r (by simp)) k turn h⟩
    · rw [cutAt_right _ _ _ _ h]
      obtain ⟨j, s, h1, h2, h3⟩ := cut_lay l (k - (recB r).length) turn (fun x hx => hl x (by simp [hx]))
      exact ⟨j + 1, s, by simpa using h1, by rw [h2, List.take_succ_cons, lay_cons, List.append_assoc], h3⟩

/-- bytes that begin with a record begin with its bytes -/
theorem one_take {b r : List UInt8} {u : Nat} (h : oneAns b = some (r, u)) : fitR r ∧ u = (recB r).length ∧ ∃ s, b = recB r ++ s := by
  unfold oneAns at h
  split at h
  · rename_i hh
    injection h with h
    injection h with h1 h2
    obtain ⟨ht, ho⟩ := hh
    rcases hnum : numAns b with ⟨m, v, e⟩
    unfold textAns at ht h1 h2 ho
    rw [hnum] at ht h1 h2 ho
    simp only at ht h1 h2 ho
    by_cases he : e = 0
    · subst he
      obtain ⟨hv, hv9, hv1, s, hs⟩ := numAns_once hnum
      rw [if_neg (by simp)] at ht h1 h2 ho
      by_cases hm : m > 65536
      · rw [if_pos hm] at ht; simp at ht
      · rw [if_neg hm] at ht h1 h2 ho
        by_cases hsh : b.length - v < m
        · rw [if_pos hsh] at ht; simp at ht
        · rw [if_neg hsh] at h1 h2 ho
          simp only at h1 h2 ho
          have hd : b.drop v = s := by rw [hs, hv, List.drop_left]
          rw [hd] at h1 ho
          have hsl : m ≤ s.length := by rw [hs, List.length_append] at hsh; omega
          obtain ⟨X, hX⟩ : ∃ X, X = s.take m := ⟨_, rfl⟩
          rw [← hX] at h1 ho
          have hXl : X.length = m := by rw [hX, List.length_take]; omega
          have hseal : X = sealed r := by
            unfold openAns at h1 ho
            by_cases h4 : X.length < 4
            · rw [if_pos h4] at ho; simp at ho
            · rw [if_neg h4] at h1 ho
              by_cases h5 : val (X.take 4) = sum (X.drop 4)
              · rw [if_pos h5] at h1
                simp only at h1
                subst h1
                unfold sealed
                rw [← h5, four_val (by simp; omega), List.take_append_drop]
              · rw [if_neg h5] at ho; simp at ho
          have hrl : r.length + 4 = m := by rw [← slen, ← hseal, hXl]
          have hrb : recB r = enc m ++ X := by rw [recB, encT, ← hseal, hXl]
          refine ⟨by unfold fitR; omega, by rw [← h2, hrb, List.length_append, hXl, hv], s.drop m, ?_⟩
          rw [hrb, List.append_assoc, hX, List.take_append_drop]
          exact hs
    · rw [if_pos he] at ht
      exact absurd ht he
  · cases h
theorem readGo_take : ∀ (f : Nat) (b : List UInt8), (∀ r ∈ (readGo f b).1, fitR r) ∧ (readGo f b).2 = (lay (readGo f b).1).length ∧ ∃ s, b = lay (readGo f b).1 ++ s ∧ (b.length ≤ f → oneAns s = none)
  | 0, b => ⟨by simp [readGo], by simp [readGo, lay], b, by simp [readGo, lay], fun h => by rw [List.eq_nil_of_length_eq_zero (Nat.le_zero.1 h)]; exact one_nil⟩
  | f + 1, b => by
    rcases ho : oneAns b with _ | ⟨r, u⟩
    · have e : readGo (f + 1) b = ([], 0) := by rw [readGo, ho]
      rw [e]
      exact ⟨by simp, by simp [lay], b, by simp [lay], fun _ => ho⟩
    · obtain ⟨h1, h2, s, hs⟩ := one_take ho
      have e : readGo (f + 1) b = (r :: (readGo f s).1, u + (readGo f s).2) := by
        rw [readGo, ho]
        simp only
        rw [hs, h2, List.drop_left]
      rw [e]
      obtain ⟨i1, i2, s2, i3, i4⟩ := readGo_take f s
      refine ⟨?_, by rw [lay_cons, List.length_append, h2, i2], s2, by rw [lay_cons, List.append_assoc, ← i3]; exact hs, fun hb => i4 ?_⟩
      · intro x hx
        rcases List.mem_cons.1 hx with rfl | hx
        · exact h1
        · exact i1 x hx
      · rw [hs, List.length_append] at hb
        have := recB_ge r
        omega
theorem read_take (b : List UInt8) : (∀ r ∈ (readAns b).1, fitR r) ∧ (readAns b).2 = (lay (readAns b).1).length ∧ ∃ s, b = lay (readAns b).1 ++ s ∧ oneAns s = none := by
  obtain ⟨h1, h2, s, h3, h4⟩ := readGo_take b.length b
  exact ⟨h1, h2, s, h3, h4 (Nat.le_refl _)⟩
end Go.Proofs.YtbifnogocmgddaaGreat

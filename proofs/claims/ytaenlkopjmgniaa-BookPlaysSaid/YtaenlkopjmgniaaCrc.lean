/- The register as plain arithmetic: one step, a byte, a text; that it adds up bit by bit, and that it loses nothing. -/
import Derived.Laws.BitsLemmas
namespace Go.Proofs.Ytaenlkopjmgniaa

/-- one bit falls out -/
def step (r : Nat) : Nat := if r % 2 = 1 then (r / 2) ^^^ 2197175160 else r / 2
def steps : Nat → Nat → Nat
  | 0, r => r
  | n + 1, r => steps n (step r)
theorem steps_succ (n r : Nat) : steps (n + 1) r = step (steps n r) := by
  induction n generalizing r with
  | zero => rfl
  | succ n ih => rw [steps, ih, ← steps]
theorem steps_add (m n r : Nat) : steps (m + n) r = steps n (steps m r) := by
  induction m generalizing r with
  | zero => simp [steps]
  | succ m ih => rw [show m + 1 + n = (m + n) + 1 by omega, steps, ih, ← steps]

theorem step_lt {r : Nat} (h : r < 2 ^ 32) : step r < 2 ^ 32 := by
  unfold step
  split
  · exact Nat.xor_lt_two_pow (by omega) (by decide)
  · omega
theorem steps_lt {r : Nat} (h : r < 2 ^ 32) : ∀ n, steps n r < 2 ^ 32
  | 0 => h
  | n + 1 => by rw [steps_succ]; exact step_lt (steps_lt h n)

theorem xor_mod2 (a b : Nat) : (a ^^^ b) % 2 = (a % 2) ^^^ (b % 2) := Nat.xor_mod_two_pow (n := 1)
theorem xor_div2 (a b : Nat) : (a ^^^ b) / 2 = (a / 2) ^^^ (b / 2) := Nat.xor_div_two_pow (n := 1)

theorem xcomm (a b : Nat) : a ^^^ b = b ^^^ a := Nat.xor_comm a b
theorem xleft (a b c : Nat) : a ^^^ (b ^^^ c) = b ^^^ (a ^^^ c) := by rw [← Nat.xor_assoc, Nat.xor_comm a b, Nat.xor_assoc]
theorem xcancel (a b : Nat) : a ^^^ (a ^^^ b) = b := by rw [← Nat.xor_assoc, Nat.xor_self, Nat.zero_xor]

theorem step_xor (a b : Nat) : step (a ^^^ b) = step a ^^^ step b := by
  unfold step
  rw [xor_mod2, xor_div2]
  rcases Nat.mod_two_eq_zero_or_one a with ha | ha <;> rcases Nat.mod_two_eq_zero_or_one b with hb | hb <;> simp only [ha, hb]
  · simp
  · simp [Nat.xor_assoc]
  · simp; simp only [Nat.xor_assoc, xcomm, xleft]
  · simp; simp only [Nat.xor_assoc, xcomm, xleft]; simp only [Nat.xor_self, Nat.xor_zero]
theorem steps_xor (n a b : Nat) : steps n (a ^^^ b) = steps n a ^^^ steps n b := by
  induction n generalizing a b with
  | zero => rfl
  | succ n ih => rw [steps, step_xor, ih, ← steps, ← steps]
theorem step_zero : step 0 = 0 := rfl
theorem steps_zero (n : Nat) : steps n 0 = 0 := by
  induction n with
  | zero => rfl
  | succ n ih => rw [steps, step_zero, ih]

/-- a step loses nothing: the highest bit behind it tells which bit fell out -/
theorem step_ne {r : Nat} (h : r < 2 ^ 32) (h0 : step r = 0) : r = 0 := by
  unfold step at h0
  split at h0
  · have e : r / 2 = 2197175160 := by
      have := congrArg (fun x => x ^^^ 2197175160) h0
      simp only [Nat.xor_assoc, Nat.xor_self, Nat.xor_zero, Nat.zero_xor] at this
      exact this
    omega
  · omega
theorem steps_ne {r : Nat} (h : r < 2 ^ 32) : ∀ {n}, steps n r = 0 → r = 0
  | 0, h0 => h0
  | n + 1, h0 => steps_ne h (step_ne (steps_lt h n) (by rw [← steps_succ]; exact h0))

theorem step_double (r : Nat) : step (r * 2) = r := by unfold step; split <;> omega
theorem steps_shift : ∀ (n r : Nat), steps n (r * 2 ^ n) = r
  | 0, r => by simp [steps]
  | n + 1, r => by rw [Nat.pow_succ, ← Nat.mul_assoc, steps, step_double, steps_shift]

/-- a byte -/
def take8 (r : Nat) (c : UInt8) : Nat := steps 8 (r ^^^ c.toNat)
/-- bytes -/
def run (r : Nat) (l : List UInt8) : Nat := l.foldl take8 r
theorem run_nil (r : Nat) : run r [] = r := rfl
theorem run_cons (r : Nat) (c : UInt8) (l : List UInt8) : run r (c :: l) = run (take8 r c) l := rfl
theorem run_append (r : Nat) (a b : List UInt8) : run r (a ++ b) = run (run r a) b := List.foldl_append
theorem cbyte_lt (c : UInt8) : c.toNat < 256 := c.toNat_lt
theorem take8_lt {r : Nat} (h : r < 2 ^ 32) (c : UInt8) : take8 r c < 2 ^ 32 := steps_lt (Nat.xor_lt_two_pow h (by have := cbyte_lt c; omega)) 8
theorem run_lt {r : Nat} (h : r < 2 ^ 32) : ∀ l, run r l < 2 ^ 32
  | [] => h
  | c :: l => run_lt (take8_lt h c) l

/-- the sum of bytes behind others -/
def more (s : Nat) (l : List UInt8) : Nat := run (s ^^^ 4294967295) l ^^^ 4294967295
def sum (l : List UInt8) : Nat := more 0 l
theorem more_lt {s : Nat} (h : s < 2 ^ 32) (l : List UInt8) : more s l < 2 ^ 32 := Nat.xor_lt_two_pow (run_lt (Nat.xor_lt_two_pow h (by decide)) l) (by decide)
theorem sum_lt (l : List UInt8) : sum l < 2 ^ 32 := more_lt (by decide) l

/-- a text may be summed in two parts -/
theorem more_sum (a b : List UInt8) : more (sum a) b = sum (a ++ b) := by
  simp only [sum, more, run_append, Nat.xor_assoc, Nat.xor_self, Nat.xor_zero]

/-- the bits of two texts of one length, added -/
def addB (a b : List UInt8) : List UInt8 := List.zipWith (· ^^^ ·) a b
theorem toNat_xor (a b : UInt8) : (a ^^^ b).toNat = a.toNat ^^^ b.toNat := UInt8.toNat_xor a b
theorem take8_xor (r s : Nat) (a b : UInt8) : take8 (r ^^^ s) (a ^^^ b) = take8 r a ^^^ take8 s b := by
  unfold take8
  rw [toNat_xor, ← steps_xor]
  congr 1
  simp only [Nat.xor_assoc, xleft]
theorem run_addB : ∀ (a b : List UInt8) (r s : Nat), a.length = b.length → run (r ^^^ s) (addB a b) = run r a ^^^ run s b
  | [], [], r, s, _ => rfl
  | x :: a, y :: b, r, s, h => by
    rw [addB, List.zipWith_cons_cons, run_cons, take8_xor, ← addB, run_addB a b _ _ (by simpa using h), run_cons, run_cons]
/-- three texts of one length -/
theorem sum_three (a b c : List UInt8) (hb : b.length = a.length) (hc : c.length = a.length) : sum (addB (addB a b) c) = sum a ^^^ sum b ^^^ sum c := by
  have h := run_addB (addB a b) c (4294967295 ^^^ 4294967295) 4294967295 (by simp [addB]; omega)
  rw [run_addB a b _ _ hb.symm] at h
  simp only [sum, more, Nat.zero_xor]
  rw [show (4294967295 ^^^ 4294967295 ^^^ 4294967295 : Nat) = 4294967295 by decide] at h
  rw [h]
  simp only [Nat.xor_assoc, xcomm, xleft, xcancel]
  
/-- bytes of 0 leave the register 0 -/
theorem run_zeros : ∀ n, run 0 (List.replicate n 0) = 0
  | 0 => rfl
  | n + 1 => by rw [List.replicate_succ, run_cons, show take8 0 0 = 0 from rfl, run_zeros n]
/-- a register that is not 0 stays so -/
theorem run_ne : ∀ (n r : Nat), r < 2 ^ 32 → r ≠ 0 → run r (List.replicate n 0) ≠ 0
  | 0, r, _, h => h
  | n + 1, r, hr, h => by
    rw [List.replicate_succ, run_cons]
    refine run_ne n _ (take8_lt hr 0) fun h0 => h ?_
    unfold take8 at h0
    simpa using steps_ne (by simpa using hr) h0

/-- byte k of a number -/
def byteAt (t k : Nat) : UInt8 := UInt8.ofNat (t / 2 ^ (8 * k))
theorem byteAt_toNat (t k : Nat) : (byteAt t k).toNat = t / 2 ^ (8 * k) % 256 := by simp [byteAt]
def four (t : Nat) : List UInt8 := [byteAt t 0, byteAt t 1, byteAt t 2, byteAt t 3]

theorem steps8_into (x d : Nat) : steps 8 x ^^^ d = steps 8 (x ^^^ d * 256) := by
  rw [steps_xor, show d * 256 = d * 2 ^ 8 by rfl, steps_shift]
/-- the four bytes of a number, as a difference -/
theorem run_four {t : Nat} (ht : t < 2 ^ 32) (h : run 0 (four t) = 0) : t = 0 := by
  obtain ⟨a, ha⟩ : ∃ a, a = t % 256 := ⟨_, rfl⟩
  obtain ⟨b, hb⟩ : ∃ b, b = t / 256 % 256 := ⟨_, rfl⟩
  obtain ⟨c, hc⟩ : ∃ c, c = t / 65536 % 256 := ⟨_, rfl⟩
  obtain ⟨d, hd⟩ : ∃ d, d = t / 16777216 % 256 := ⟨_, rfl⟩
  have e0 : (byteAt t 0).toNat = a := by rw [byteAt_toNat, ha]; simp
  have e1 : (byteAt t 1).toNat = b := by rw [byteAt_toNat, hb]
  have e2 : (byteAt t 2).toNat = c := by rw [byteAt_toNat, hc]
  have e3 : (byteAt t 3).toNat = d := by rw [byteAt_toNat, hd]
  have key : steps 8 (steps 8 (steps 8 (steps 8 a ^^^ b) ^^^ c) ^^^ d) = 0 := by
    have h' := h
    simp only [four, run_cons, run_nil, take8, e0, e1, e2, e3, Nat.zero_xor] at h'
    exact h'
  rw [steps8_into a b, ← steps_add, show steps (8 + 8) (a ^^^ b * 256) ^^^ c = steps (8 + 8) (a ^^^ b * 256 ^^^ c * 65536) by
    rw [steps_xor _ (a ^^^ b * 256), show c * 65536 = c * 2 ^ (8 + 8) by rfl, steps_shift], ← steps_add,
    show steps (8 + 8 + 8) (a ^^^ b * 256 ^^^ c * 65536) ^^^ d = steps (8 + 8 + 8) (a ^^^ b * 256 ^^^ c * 65536 ^^^ d * 16777216) by
    rw [steps_xor _ (a ^^^ b * 256 ^^^ c * 65536), show d * 16777216 = d * 2 ^ (8 + 8 + 8) by rfl, steps_shift], ← steps_add] at key
  have hlt : a ^^^ b * 256 ^^^ c * 65536 ^^^ d * 16777216 < 2 ^ 32 :=
    Nat.xor_lt_two_pow (Nat.xor_lt_two_pow (Nat.xor_lt_two_pow (by omega) (by omega)) (by omega)) (by omega)
  have hz := steps_ne hlt key
  have m : ∀ x y : Nat, (x ^^^ y) % 256 = (x % 256) ^^^ (y % 256) := fun x y => Nat.xor_mod_two_pow (n := 8)
  have q : ∀ x y : Nat, (x ^^^ y) / 256 = (x / 256) ^^^ (y / 256) := fun x y => Nat.xor_div_two_pow (n := 8)
  have z0 := congrArg (· % 256) hz
  have z1 := congrArg (· / 256 % 256) hz
  have z2 := congrArg (· / 256 / 256 % 256) hz
  have z3 := congrArg (· / 256 / 256 / 256 % 256) hz
  simp only [m, q] at z0 z1 z2 z3
  rw [show b * 256 % 256 = 0 by omega, show c * 65536 % 256 = 0 by omega, show d * 16777216 % 256 = 0 by omega] at z0
  rw [show a / 256 = 0 by omega, show b * 256 / 256 = b by omega, show c * 65536 / 256 = c * 256 by omega, show d * 16777216 / 256 = d * 65536 by omega, show c * 256 % 256 = 0 by omega, show d * 65536 % 256 = 0 by omega] at z1
  rw [show a / 256 / 256 = 0 by omega, show b * 256 / 256 / 256 = 0 by omega, show c * 65536 / 256 / 256 = c by omega, show d * 16777216 / 256 / 256 = d * 256 by omega, show d * 256 % 256 = 0 by omega] at z2
  rw [show a / 256 / 256 / 256 = 0 by omega, show b * 256 / 256 / 256 / 256 = 0 by omega, show c * 65536 / 256 / 256 / 256 = 0 by omega, show d * 16777216 / 256 / 256 / 256 = d by omega] at z3
  simp at z0 z1 z2 z3
  omega

/-- a text whose four bytes from i on are turned by t -/
theorem burst (p m s : List UInt8) (t : Nat) (hm : m.length = 4) (ht : t < 2 ^ 32) (h0 : t ≠ 0) : sum (p ++ (addB m (four t) ++ s)) ≠ sum (p ++ (m ++ s)) := by
  have hd : p ++ (addB m (four t) ++ s) = addB (p ++ (m ++ s)) (List.replicate p.length 0 ++ (four t ++ List.replicate s.length 0)) := by
    have hz : ∀ l : List UInt8, addB l (List.replicate l.length 0) = l := by
      intro l
      induction l with
      | nil => rfl
      | cons x l ih => rw [List.length_cons, List.replicate_succ, addB, List.zipWith_cons_cons, ← addB, ih]; simp
    show _ = List.zipWith _ _ _
    rw [List.zipWith_append (by simp), List.zipWith_append (by simp [hm, four])]
    show _ = addB _ _ ++ (addB _ _ ++ addB _ _)
    rw [hz, hz]
  have hlen : (p ++ (m ++ s)).length = (List.replicate p.length (0 : UInt8) ++ (four t ++ List.replicate s.length 0)).length := by simp [hm, four]; omega
  rw [hd]
  intro h
  have h1 := run_addB (p ++ (m ++ s)) _ 4294967295 0 hlen
  rw [Nat.xor_zero] at h1
  simp only [sum, more, Nat.zero_xor] at h
  rw [h1] at h
  have h2 : run 0 (List.replicate p.length 0 ++ (four t ++ List.replicate s.length 0)) = 0 := by
    have := congrArg (fun x => run 4294967295 (p ++ (m ++ s)) ^^^ (x ^^^ 4294967295)) h
    simp only [Nat.xor_assoc, Nat.xor_self, Nat.xor_zero, xcancel] at this
    exact this
  rw [run_append, run_zeros, run_append] at h2
  refine run_ne s.length (run 0 (four t)) (run_lt (by decide) _) (fun h3 => h0 (run_four ht h3)) h2
end Go.Proofs.Ytaenlkopjmgniaa

/- The reader: what its calls leave. -/
import Derived.Test.YtaenlkopjmgniaaWr
import Derived.Test.YtaenlkopjmgniaaRText
import Derived.Test.YtaenlkopjmgniaaBits
namespace Go.Proofs.Ytaenlkopjmgniaa
open Go.RowKit

/-- a reader at block p: the bytes, how many were read, the error -/
def Rdr (w : World) (base p : Nat) (v : Value) (used e : Int) : Prop := Whole w p 74 [v, .int .i64 used, .int .i64 e] ∧ base ≤ p

set_option maxHeartbeats 1000000 in
set_option maxRecDepth 100000 in
theorem from_any (v : Value) (w : World) (A : Option Addr) (n c : Nat) (hv : v = .slice A n c) :
    Calls Try.prog 41 #[v] w fun e w' => ∃ p, e = .returned (.pointer (some ⟨p, 0, none⟩)) ∧ Rdr w' w.heap.size p v 0 0 ∧ Below w.heap.size w w' ∧ p = w.heap.size := by
  subst hv
  go_enter Try.func41, Try.ntmps41
  go_wp2_with fail
  go_ret
  exact ⟨_, rfl, ⟨Whole.fresh _ _ [_, _, _], Nat.le_refl _⟩, (Below.refl _ _).alloc (Nat.le_refl _) _, rfl⟩

set_option maxHeartbeats 1000000 in
set_option maxRecDepth 100000 in
theorem rfail_any (base p : Nat) (v : Value) (used e f : Int) (w : World) (hw : Rdr w base p v used e) :
    Calls Try.prog 49 #[.pointer (some ⟨p, 0, none⟩), .int .i64 f] w fun x w' => x = .returned (.pointer (some ⟨p, 0, none⟩)) ∧ w' = (w.setCell ⟨p, 1, none⟩ (.int .i64 0)).setCell ⟨p, 2, none⟩ (.int .i64 f) := by
  obtain ⟨hb, hp⟩ := hw
  have c1 := hb.cell 1 _ rfl
  have c2 := hb.cell 2 _ rfl
  have f1 := hb.frozen 1
  have f2 := hb.frozen 2
  clear hb
  go_enter Try.func49, Try.ntmps49
  go_wp2_with fail
  go_ret
  exact ⟨rfl, rfl⟩
set_option maxRecDepth 100000 in
theorem Rdr.failed {w : World} {base p : Nat} {v : Value} {used e : Int} (f : Int) (h : Rdr w base p v used e) : Rdr ((w.setCell ⟨p, 1, none⟩ (.int .i64 0)).setCell ⟨p, 2, none⟩ (.int .i64 f)) base p v 0 f :=
  ⟨(h.1.put 1 _).put 2 _, h.2⟩

set_option maxHeartbeats 1000000 in
set_option maxRecDepth 100000 in
/-- behind an error nothing is read -/
theorem rdnum_err (base p : Nat) (v pn : Value) (used e : Int) (he : e ≠ 0) (w : World) (hw : Rdr w base p v used e) :
    Calls Try.prog 48 #[.pointer (some ⟨p, 0, none⟩), pn] w fun x w' => x = .returned (.pointer (some ⟨p, 0, none⟩)) ∧ w = w' := by
  obtain ⟨hb, hp⟩ := hw
  have c2 := hb.cell 2 _ rfl
  clear hb
  go_enter Try.func48, Try.ntmps48
  go_wp2_with fail
  go_ret
  exact ⟨rfl, rfl⟩

/-- the world behind the reading of a number into a cell -/
def NumW (p q o used : Nat) (r : Nat × Nat × Nat) (w w' : World) : Prop :=
  (r.2.2 = 0 ∧ ∃ k, w' = ((w.setCell ⟨q, o, none⟩ (.int .i64 (r.1 : Int))).setCell ⟨p, 1, none⟩ (.int .i64 ((used : Int) + (r.2.1 : Int)))).drewN k) ∨
  (r.2.2 ≠ 0 ∧ ∃ k, w' = ((w.setCell ⟨p, 1, none⟩ (.int .i64 0)).setCell ⟨p, 2, none⟩ (.int .i64 (r.2.2 : Int))).drewN k)
set_option maxRecDepth 100000 in
theorem or_nat64 {a b i : Nat} (ha : a < 2 ^ i) (h : a + 2 ^ i * b < 9223372036854775808) : bits .or .i64 (a : Int) ((2 ^ i * b : Nat) : Int) = ((a + 2 ^ i * b : Nat) : Int) := by
  have e : a ||| 2 ^ i * b = a + 2 ^ i * b := by
    rw [Nat.or_comm, ← Nat.two_pow_add_eq_or_of_lt ha, Nat.add_comm]
  have ha' : a % 2 ^ IntKind.i64.bits = a := Nat.mod_eq_of_lt (by show a < 2 ^ 64; omega)
  have hb' : 2 ^ i * b % 2 ^ IntKind.i64.bits = 2 ^ i * b := Nat.mod_eq_of_lt (by show _ < 2 ^ 64; omega)
  simp only [bits, BitVec.ofInt_natCast, BitVec.toNat_or, BitVec.toNat_ofNat, ha', hb', e]
  rw [IntKind.wrap_i64]
  omega
set_option maxRecDepth 100000 in
theorem andNot128 : ∀ a : Fin 256, bits .andNot .u8 (a.val : Int) 128 = ((a.val % 128 : Nat) : Int) := by decide +kernel

set_option maxHeartbeats 4000000 in
set_option maxRecDepth 100000 in
theorem rdnum_any (base p : Nat) (l : List UInt8) (A : Option Addr) (c used q o : Nat) (z : Value) (w : World) (hw : Rdr w base p (.slice A l.length c) (used : Int) 0) (hv : RdB w base (.slice A l.length c) l) (hu : used ≤ l.length) (hl : l.length < 4611686018427387904)
    (hq : w.cell? ⟨q, o, none⟩ = some z) (hf : w.frozen? ⟨q, o, none⟩ = false) (hpq : q ≠ p) (hbq : base ≤ q) :
    Calls Try.prog 48 #[.pointer (some ⟨p, 0, none⟩), .pointer (some ⟨q, o, none⟩)] w fun x w' => x = .returned (.pointer (some ⟨p, 0, none⟩)) ∧
      NumW p q o used (numAns (l.drop used)) w w' := by
  obtain ⟨hb, hp⟩ := hw
  have c0 := hb.cell 0 _ rfl
  have c1 := hb.cell 1 _ rfl
  have c2 := hb.cell 2 _ rfl
  have f1 := hb.frozen 1
  have f2 := hb.frozen 2
  have hlt := hb.size
  have HB := Lib.hid hb; clear hb
  obtain ⟨R, hR⟩ : ∃ R, R = numAns (l.drop used) := ⟨_, rfl⟩
  rw [← hR]
  have hc : l.length ≤ c := by
    obtain ⟨A0, c0, e, h, _⟩ := hv
    injection e with _ _ e
    rw [e]; exact h
  by_cases hml : l.length = used
  · have hr : R = (0, 0, 3) := by rw [hR, List.drop_eq_nil_of_le (by omega)]; rfl
    subst hr
    clear hR hv
    subst hml
    have hF := fun (W : World) (h : Rdr W base p (.slice A l.length c) (l.length : Int) 0) => rfail_any base p _ _ 0 3 W h
    have HF := Lib.hid hF; clear hF
    by_cases hcu : c = l.length
    all_goals
      go_enter Try.func48, Try.ntmps48
      go_wp2_with fail
      go_quiet (fail)
      go_wp2_with fail
      go_loop [30] (fun iv => iv = .int .i64 0) (fun _ => 0)
      case atStart => rfl
      case round =>
        subst hrel
        go_wp2_with fail
        refine (HF.out (w.drewN nq) ⟨HB.out, hp⟩).mono ?_
        rintro x w2 ⟨rfl, rfl⟩
        go_wp2_with fail
        go_ret
        exact ⟨rfl, .inr ⟨by simp, nq, rfl⟩⟩
  · obtain ⟨A0, c0', e, hc', hi⟩ := hv.at
    injection e with e1 _ e2
    subst e1 e2
    obtain ⟨b, o2, hA, hbB⟩ : ∃ b o2, A = some ⟨b, o2, none⟩ ∧ b < base := by obtain ⟨b, o2, h1, h2, _⟩ := hi 0 (by omega); exact ⟨b, o2, h1, h2⟩
    subst hA
    have hcell : ∀ i, (h : i < (l.drop used).length) → w.cell? ⟨b, o2 + used + i, none⟩ = some (.int .u8 ((l.drop used)[i].toNat : Int)) := fun i h => by
      obtain ⟨b', o', hA', _, h1⟩ := hi (used + i) (by simp at h; omega)
      simp only [Option.some.injEq, Addr.mk.injEq, and_true] at hA'
      obtain ⟨rfl, rfl⟩ := hA'
      rw [Nat.add_assoc, h1]
      simp
    have hdl : (l.drop used).length = l.length - used := by simp
    generalize l.drop used = m at hR hcell hdl
    obtain ⟨k, hk⟩ : ∃ k : Nat, k = min (l.length - used) 9 := ⟨_, rfl⟩
    have hk1 : (min (↑(l.length - used)) 9 : Int) = (k : Int) := by omega
    have hk9 : k ≤ 9 := by omega
    have hkm : k ≤ m.length := by omega
    have hkk : k = 9 ∨ k = m.length := by omega
    have HK := Lib.hid hkk
    have HC := Lib.hid hcell
    have HDL := Lib.hid hdl
    have HR := Lib.hid hR
    have hcu : ¬ c = used := by omega
    have hcu2 : used < c := by omega
    clear hkk hcell hdl hR hi hv hk
    go_enter Try.func48, Try.ntmps48
    go_wp2_with fail
    go_quiet (fail)
    go_wp2_with fail
    go_loop [5, 7, 8, 30] (fun nv i7 c8 iv => ∃ (i n : Nat), i ≤ k ∧ iv = .int .i64 i ∧ nv = .int .i64 n ∧ n < 128 ^ i ∧ R = numGo i n (128 ^ i) (m.drop i)) (fun _ _ _ iv => 9 - (intOf iv).toNat)
    case atStart => exact ⟨0, 0, by omega, rfl, rfl, by simp, by rw [HR.out]; rfl⟩
    case round =>
      obtain ⟨i, n, hik, rfl, rfl, hn, he⟩ := hrel
      have HN := Lib.hid hn; clear hn
      have HE := Lib.hid he; clear he
      by_cases hlt : i < k
      · have hlm : i < m.length := by omega
        have h1 := HC.out i hlm
        have hd : m.drop i = m[i] :: m.drop (i + 1) := List.drop_eq_getElem_cons hlm
        have hgo := HE.out
        rw [hd, numGo, if_neg (by omega)] at hgo
        have hcc := m[i].toNat_lt
        generalize m[i].toNat = cn at h1 hgo hcc
        obtain ⟨x, hx⟩ : ∃ x, x = cn % 128 := ⟨_, rfl⟩
        have ha : bits .andNot .u8 (cn : Int) 128 = (x : Int) := by rw [hx]; exact andNot128 ⟨cn, hcc⟩
        have hx7 : x < 128 := by omega
        obtain ⟨y, hy⟩ : ∃ y, y = x * 128 ^ i := ⟨_, rfl⟩
        have hpow : (2 : Nat) ^ (7 * i) = 128 ^ i := by rw [Nat.pow_mul]
        have hnp1 : n + y < 128 ^ (i + 1) := by
          have hn' := HN.out
          have hle : x * 128 ^ i ≤ 127 * 128 ^ i := Nat.mul_le_mul_right _ (by omega)
          rw [Nat.pow_succ, hy]
          omega
        have hnp : n + y < 9223372036854775808 := Nat.lt_of_lt_of_le hnp1 (Nat.pow_le_pow_right (by decide) (show i + 1 ≤ 9 by omega))
        have hy2 : (x : Int) * 2 ^ (7 * i) = (y : Int) := by rw [hy, ← hpow]; simp
        have hor : bits .or .i64 (n : Int) (y : Int) = ((n + y : Nat) : Int) := by
          have h := or_nat64 (a := n) (b := x) (i := 7 * i) (by rw [hpow]; exact HN.out) (by rw [hpow, Nat.mul_comm, ← hy]; exact hnp)
          rw [hpow, Nat.mul_comm, ← hy] at h
          exact h
        rw [← hx, ← hy] at hgo
        have HG := Lib.hid hgo
        have H1 := Lib.hid hnp1
        have HX := Lib.hid hx
        have HY := Lib.hid hy
        clear hgo hd hnp1 hx hy
        by_cases hs : cn < 128
        · have hg2 := HG.out
          rw [if_pos hs] at hg2
          by_cases hz : cn = 0
          · subst hz
            obtain rfl : x = 0 := HX.out
            obtain rfl : y = 0 := by have := HY.out; omega
            by_cases hi0 : i > 0
            · rw [if_pos ⟨rfl, hi0⟩] at hg2
              have HG2 := Lib.hid hg2
              clear hg2 HX HY
              go_wp2_with fail
              refine (rfail_any base p _ _ 0 2 (w.drewN nq) ⟨HB.out, hp⟩).mono ?_
              rintro x w2 ⟨rfl, rfl⟩
              go_wp2_with fail
              go_ret
              exact ⟨rfl, by rw [HG2.out]; exact .inr ⟨by simp, nq, rfl⟩⟩
            · rw [if_neg (by omega)] at hg2
              have hi00 : ¬ ((0 : Int) < (i : Int)) := by omega
              have ha0 : bits .andNot .u8 0 128 = 0 := ha
              have hor0 : bits .or .i64 (n : Int) 0 = (n : Int) := hor
              clear ha hor hy2
              have HG2 := Lib.hid hg2
              clear hg2 HX HY
              go_wp2_with fail
              go_ret
              exact ⟨rfl, by rw [HG2.out]; exact .inl ⟨rfl, nq, by simp; rfl⟩⟩
          · rw [if_neg (by omega)] at hg2
            have HG2 := Lib.hid hg2
            clear hg2
            go_wp2_with fail
            go_ret
            exact ⟨rfl, by rw [HG2.out]; exact .inl ⟨rfl, nq, by simp; rfl⟩⟩
        · have hg2 := HG.out
          rw [if_neg hs, ← Nat.pow_succ] at hg2
          have HG2 := Lib.hid hg2
          clear hg2
          go_wp2_with fail
          go_round
          case rel => exact ⟨i + 1, n + y, by omega, by go_num, by go_num, H1.out, HG2.out⟩
          case measure => simp [intOf]; omega
      · obtain rfl : i = k := by omega
        have hg2 := HE.out
        rcases HK.out with h9 | hm
        · have h9m : 9 ≤ m.length := by omega
          have hr : R = (0, 0, 2) := by
            rw [hg2]
            cases hd : m.drop i with
            | nil => rw [numGo, if_pos (by omega)]
            | cons y ys => rw [numGo, if_pos (by omega)]
          have HR2 := Lib.hid hr
          have hl9 : ¬ ((l.length : Int) - (used : Int) < 9) := by have := HDL.out; omega
          have hl92 : ¬ (l.length - used < 9) := by have := HDL.out; omega
          clear hr hg2 h9
          go_wp2_with fail
          refine (rfail_any base p _ _ 0 2 (w.drewN nq) ⟨HB.out, hp⟩).mono ?_
          rintro x w2 ⟨rfl, rfl⟩
          go_wp2_with fail
          go_ret
          exact ⟨rfl, by rw [HR2.out]; exact .inr ⟨by simp, nq, rfl⟩⟩
        · by_cases h9m : 9 ≤ m.length
          · have hr : R = (0, 0, 2) := by
              rw [hg2, hm, List.drop_length, numGo, if_pos (by omega)]
            have HR2 := Lib.hid hr
            have hl92 : ¬ (l.length - used < 9) := by have := HDL.out; omega
            clear hr hg2 hm
            go_wp2_with fail
            refine (rfail_any base p _ _ 0 2 (w.drewN nq) ⟨HB.out, hp⟩).mono ?_
            rintro x w2 ⟨rfl, rfl⟩
            go_wp2_with fail
            go_ret
            exact ⟨rfl, by rw [HR2.out]; exact .inr ⟨by simp, nq, rfl⟩⟩
          · have hr : R = (0, 0, 3) := by
              rw [hg2, hm, List.drop_length, numGo, if_neg (by omega)]
            have HR2 := Lib.hid hr
            have hl92 : l.length - used < 9 := by have := HDL.out; omega
            clear hr hg2 hm
            go_wp2_with fail
            refine (rfail_any base p _ _ 0 3 (w.drewN nq) ⟨HB.out, hp⟩).mono ?_
            rintro x w2 ⟨rfl, rfl⟩
            go_wp2_with fail
            go_ret
            exact ⟨rfl, by rw [HR2.out]; exact .inr ⟨by simp, nq, rfl⟩⟩
end Go.Proofs.Ytaenlkopjmgniaa

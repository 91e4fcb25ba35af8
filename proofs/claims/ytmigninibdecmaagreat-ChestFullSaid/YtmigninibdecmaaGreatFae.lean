/- The reader: what its calls leave. What Num answers. What Text answers. The frame layer's reader: what its calls leave. -/
import Derived.Test.YtmigninibdecmaaGreatFac
import Derived.Test.YtmigninibdecmaaGreatFab
import Derived.Test.YtmigninibdecmaaGreatFad
import Derived.StillTailTactics
namespace Go.Proofs.YtmigninibdecmaaGreat
open Go.RowKit

/-- a reader at block p: the bytes, how many were read, the error -/
def Rdr (w : World) (base p : Nat) (v : Value) (used e : Int) : Prop := Whole w p 133 [v, .int .i64 used, .int .i64 e] ∧ base ≤ p

set_option maxHeartbeats 1000000 in
set_option maxRecDepth 100000 in
theorem from_any (v : Value) (w : World) (A : Option Addr) (n c : Nat) (hv : v = .slice A n c) :
    Calls Tryz.prog 78 #[v] w fun e w' => ∃ p, e = .returned (.pointer (some ⟨p, 0, none⟩)) ∧ Rdr w' w.heap.size p v 0 0 ∧ Below w.heap.size w w' ∧ p = w.heap.size := by
  subst hv
  go_enter Tryz.func78, Tryz.ntmps78
  go_wp2_with fail
  go_ret
  exact ⟨_, rfl, ⟨Whole.fresh _ _ [_, _, _], Nat.le_refl _⟩, (Below.refl _ _).alloc (Nat.le_refl _) _, rfl⟩

set_option maxHeartbeats 1000000 in
set_option maxRecDepth 100000 in
theorem rfail_any (base p : Nat) (v : Value) (used e f : Int) (w : World) (hw : Rdr w base p v used e) :
    Calls Tryz.prog 107 #[.pointer (some ⟨p, 0, none⟩), .int .i64 f] w fun x w' => x = .returned (.pointer (some ⟨p, 0, none⟩)) ∧ w' = (w.setCell ⟨p, 1, none⟩ (.int .i64 0)).setCell ⟨p, 2, none⟩ (.int .i64 f) := by
  obtain ⟨hb, hp⟩ := hw
  have c1 := hb.cell 1 _ rfl
  have c2 := hb.cell 2 _ rfl
  have f1 := hb.frozen 1
  have f2 := hb.frozen 2
  clear hb
  go_enter Tryz.func107, Tryz.ntmps107
  go_wp2_with fail
  go_ret
  exact ⟨rfl, rfl⟩
set_option maxRecDepth 100000 in
theorem Rdr.failed {w : World} {base p : Nat} {v : Value} {used e : Int} (f : Int) (h : Rdr w base p v used e) : Rdr ((w.setCell ⟨p, 1, none⟩ (.int .i64 0)).setCell ⟨p, 2, none⟩ (.int .i64 f)) base p v 0 f :=
  ⟨(h.1.put 1 _).put 2 _, h.2⟩

set_option maxHeartbeats 1000000 in
set_option maxRecDepth 100000 in
/-- behind an error nothing is read -/
theorem rdnum_err (base p : Nat) (v pn : Value) (used e : Int) (he : e ≠ 0) (w : World) (hw : Rdr w base p v used e) :
    Calls Tryz.prog 79 #[.pointer (some ⟨p, 0, none⟩), pn] w fun x w' => x = .returned (.pointer (some ⟨p, 0, none⟩)) ∧ w = w' := by
  obtain ⟨hb, hp⟩ := hw
  have c2 := hb.cell 2 _ rfl
  clear hb
  go_enter Tryz.func79, Tryz.ntmps79
  go_wp2_with fail
  go_ret
  exact ⟨rfl, rfl⟩

/-- the world behind the reading of a number into a cell -/
def NumW (p q o used : Nat) (r : Nat × Nat × Nat) (w w' : World) : Prop :=
  (r.2.2 = 0 ∧ ∃ k, w' = ((w.setCell ⟨q, o, none⟩ (.int .i64 (r.1 : Int))).setCell ⟨p, 1, none⟩ (.int .i64 ((used : Int) + (r.2.1 : Int)))).drewN k) ∨
  (r.2.2 ≠ 0 ∧ ∃ k, w' = ((w.setCell ⟨p, 1, none⟩ (.int .i64 0)).setCell ⟨p, 2, none⟩ (.int .i64 (r.2.2 : Int))).drewN k)
set_option maxRecDepth 100000 in
theorem or_nat64 {a b i : Nat} (ha : a < 2 ^ i) (h : a + 2 ^ i * b < 9223372036854775808) : bits .or .i64 (a : Int) ((2 ^ i * b : Nat) : Int) = ((a + 2 ^ i * b : Nat) : Int) := by
  have e : a ||| 2 ^ i * b = a + 2 ^ i * b := by
    rw [Nat.or_comm, ← Nat.two_pow_add_eq_or_of_lt ha, Nat.add_comm]
  have ha' : a % 2 ^ IntKind.i64.bits = a := Nat.mod_eq_of_lt (by show a < 2 ^ 64; omega)
  have hb' : 2 ^ i * b % 2 ^ IntKind.i64.bits = 2 ^ i * b := Nat.mod_eq_of_lt (by show _ < 2 ^ 64; omega)
  simp only [bits, BitVec.ofInt_natCast, BitVec.toNat_or, BitVec.toNat_ofNat, ha', hb', e]
  rw [IntKind.wrap_i64]
  omega
set_option maxRecDepth 100000 in
theorem andNot128 : ∀ a : Fin 256, bits .andNot .u8 (a.val : Int) 128 = ((a.val % 128 : Nat) : Int) := by decide +kernel

set_option maxHeartbeats 4000000 in
set_option maxRecDepth 100000 in
theorem rdnum_any (base p : Nat) (l : List UInt8) (A : Option Addr) (c used q o : Nat) (z : Value) (w : World) (hw : Rdr w base p (.slice A l.length c) (used : Int) 0) (hv : RdB w base (.slice A l.length c) l) (hu : used ≤ l.length) (hl : l.length < 4611686018427387904)
    (hq : w.cell? ⟨q, o, none⟩ = some z) (hf : w.frozen? ⟨q, o, none⟩ = false) (hpq : q ≠ p) (_hbq : base ≤ q) :
    Calls Tryz.prog 79 #[.pointer (some ⟨p, 0, none⟩), .pointer (some ⟨q, o, none⟩)] w fun x w' => x = .returned (.pointer (some ⟨p, 0, none⟩)) ∧
      NumW p q o used (numAns (l.drop used)) w w' := by
  obtain ⟨hb, hp⟩ := hw
  have c0 := hb.cell 0 _ rfl
  have c1 := hb.cell 1 _ rfl
  have c2 := hb.cell 2 _ rfl
  have f1 := hb.frozen 1
  have f2 := hb.frozen 2
  have hlt := hb.size
  have HB := Lib.hid hb; clear hb
  obtain ⟨R, hR⟩ : ∃ R, R = numAns (l.drop used) := ⟨_, rfl⟩
  rw [← hR]
  have hc : l.length ≤ c := by
    obtain ⟨A0, c0, e, h, _⟩ := hv
    injection e with _ _ e
    rw [e]; exact h
  by_cases hml : l.length = used
  · have hr : R = (0, 0, 3) := by rw [hR, List.drop_eq_nil_of_le (by omega)]; rfl
    subst hr
    clear hR hv
    subst hml
    have hF := fun (W : World) (h : Rdr W base p (.slice A l.length c) (l.length : Int) 0) => rfail_any base p _ _ 0 3 W h
    have HF := Lib.hid hF; clear hF
    by_cases hcu : c = l.length
    all_goals
      go_enter Tryz.func79, Tryz.ntmps79
      go_wp2_with fail
      go_quiet (fail)
      go_wp2_with fail
      go_loop [30] (fun iv => iv = .int .i64 0) (fun _ => 0)
      case atStart => rfl
      case round =>
        subst hrel
        go_wp2_with fail
        refine (HF.out (w.drewN nq) ⟨HB.out, hp⟩).mono ?_
        rintro x w2 ⟨rfl, rfl⟩
        go_wp2_with fail
        go_ret
        exact ⟨rfl, .inr ⟨by simp, nq, rfl⟩⟩
  · obtain ⟨A0, c0', e, hc', hi⟩ := hv.at
    injection e with e1 _ e2
    subst e1 e2
    obtain ⟨b, o2, hA, hbB⟩ : ∃ b o2, A = some ⟨b, o2, none⟩ ∧ b < base := by obtain ⟨b, o2, h1, h2, _⟩ := hi 0 (by omega); exact ⟨b, o2, h1, h2⟩
    subst hA
    have hcell : ∀ i, (h : i < (l.drop used).length) → w.cell? ⟨b, o2 + used + i, none⟩ = some (.int .u8 ((l.drop used)[i].toNat : Int)) := fun i h => by
      obtain ⟨b', o', hA', _, h1⟩ := hi (used + i) (by simp at h; omega)
      simp only [Option.some.injEq, Addr.mk.injEq, and_true] at hA'
      obtain ⟨rfl, rfl⟩ := hA'
      rw [Nat.add_assoc, h1]
      simp
    have hdl : (l.drop used).length = l.length - used := by simp
    generalize l.drop used = m at hR hcell hdl
    obtain ⟨k, hk⟩ : ∃ k : Nat, k = min (l.length - used) 9 := ⟨_, rfl⟩
    have hk1 : (min (↑(l.length - used)) 9 : Int) = (k : Int) := by omega
    have hk9 : k ≤ 9 := by omega
    have hkm : k ≤ m.length := by omega
    have hkk : k = 9 ∨ k = m.length := by omega
    have HK := Lib.hid hkk
    have HC := Lib.hid hcell
    have HDL := Lib.hid hdl
    have HR := Lib.hid hR
    have hcu : ¬ c = used := by omega
    have hcu2 : used < c := by omega
    clear hkk hcell hdl hR hi hv hk
    go_enter Tryz.func79, Tryz.ntmps79
    go_wp2_with fail
    go_quiet (fail)
    go_wp2_with fail
    go_loop [5, 7, 8, 30] (fun nv i7 c8 iv => ∃ (i n : Nat), i ≤ k ∧ iv = .int .i64 i ∧ nv = .int .i64 n ∧ n < 128 ^ i ∧ R = numGo i n (128 ^ i) (m.drop i)) (fun _ _ _ iv => 9 - (intOf iv).toNat)
    case atStart => exact ⟨0, 0, by omega, rfl, rfl, by simp, by rw [HR.out]; rfl⟩
    case round =>
      obtain ⟨i, n, hik, rfl, rfl, hn, he⟩ := hrel
      have HN := Lib.hid hn; clear hn
      have HE := Lib.hid he; clear he
      by_cases hlt : i < k
      · have hlm : i < m.length := by omega
        have h1 := HC.out i hlm
        have hd : m.drop i = m[i] :: m.drop (i + 1) := List.drop_eq_getElem_cons hlm
        have hgo := HE.out
        rw [hd, numGo, if_neg (by omega)] at hgo
        have hcc := m[i].toNat_lt
        generalize m[i].toNat = cn at h1 hgo hcc
        obtain ⟨x, hx⟩ : ∃ x, x = cn % 128 := ⟨_, rfl⟩
        have ha : bits .andNot .u8 (cn : Int) 128 = (x : Int) := by rw [hx]; exact andNot128 ⟨cn, hcc⟩
        have hx7 : x < 128 := by omega
        obtain ⟨y, hy⟩ : ∃ y, y = x * 128 ^ i := ⟨_, rfl⟩
        have hpow : (2 : Nat) ^ (7 * i) = 128 ^ i := by rw [Nat.pow_mul]
        have hnp1 : n + y < 128 ^ (i + 1) := by
          have hn' := HN.out
          have hle : x * 128 ^ i ≤ 127 * 128 ^ i := Nat.mul_le_mul_right _ (by omega)
          rw [Nat.pow_succ, hy]
          omega
        have hnp : n + y < 9223372036854775808 := Nat.lt_of_lt_of_le hnp1 (Nat.pow_le_pow_right (by decide) (show i + 1 ≤ 9 by omega))
        have hy2 : (x : Int) * 2 ^ (7 * i) = (y : Int) := by rw [hy, ← hpow]; simp
        have hor : bits .or .i64 (n : Int) (y : Int) = ((n + y : Nat) : Int) := by
          have h := or_nat64 (a := n) (b := x) (i := 7 * i) (by rw [hpow]; exact HN.out) (by rw [hpow, Nat.mul_comm, ← hy]; exact hnp)
          rw [hpow, Nat.mul_comm, ← hy] at h
          exact h
        rw [← hx, ← hy] at hgo
        have HG := Lib.hid hgo
        have H1 := Lib.hid hnp1
        have HX := Lib.hid hx
        have HY := Lib.hid hy
        clear hgo hd hnp1 hx hy
        by_cases hs : cn < 128
        · have hg2 := HG.out
          rw [if_pos hs] at hg2
          by_cases hz : cn = 0
          · subst hz
            obtain rfl : x = 0 := HX.out
            obtain rfl : y = 0 := by have := HY.out; omega
            by_cases hi0 : i > 0
            · rw [if_pos ⟨rfl, hi0⟩] at hg2
              have HG2 := Lib.hid hg2
              clear hg2 HX HY
              go_wp2_with fail
              refine (rfail_any base p _ _ 0 2 (w.drewN nq) ⟨HB.out, hp⟩).mono ?_
              rintro x w2 ⟨rfl, rfl⟩
              go_wp2_with fail
              go_ret
              exact ⟨rfl, by rw [HG2.out]; exact .inr ⟨by simp, nq, rfl⟩⟩
            · rw [if_neg (by omega)] at hg2
              have hi00 : ¬ ((0 : Int) < (i : Int)) := by omega
              have ha0 : bits .andNot .u8 0 128 = 0 := ha
              have hor0 : bits .or .i64 (n : Int) 0 = (n : Int) := hor
              clear ha hor hy2
              have HG2 := Lib.hid hg2
              clear hg2 HX HY
              go_wp2_with fail
              go_ret
              exact ⟨rfl, by rw [HG2.out]; exact .inl ⟨rfl, nq, by simp; rfl⟩⟩
          · rw [if_neg (by omega)] at hg2
            have HG2 := Lib.hid hg2
            clear hg2
            go_wp2_with fail
            go_ret
            exact ⟨rfl, by rw [HG2.out]; exact .inl ⟨rfl, nq, by simp; rfl⟩⟩
        · have hg2 := HG.out
          rw [if_neg hs, ← Nat.pow_succ] at hg2
          have HG2 := Lib.hid hg2
          clear hg2
          go_wp2_with fail
          go_round
          case rel => exact ⟨i + 1, n + y, by omega, by go_num, by go_num, H1.out, HG2.out⟩
          case measure => simp [intOf]; omega
      · obtain rfl : i = k := by omega
        have hg2 := HE.out
        rcases HK.out with h9 | hm
        · have h9m : 9 ≤ m.length := by omega
          have hr : R = (0, 0, 2) := by
            rw [hg2]
            cases hd : m.drop i with
            | nil => rw [numGo, if_pos (by omega)]
            | cons y ys => rw [numGo, if_pos (by omega)]
          have HR2 := Lib.hid hr
          have hl9 : ¬ ((l.length : Int) - (used : Int) < 9) := by have := HDL.out; omega
          have hl92 : ¬ (l.length - used < 9) := by have := HDL.out; omega
          clear hr hg2 h9
          go_wp2_with fail
          refine (rfail_any base p _ _ 0 2 (w.drewN nq) ⟨HB.out, hp⟩).mono ?_
          rintro x w2 ⟨rfl, rfl⟩
          go_wp2_with fail
          go_ret
          exact ⟨rfl, by rw [HR2.out]; exact .inr ⟨by simp, nq, rfl⟩⟩
        · by_cases h9m : 9 ≤ m.length
          · have hr : R = (0, 0, 2) := by
              rw [hg2, hm, List.drop_length, numGo, if_pos (by omega)]
            have HR2 := Lib.hid hr
            have hl92 : ¬ (l.length - used < 9) := by have := HDL.out; omega
            clear hr hg2 hm
            go_wp2_with fail
            refine (rfail_any base p _ _ 0 2 (w.drewN nq) ⟨HB.out, hp⟩).mono ?_
            rintro x w2 ⟨rfl, rfl⟩
            go_wp2_with fail
            go_ret
            exact ⟨rfl, by rw [HR2.out]; exact .inr ⟨by simp, nq, rfl⟩⟩
          · have hr : R = (0, 0, 3) := by
              rw [hg2, hm, List.drop_length, numGo, if_neg (by omega)]
            have HR2 := Lib.hid hr
            have hl92 : l.length - used < 9 := by have := HDL.out; omega
            clear hr hg2 hm
            go_wp2_with fail
            refine (rfail_any base p _ _ 0 3 (w.drewN nq) ⟨HB.out, hp⟩).mono ?_
            rintro x w2 ⟨rfl, rfl⟩
            go_wp2_with fail
            go_ret
            exact ⟨rfl, by rw [HR2.out]; exact .inr ⟨by simp, nq, rfl⟩⟩
end Go.Proofs.YtmigninibdecmaaGreat
namespace Go.Proofs.YtmigninibdecmaaGreat
open Go.RowKit

set_option maxRecDepth 100000 in
theorem Below.drewN' {B : Nat} {w w' : World} (h : Below B w w') (n : Nat) : Below B w (w'.drewN n) := ⟨h.os, h.tape, h.output, h.size, h.block⟩
set_option maxRecDepth 100000 in
/-- what is kept behind the reading of a number into a block of one cell -/
theorem NumW.kept {w w' : World} {base p q used : Nat} {v : Value} {t : TypeId} {cs : List Value} {r : Nat × Nat × Nat} {o : Nat} (hw : Rdr w base p v (used : Int) 0) (hq : Whole w q t cs) (hne : q ≠ p) (hbq : base ≤ q) (h : NumW p q o used r w w') :
    Below base w w' ∧ ((r.2.2 = 0 ∧ Rdr w' base p v ((used + r.2.1 : Nat) : Int) 0 ∧ Whole w' q t (cs.set o (.int .i64 (r.1 : Int)))) ∨ (r.2.2 ≠ 0 ∧ Rdr w' base p v 0 (r.2.2 : Int) ∧ Whole w' q t cs)) := by
  rcases h with ⟨h0, k, rfl⟩ | ⟨h0, k, rfl⟩
  · refine ⟨Below.drewN' (((Below.refl _ _).setCell (p := ⟨q, o, none⟩) hbq _).setCell (p := ⟨p, 1, none⟩) hw.2 _) k, .inl ⟨h0, ⟨?_, hw.2⟩, ?_⟩⟩
    · exact ((hw.1.away (p := ⟨q, o, none⟩) (Ne.symm hne) _).put 1 _)
    · exact (hq.put o _).away (p := ⟨p, 1, none⟩) hne _
  · refine ⟨Below.drewN' (((Below.refl _ _).setCell (p := ⟨p, 1, none⟩) hw.2 _).setCell (p := ⟨p, 2, none⟩) hw.2 _) k, .inr ⟨h0, ⟨(hw.1.put 1 _).put 2 _, hw.2⟩, ?_⟩⟩
    exact (hq.away (p := ⟨p, 1, none⟩) hne _).away (p := ⟨p, 2, none⟩) hne _
set_option maxRecDepth 100000 in
theorem NumW.first {w w' : World} {base p q : Nat} {v : Value} {t : TypeId} {l : List UInt8} (hw : Rdr w base p v 0 0) (hq : Whole w q t [.int .i64 0]) (hne : q ≠ p) (hbq : base ≤ q) (h : NumW p q 0 0 (numAns l) w w') :
    Below base w w' ∧ Rdr w' base p v ((numAns l).2.1 : Int) ((numAns l).2.2 : Int) ∧ Whole w' q t [.int .i64 ((numAns l).1 : Int)] := by
  obtain ⟨hb, h⟩ := NumW.kept (used := 0) hw hq hne hbq h
  refine ⟨hb, ?_⟩
  rcases h with ⟨h0, h1, h2⟩ | ⟨h0, h1, h2⟩
  · rw [h0]; rw [Nat.zero_add] at h1; exact ⟨h1, h2⟩
  · rcases numAns_err l with h | h | h
    · exact absurd h h0
    · rw [h] at h1 ⊢; exact ⟨h1, h2⟩
    · rw [h] at h1 ⊢; exact ⟨h1, h2⟩

/-- two blocks stand as they are -/
def Both (q : Nat) (t : TypeId) (cq : List Value) (p : Nat) (tp : TypeId) (cp : List Value) (w0 : World) (B : Nat) (W : World) : Prop := Whole W q t cq ∧ Whole W p tp cp ∧ Below B w0 W

set_option maxHeartbeats 4000000 in
set_option maxRecDepth 100000 in
theorem num_any (l : List UInt8) (v : Value) (w : World) (hv : RdB w w.heap.size v l) (hl : l.length < 4611686018427387904) :
    Calls Tryz.prog 108 #[v] w fun e w' => e = .returned (numVal (numAns l)) ∧ Below w.heap.size w w' := by
  obtain ⟨A, c, rfl, hc, _⟩ := hv.at
  have hrd := fun (w1 : World) (p : Nat) (h1 : Rdr w1 w.heap.size p (.slice A l.length c) 0 0) (h2 : Whole w1 w.heap.size 3 [.int .i64 0]) (h3 : w.heap.size ≠ p) (h4 : Below w.heap.size w w1) =>
    rdnum_any w.heap.size p l A c 0 w.heap.size 0 (.int .i64 0) w1 h1 (hv.below h4 (Nat.le_refl _)) (Nat.zero_le _) hl (h2.cell 0 _ rfl) (h2.frozen 0) h3 (Nat.le_refl _)
  obtain ⟨R, hR⟩ : ∃ R, R = numAns l := ⟨_, rfl⟩
  have hk := fun (w1 w2 : World) (p : Nat) (h1 : Rdr w1 w.heap.size p (.slice A l.length c) 0 0) (h2 : Whole w1 w.heap.size 3 [.int .i64 0]) (h3 : w.heap.size ≠ p) (h : NumW p w.heap.size 0 0 (numAns l) w1 w2) => NumW.first h1 h2 h3 (Nat.le_refl _) h
  simp only [List.drop_zero] at hrd
  rw [← hR] at hrd hk ⊢
  have HRD := Lib.hid hrd
  have HK := Lib.hid hk
  clear hrd hk hR hv
  go_enter Tryz.func108, Tryz.ntmps108
  go_wp2_with fail
  refine (from_any _ _ A l.length c rfl).mono ?_
  rintro e w1 ⟨p, rfl, hr1, hb1, hp⟩
  have hw1 : Whole w1 w.heap.size 3 [.int .i64 0] := (Whole.fresh w 3 [.int .i64 0]).below hb1 (by simp)
  have hne : w.heap.size ≠ p := by rw [hp]; simp
  have hr2 : Rdr w1 w.heap.size p (.slice A l.length c) 0 0 := ⟨hr1.1, by rw [hp]; simp⟩
  have hb2 : Below w.heap.size w w1 := ((Below.refl _ _).alloc (Nat.le_refl _) _).trans (hb1.mono (by simp))
  have HC := Lib.hid (HRD.out w1 p hr2 hw1 hne hb2)
  have HK2 := Lib.hid (fun w2 => HK.out w1 w2 p hr2 hw1 hne)
  have HB2 := Lib.hid hb2
  have HP := Lib.hid hp
  have HNE := Lib.hid hne
  clear hw1 hr1 hr2 hb1 hb2 hp hne
  go_wp2_with fail
  refine HC.out.mono ?_
  rintro e w2 ⟨rfl, hn⟩
  obtain ⟨hb3, hr3, hq3⟩ := HK2.out w2 hn
  have hB3 := HB2.out.trans hb3
  clear hn hb3
  go_wp2_with fail
  have hS : Both w.heap.size 3 [.int .i64 (R.1 : Int)] p 133 [.slice A l.length c, .int .i64 (R.2.1 : Int), .int .i64 (R.2.2 : Int)] w w.heap.size w2.drew := ⟨hq3, hr3.1, hB3.drew⟩
  refine wp_region_plan (S := Both w.heap.size 3 [.int .i64 (R.1 : Int)] p 133 [.slice A l.length c, .int .i64 (R.2.1 : Int), .int .i64 (R.2.2 : Int)] w w.heap.size) [(true, 0), (true, 1), (true, 2), (true, 3), (true, 4), (true, 5), (true, 6), (true, 7), (true, 8), (false, 9), (true, 10), (true, 11)] (by kernel_rfl) (by kernel_rfl) (fun _ _ d _ _ h => by cases d <;> exact h) hS ?_
  clear hq3 hr3 hB3
  generalize w2.drew = w3 at hS ⊢
  have HS := Lib.hid hS; clear hS
  repeat (refine Plan.take (v := ?_) rfl rfl ?_ ?_; rotate_left; (focus (intro W hW; have k0 := hW.1.cell 0 _ rfl; have k1 := hW.2.1.cell 1 _ rfl; have k2 := hW.2.1.cell 2 _ rfl; go_simp; (try with_reducible rfl); done)); (try simp only [Act.put, List.setIfInBounds_toArray, List.set_cons_zero, List.set_cons_succ]))
  have k0 := HS.out.1.cell 0 _ rfl
  have f0 := HS.out.1.frozen 0
  refine Plan.step rfl rfl (fun Kk hK => ?_)
  go_simp
  have hS2 : Both w.heap.size 3 [.int .i64 (R.1 : Int)] p 133 [.slice A l.length c, .int .i64 (R.2.1 : Int), .int .i64 (R.2.2 : Int)] w w.heap.size (w3.setCell ⟨w.heap.size, 0, none⟩ (.int .i64 (R.1 : Int))) := ⟨HS.out.1.put 0 _, HS.out.2.1.away (p := ⟨w.heap.size, 0, none⟩) (Ne.symm HNE.out) _, HS.out.2.2.setCell (Nat.le_refl _) _⟩
  refine hK.out _ _ hS2 ?_
  clear hK Kk k0 f0 HS
  generalize w3.setCell ⟨w.heap.size, 0, none⟩ (.int .i64 (R.1 : Int)) = w4 at hS2 ⊢
  have HS := Lib.hid hS2; clear hS2
  (try simp only [Act.put, List.setIfInBounds_toArray, List.set_cons_zero, List.set_cons_succ])
  repeat (refine Plan.take (v := ?_) rfl rfl ?_ ?_; rotate_left; (focus (intro W hW; go_simp; (try with_reducible rfl); done)); (try simp only [Act.put, List.setIfInBounds_toArray, List.set_cons_zero, List.set_cons_succ]))
  simp only [Plan]
  have k0 := HS.out.1.cell 0 _ rfl
  go_wp2_with fail
  exact bodyPost_ret (v := numVal R) (by simp [results, Tryz.results108, go_sem, k0, numVal]) rfl ⟨rfl, HS.out.2.2⟩
end Go.Proofs.YtmigninibdecmaaGreat
namespace Go.Proofs.YtmigninibdecmaaGreat
open Go.RowKit

set_option maxRecDepth 100000 in
theorem NumW.away {w w' : World} {p q used s : Nat} {t : TypeId} {cs : List Value} {r : Nat × Nat × Nat} {o : Nat} (hs : Whole w s t cs) (h1 : s ≠ p) (h2 : s ≠ q) (h : NumW p q o used r w w') : Whole w' s t cs := by
  rcases h with ⟨_, k, rfl⟩ | ⟨_, k, rfl⟩
  · exact (hs.away (p := ⟨q, o, none⟩) h2 _).away (p := ⟨p, 1, none⟩) h1 _
  · exact (hs.away (p := ⟨p, 1, none⟩) h1 _).away (p := ⟨p, 2, none⟩) h1 _

/-- two blocks stand as they are, and a third one stands -/
def Three (q : Nat) (t : TypeId) (cq : List Value) (p : Nat) (tp : TypeId) (cp : List Value) (s : Nat) (ts : TypeId) (w0 : World) (B : Nat) (W : World) : Prop :=
  Whole W q t cq ∧ Whole W p tp cp ∧ (∃ z, Whole W s ts [z]) ∧ Below B w0 W
set_option maxRecDepth 100000 in
theorem Three.drew {q p s : Nat} {t tp ts : TypeId} {cq cp : List Value} {w0 W : World} {B : Nat} (h : Three q t cq p tp cp s ts w0 B W) : Three q t cq p tp cp s ts w0 B W.drew := ⟨h.1, h.2.1, h.2.2.1, h.2.2.2.drew⟩

set_option maxHeartbeats 8000000 in
set_option maxRecDepth 100000 in
theorem rdtext_any (base p s : Nat) (l : List UInt8) (A : Option Addr) (c : Nat) (w : World) (hw : Rdr w base p (.slice A l.length c) 0 0) (hv : RdB w base (.slice A l.length c) l) (hl : l.length < 4611686018427387904)
    (hs : Whole w s 9 [.string ⟨#[]⟩]) (hsp : s ≠ p) (hbs : base ≤ s) (hbw : base ≤ w.heap.size) :
    Calls Tryz.prog 104 #[.pointer (some ⟨p, 0, none⟩), .pointer (some ⟨s, 0, none⟩)] w fun x w' => x = .returned (.pointer (some ⟨p, 0, none⟩)) ∧
      Rdr w' base p (.slice A l.length c) ((textAns l).2.1 : Int) ((textAns l).2.2 : Int) ∧ Whole w' s 9 [.string (strB (textAns l).1)] ∧ Below base w w' := by
  have hps := hw.1.size
  have hss := hs.size
  have hnum := fun (w1 : World) (h1 : Rdr w1 base p (.slice A l.length c) 0 0) (h2 : Whole w1 w.heap.size 3 [.int .i64 0]) (h3 : Below base w w1) =>
    rdnum_any base p l A c 0 w.heap.size 0 (.int .i64 0) w1 h1 (hv.below h3 (Nat.le_refl _)) (Nat.zero_le _) hl (h2.cell 0 _ rfl) (h2.frozen 0) (by omega) hbw
  have hk := fun (w1 w2 : World) (h1 : Rdr w1 base p (.slice A l.length c) 0 0) (h2 : Whole w1 w.heap.size 3 [.int .i64 0]) (h3 : Whole w1 s 9 [.string ⟨#[]⟩]) (h : NumW p w.heap.size 0 0 (numAns l) w1 w2) => And.intro (NumW.away h3 hsp (by omega) h) (NumW.first h1 h2 (by omega) hbw h)
  simp only [List.drop_zero] at hnum
  have hpq : p ≠ w.heap.size := by omega
  have hsq : s ≠ w.heap.size := by omega
  obtain ⟨g, hg⟩ : ∃ g, g = w.heap.size := ⟨_, rfl⟩
  obtain ⟨R, hR⟩ : ∃ R, R = textAns l := ⟨_, rfl⟩
  rw [← hR]
  have herr := numAns_err l
  have honce := fun (m u : Nat) (h : numAns l = (m, u, 0)) => numAns_once h
  unfold textAns at hR
  generalize numAns l = x at hnum hR herr honce hk
  obtain ⟨n, u, e⟩ := x
  simp only at hR herr hk
  obtain ⟨hwr, hbp⟩ := hw
  have HNUM := Lib.hid hnum
  have HK := Lib.hid hk
  have HWR := Lib.hid hwr
  have HS := Lib.hid hs
  have HV := Lib.hid hv
  have HERR := Lib.hid herr
  have HONCE := Lib.hid honce
  have HR := Lib.hid hR
  have HSP := Lib.hid hsp
  have HPQ := Lib.hid hpq
  have HSQ := Lib.hid hsq
  have HG := Lib.hid hg
  clear hnum hk hwr hs hv herr honce hR hg hsp hpq hsq
  go_enter Tryz.func104, Tryz.ntmps104
  go_wp2_with fail
  refine (HNUM.out _ ⟨HWR.out.alloc _, hbp⟩ (Whole.fresh w 3 [.int .i64 0]) ((Below.refl _ _).alloc hbw _)).mono ?_
  rintro x w2 ⟨rfl, hn⟩
  obtain ⟨hs2, hb2, ⟨hr2, _⟩, hq2⟩ := HK.out _ w2 ⟨HWR.out.alloc _, hbp⟩ (Whole.fresh w 3 [.int .i64 0]) (HS.out.alloc _) hn
  have hB2 : Below base w w2 := ((Below.refl _ _).alloc hbw _).trans hb2
  clear hn hb2
  rw [← HG.out] at hq2
  have HS2 := Lib.hid hs2
  have HB2 := Lib.hid hB2
  have HR2 := Lib.hid hr2
  have HQ2 := Lib.hid hq2
  have k0 := hr2.cell 0 _ rfl
  have k1 := hr2.cell 1 _ rfl
  have k2 := hr2.cell 2 _ rfl
  have q0 := hq2.cell 0 _ rfl
  clear hs2 hB2 hr2 hq2
  rw [HG.out] at q0
  by_cases he : e = 0
  · subst he
    have hR := HR.out
    rw [if_neg (by omega)] at hR
    by_cases hbig : n > 65536
    · rw [if_pos hbig] at hR
      have HRR := Lib.hid hR
      clear hR
      have hb : (65536 : Int) < (n : Int) := by omega
      go_wp2_with fail
      refine (rfail_any base p _ _ _ 6 w2 ⟨HR2.out, hbp⟩).mono ?_
      rintro x w3 ⟨rfl, rfl⟩
      go_wp2_with fail
      go_ret
      exact ⟨rfl, by rw [HRR.out]; exact Rdr.failed 6 ⟨HR2.out, hbp⟩, by rw [HRR.out]; exact (HS2.out.away (p := ⟨p, 1, none⟩) HSP.out _).away (p := ⟨p, 2, none⟩) HSP.out _, (HB2.out.setCell (p := ⟨p, 1, none⟩) hbp _).setCell (p := ⟨p, 2, none⟩) hbp _⟩
    · rw [if_neg hbig] at hR
      have hb : ¬ (65536 : Int) < (n : Int) := by omega
      obtain ⟨hu, hu9, hu1, sx, hsx⟩ := HONCE.out n u rfl
      have hlu : u ≤ l.length := by rw [hu, hsx]; simp
      clear hu hsx
      obtain ⟨A0, c0', e, hcl, hi⟩ := HV.out.at
      injection e with e1 _ e2
      subst e1 e2
      obtain ⟨b, o, hA⟩ : ∃ b o, A = some ⟨b, o, none⟩ := by obtain ⟨b, o, h, _⟩ := hi 0 (by omega); exact ⟨b, o, h⟩
      subst hA
      clear hi
      by_cases hsh : l.length - u < n
      · rw [if_pos hsh] at hR
        have HRR := Lib.hid hR
        clear hR
        have hb2 : (l.length : Int) - (u : Int) < (n : Int) := by omega
        go_wp2_with fail
        go_quiet (fail)
        go_wp2_with fail
        refine (rfail_any base p _ _ _ 3 (w2.drewN nq) ⟨HR2.out, hbp⟩).mono ?_
        rintro x w3 ⟨rfl, rfl⟩
        go_wp2_with fail
        go_ret
        exact ⟨rfl, by rw [HRR.out]; exact Rdr.failed (w := w2.drewN nq) 3 ⟨HR2.out, hbp⟩, by rw [HRR.out]; exact (Whole.away (w := w2.drewN nq) HS2.out (p := ⟨p, 1, none⟩) HSP.out _).away (p := ⟨p, 2, none⟩) HSP.out _, ((Below.drewN' HB2.out nq).setCell (p := ⟨p, 1, none⟩) hbp _).setCell (p := ⟨p, 2, none⟩) hbp _⟩
      · rw [if_neg hsh] at hR
        have HRR := Lib.hid hR
        clear hR
        have hb2 : ¬ (l.length : Int) - (u : Int) < (n : Int) := by omega
        go_wp2_with fail
        go_quiet (fail)
        go_wp2_with fail
        refine wp_region_plan (S := Three w.heap.size 3 [.int .i64 (n : Int)] p 133 [.slice (some ⟨b, o, none⟩) l.length c, .int .i64 (u : Int), .int .i64 0] s 9 w base) [(true, 0), (true, 1), (true, 2), (true, 3), (true, 4), (true, 5), (true, 6), (true, 7), (true, 8), (true, 9), (true, 10), (true, 11), (true, 12), (true, 13), (true, 14), (true, 15), (true, 16), (true, 17), (false, 18)] (by kernel_rfl) (by kernel_rfl) (fun _ _ d _ _ h => by cases d <;> exact h) ⟨by rw [← HG.out]; exact HQ2.out, HR2.out, ⟨_, HS2.out⟩, (Below.drewN' HB2.out nq).drew⟩ ?_
        have hS : Three w.heap.size 3 [.int .i64 (n : Int)] p 133 [.slice (some ⟨b, o, none⟩) l.length c, .int .i64 (u : Int), .int .i64 0] s 9 w base (w2.drewN nq).drew := ⟨by rw [← HG.out]; exact HQ2.out, HR2.out, ⟨_, HS2.out⟩, (Below.drewN' HB2.out nq).drew⟩
        clear k0 k1 k2 q0
        have hs3 : Whole (w2.drewN nq).drew s 9 [.string ⟨#[]⟩] := HS2.out
        generalize (w2.drewN nq).drew = w3 at hS hs3 ⊢
        have HZ := Lib.hid hs3; clear hs3
        have HS3 := Lib.hid hS; clear hS
        have hw : IntKind.i64.wrap ((u : Int) + (n : Int)) = (u : Int) + n := by rw [IntKind.wrap_i64]; omega
        have hn0 : (0 : Int) ≤ (u : Int) + n := by omega
        have hnt : ((u : Int) + n).toNat = u + n := by omega
        have hcn : (u : Int) + n ≤ (c : Int) := by omega
        have hHV := HV.out
        have hcv : ∀ W, Below base w W → (convert 41 9 (.slice (if c = u then some ⟨b, o, none⟩ else some ⟨b, o + u, none⟩) n (c - u))).run Tryz.prog W = .ok (.string (strB ((l.drop u).take n))) W := fun W hW => by
          refine run_convB (RdB.window (hHV.below hW (Nat.le_refl _)) u n (by omega) (c - u) (by omega) _ fun h => ?_)
          rw [if_neg (by omega)]
        have HCV := Lib.hid hcv; clear hcv hHV
        by_cases hcu : c = u
        · have HCV2 := HCV.out
          rw [if_pos hcu] at HCV2
          have HCV3 := Lib.hid HCV2; clear HCV2 HCV
          have hlu2 : l.length = u := by omega
          have hn00 : n = 0 := by omega
          subst hn00
          subst hcu
          subst hlu2
          have hw0 : IntKind.i64.wrap (l.length : Int) = l.length := by rw [IntKind.wrap_i64]; omega
          have HCV5 := HCV3.out
          rw [Nat.sub_self, List.take_zero] at HCV5
          clear hw hn0 hnt hcn HCV3
          have HCV3 := Lib.hid HCV5; clear HCV5
          repeat (refine Plan.take (v := ?_) rfl rfl ?_ ?_; rotate_left; (focus (intro W hW; have k0 := hW.1.cell 0 _ rfl; have k1 := hW.2.1.cell 0 _ rfl; have k2 := hW.2.1.cell 1 _ rfl; have k3 := HCV3.out W hW.2.2.2; go_simp; (try with_reducible rfl); done)); (try simp only [Act.put, List.setIfInBounds_toArray, List.set_cons_zero, List.set_cons_succ]))
          have z0 := HZ.out.cell 0 _ rfl
          have y0 := HZ.out.frozen 0
          refine Plan.step rfl rfl (fun Kk hK => ?_)
          go_simp
          obtain ⟨txt, htxt⟩ : ∃ txt, txt = strB [] := ⟨_, rfl⟩
          rw [← htxt]
          have hS4 : Three w.heap.size 3 [.int .i64 ((0 : Nat) : Int)] p 133 [.slice (some ⟨b, o, none⟩) l.length l.length, .int .i64 (l.length : Int), .int .i64 0] s 9 w base (w3.setCell ⟨s, 0, none⟩ (.string txt)) := ⟨HS3.out.1.away (p := ⟨s, 0, none⟩) (Ne.symm HSQ.out) _, HS3.out.2.1.away (p := ⟨s, 0, none⟩) (Ne.symm HSP.out) _, ⟨_, HZ.out.put 0 _⟩, HS3.out.2.2.2.setCell (p := ⟨s, 0, none⟩) hbs _⟩
          have hs4 : Whole (w3.setCell ⟨s, 0, none⟩ (.string txt)) s 9 [.string txt] := HZ.out.put 0 _
          refine hK.out _ _ hS4 ?_
          clear hK Kk z0 y0 HS3 HZ HCV3
          generalize w3.setCell ⟨s, 0, none⟩ (.string txt) = w4 at hS4 hs4 ⊢
          have HS4 := Lib.hid hS4; clear hS4
          have HZ4 := Lib.hid hs4; clear hs4
          simp only [Plan]
          go_wp2_with fail
          have p1 := HS4.out.2.1.cell 1 _ rfl
          have p1f := HS4.out.2.1.frozen 1
          have q0 := HS4.out.1.cell 0 _ rfl
          go_still_tail 8, (by kernel_rfl)
          have hz5 : Whole w4.drew s 9 [.string txt] := HZ4.out
          have hs5 := HS4.out.drew
          change wpList _ _ _ _ _ w4.drew
          clear p1 p1f q0 HS4 HZ4
          generalize w4.drew = w5 at hz5 hs5 ⊢
          have p1 := hs5.2.1.cell 1 _ rfl
          have p1f := hs5.2.1.frozen 1
          have HS5 := Lib.hid hs5
          have HZ5 := Lib.hid hz5
          have HTXT := Lib.hid htxt
          clear hs5 hz5 htxt
          go_wp2_with fail
          go_ret
          exact ⟨rfl, by rw [HRR.out]; exact ⟨HS5.out.2.1.put 1 _, hbp⟩, by rw [HRR.out]; simp only [List.take_zero]; rw [← HTXT.out]; exact HZ5.out.away (p := ⟨p, 1, none⟩) HSP.out _, HS5.out.2.2.2.setCell (p := ⟨p, 1, none⟩) hbp _⟩
        · have HCV2 := HCV.out
          rw [if_neg hcu] at HCV2
          have HCV3 := Lib.hid HCV2; clear HCV2 HCV
          repeat (refine Plan.take (v := ?_) rfl rfl ?_ ?_; rotate_left; (focus (intro W hW; have k0 := hW.1.cell 0 _ rfl; have k1 := hW.2.1.cell 0 _ rfl; have k2 := hW.2.1.cell 1 _ rfl; have k3 := HCV3.out W hW.2.2.2; go_simp; (try with_reducible rfl); done)); (try simp only [Act.put, List.setIfInBounds_toArray, List.set_cons_zero, List.set_cons_succ]))
          have z0 := HZ.out.cell 0 _ rfl
          have y0 := HZ.out.frozen 0
          refine Plan.step rfl rfl (fun Kk hK => ?_)
          go_simp
          obtain ⟨txt, htxt⟩ : ∃ txt, txt = strB ((l.drop u).take n) := ⟨_, rfl⟩
          rw [← htxt]
          have hS4 : Three w.heap.size 3 [.int .i64 (n : Int)] p 133 [.slice (some ⟨b, o, none⟩) l.length c, .int .i64 (u : Int), .int .i64 0] s 9 w base (w3.setCell ⟨s, 0, none⟩ (.string txt)) := ⟨HS3.out.1.away (p := ⟨s, 0, none⟩) (Ne.symm HSQ.out) _, HS3.out.2.1.away (p := ⟨s, 0, none⟩) (Ne.symm HSP.out) _, ⟨_, HZ.out.put 0 _⟩, HS3.out.2.2.2.setCell (p := ⟨s, 0, none⟩) hbs _⟩
          have hs4 : Whole (w3.setCell ⟨s, 0, none⟩ (.string txt)) s 9 [.string txt] := HZ.out.put 0 _
          refine hK.out _ _ hS4 ?_
          clear hK Kk z0 y0 HS3 HZ HCV3
          generalize w3.setCell ⟨s, 0, none⟩ (.string txt) = w4 at hS4 hs4 ⊢
          have HS4 := Lib.hid hS4; clear hS4
          have HZ4 := Lib.hid hs4; clear hs4
          simp only [Plan]
          go_wp2_with fail
          have p1 := HS4.out.2.1.cell 1 _ rfl
          have p1f := HS4.out.2.1.frozen 1
          have q0 := HS4.out.1.cell 0 _ rfl
          go_still_tail 8, (by kernel_rfl)
          have hz5 : Whole w4.drew s 9 [.string txt] := HZ4.out
          have hs5 := HS4.out.drew
          change wpList _ _ _ _ _ w4.drew
          clear p1 p1f q0 HS4 HZ4
          generalize w4.drew = w5 at hz5 hs5 ⊢
          have p1 := hs5.2.1.cell 1 _ rfl
          have p1f := hs5.2.1.frozen 1
          have HS5 := Lib.hid hs5
          have HZ5 := Lib.hid hz5
          have HTXT := Lib.hid htxt
          clear hs5 hz5 htxt
          go_wp2_with fail
          go_ret
          exact ⟨rfl, by rw [HRR.out]; exact ⟨HS5.out.2.1.put 1 _, hbp⟩, by rw [HRR.out]; simp only; rw [← HTXT.out]; exact HZ5.out.away (p := ⟨p, 1, none⟩) HSP.out _, HS5.out.2.2.2.setCell (p := ⟨p, 1, none⟩) hbp _⟩
  · rcases HERR.out with h | h | h
    · exact absurd h he
    all_goals
      simp only [Prod.mk.injEq] at h
      obtain ⟨rfl, rfl, rfl⟩ := h
      have hR := HR.out
      rw [if_pos (by decide)] at hR
      have HRR := Lib.hid hR
      clear hR
      go_wp2_with fail
      go_ret
      exact ⟨rfl, by rw [HRR.out]; exact ⟨HR2.out, hbp⟩, by rw [HRR.out]; exact HS2.out, HB2.out⟩

set_option maxHeartbeats 4000000 in
set_option maxRecDepth 100000 in
theorem text_any (l : List UInt8) (v : Value) (w : World) (hv : RdB w w.heap.size v l) (hl : l.length < 4611686018427387904) :
    Calls Tryz.prog 75 #[v] w fun e w' => e = .returned (textVal (textAns l)) ∧ Below w.heap.size w w' := by
  obtain ⟨A, c, rfl, hc, _⟩ := hv.at
  have hrd := fun (w1 : World) (p : Nat) (h1 : Rdr w1 w.heap.size p (.slice A l.length c) 0 0) (h2 : Whole w1 w.heap.size 9 [.string ⟨#[]⟩]) (h3 : w.heap.size ≠ p) (h4 : Below w.heap.size w w1) (h5 : w.heap.size ≤ w1.heap.size) =>
    rdtext_any w.heap.size p w.heap.size l A c w1 h1 (hv.below h4 (Nat.le_refl _)) hl h2 h3 (Nat.le_refl _) h5
  obtain ⟨R, hR⟩ : ∃ R, R = textAns l := ⟨_, rfl⟩
  rw [← hR] at hrd ⊢
  have HRD := Lib.hid hrd
  clear hrd hR hv
  go_enter Tryz.func75, Tryz.ntmps75
  go_wp2_with fail
  refine (from_any _ _ A l.length c rfl).mono ?_
  rintro e w1 ⟨p, rfl, hr1, hb1, hp⟩
  have hw1 : Whole w1 w.heap.size 9 [.string ⟨#[]⟩] := (Whole.fresh w 9 [.string ⟨#[]⟩]).below hb1 (by simp)
  have hne : w.heap.size ≠ p := by rw [hp]; simp
  have hr2 : Rdr w1 w.heap.size p (.slice A l.length c) 0 0 := ⟨hr1.1, by rw [hp]; simp⟩
  have hb2 : Below w.heap.size w w1 := ((Below.refl _ _).alloc (Nat.le_refl _) _).trans (hb1.mono (by simp))
  have HC := Lib.hid (HRD.out w1 p hr2 hw1 hne hb2 hb2.size)
  have HB2 := Lib.hid hb2
  have HP := Lib.hid hp
  have HNE := Lib.hid hne
  clear hw1 hr1 hr2 hb1 hb2 hp hne
  go_wp2_with fail
  refine HC.out.mono ?_
  rintro e w2 ⟨rfl, hr3, hq3, hb3⟩
  have hB3 := HB2.out.trans hb3
  clear hb3
  go_wp2_with fail
  obtain ⟨txt, htxt⟩ : ∃ txt, txt = strB R.1 := ⟨_, rfl⟩
  rw [← htxt] at hq3
  have HTXT := Lib.hid htxt
  clear htxt
  have hS : Both w.heap.size 9 [.string txt] p 133 [.slice A l.length c, .int .i64 (R.2.1 : Int), .int .i64 (R.2.2 : Int)] w w.heap.size w2.drew := ⟨hq3, hr3.1, hB3.drew⟩
  refine wp_region_plan (S := Both w.heap.size 9 [.string txt] p 133 [.slice A l.length c, .int .i64 (R.2.1 : Int), .int .i64 (R.2.2 : Int)] w w.heap.size) [(true, 0), (true, 1), (true, 2), (true, 3), (true, 4), (true, 5), (true, 6), (true, 7), (true, 8), (false, 9), (true, 10), (true, 11)] (by kernel_rfl) (by kernel_rfl) (fun _ _ d _ _ h => by cases d <;> exact h) hS ?_
  clear hq3 hr3 hB3
  generalize w2.drew = w3 at hS ⊢
  have HS := Lib.hid hS; clear hS
  repeat (refine Plan.take (v := ?_) rfl rfl ?_ ?_; rotate_left; (focus (intro W hW; have k0 := hW.1.cell 0 _ rfl; have k1 := hW.2.1.cell 1 _ rfl; have k2 := hW.2.1.cell 2 _ rfl; go_simp; (try with_reducible rfl); done)); (try simp only [Act.put, List.setIfInBounds_toArray, List.set_cons_zero, List.set_cons_succ]))
  have k0 := HS.out.1.cell 0 _ rfl
  have f0 := HS.out.1.frozen 0
  refine Plan.step rfl rfl (fun Kk hK => ?_)
  go_simp
  have hS2 : Both w.heap.size 9 [.string txt] p 133 [.slice A l.length c, .int .i64 (R.2.1 : Int), .int .i64 (R.2.2 : Int)] w w.heap.size (w3.setCell ⟨w.heap.size, 0, none⟩ (.string txt)) := ⟨HS.out.1.put 0 _, HS.out.2.1.away (p := ⟨w.heap.size, 0, none⟩) (Ne.symm HNE.out) _, HS.out.2.2.setCell (Nat.le_refl _) _⟩
  refine hK.out _ _ hS2 ?_
  clear hK Kk k0 f0 HS
  generalize w3.setCell ⟨w.heap.size, 0, none⟩ (.string txt) = w4 at hS2 ⊢
  have HS := Lib.hid hS2; clear hS2
  (try simp only [Act.put, List.setIfInBounds_toArray, List.set_cons_zero, List.set_cons_succ])
  repeat (refine Plan.take (v := ?_) rfl rfl ?_ ?_; rotate_left; (focus (intro W hW; go_simp; (try with_reducible rfl); done)); (try simp only [Act.put, List.setIfInBounds_toArray, List.set_cons_zero, List.set_cons_succ]))
  simp only [Plan]
  have k0 := HS.out.1.cell 0 _ rfl
  go_wp2_with fail
  exact bodyPost_ret (v := textVal R) (by simp [results, Tryz.results75, go_sem, k0, textVal, HTXT.out]) rfl ⟨rfl, HS.out.2.2⟩
end Go.Proofs.YtmigninibdecmaaGreat
namespace Go.Proofs.YtmigninibdecmaaGreat
open Go.RowKit

/-- of what stood only block p has turned -/
def Only (p : Nat) (w w' : World) : Prop := w.grownBy w' (some p)
theorem Only.refl (p : Nat) (w : World) : Only p w w := World.grownBy.refl _ _
theorem Only.trans {p : Nat} {a b c : World} (h : Only p a b) (k : Only p b c) : Only p a c := World.grownBy.trans h k
theorem Only.size {p : Nat} {a b : World} (h : Only p a b) : a.heap.size ≤ b.heap.size := World.grownBy.size h
theorem Only.put {p : Nat} {a w : World} (h : Only p a w) (i : Nat) (u : Value) : Only p a (w.setCell ⟨p, i, none⟩ u) :=
  World.grownBy.trans h ⟨rfl, rfl, rfl, by simp [World.setCell], fun j _ hne => Below.heap_setCell w ⟨p, i, none⟩ u j (fun e => hne (by rw [e]))⟩
theorem Only.fresh {p : Nat} {a w : World} (h : Only p a w) {g : Nat} (hg : a.heap.size ≤ g) (i : Nat) (u : Value) : Only p a (w.setCell ⟨g, i, none⟩ u) :=
  ⟨h.os, h.tape, h.output, by have := h.size; simpa [World.setCell] using this, fun j hj hne => (Below.heap_setCell w ⟨g, i, none⟩ u j (by show j ≠ g; omega)).trans (h.block j hj hne)⟩
theorem Only.below {p : Nat} {a w w' : World} (h : Only p a w) (hb : Below w.heap.size w w') : Only p a w' :=
  World.grownBy.trans h ⟨hb.os, hb.tape, hb.output, hb.size, fun j hj _ => hb.block j hj⟩
theorem Only.alloc {p : Nat} {a w : World} (h : Only p a w) (o : Obj) : Only p a (w.alloc o) := h.below ((Below.refl _ _).alloc (Nat.le_refl _) o)
theorem Only.drew {p : Nat} {a w : World} (h : Only p a w) : Only p a w.drew := ⟨h.os, h.tape, h.output, h.size, h.block⟩
theorem Only.low {p B : Nat} {a w : World} (h : Only p a w) (hB : B ≤ p) (hs : B ≤ a.heap.size) : Below B a w := (Below.refl _ _).grown (row := some p) h hs fun k hk => by injection hk with hk; omega

/-- a reader of the frame layer at block p: what it has not read yet -/
def FR (w : World) (base p : Nat) (S : Rest) : Prop :=
  ∃ A c, Whole w p 161 [.slice A (S.getD []).length c, .bool S.isNone] ∧ RdB w base (.slice A (S.getD []).length c) (S.getD []) ∧ base ≤ p ∧ (S.getD []).length < 4611686018427387904
theorem FR.size {w : World} {base p : Nat} {S : Rest} (h : FR w base p S) : p < w.heap.size := by obtain ⟨_, _, h, _⟩ := h; exact h.size
theorem FR.base {w : World} {base p : Nat} {S : Rest} (h : FR w base p S) : base ≤ p := by obtain ⟨_, _, _, _, h, _⟩ := h; exact h
theorem FR.more {w w' : World} {base p : Nat} {S : Rest} (h : FR w base p S) (hb : Below w.heap.size w w') : FR w' base p S := by
  have hp := h.size
  obtain ⟨A, c, hw, hr, h1, h2⟩ := h
  exact ⟨A, c, hw.below hb hp, hr.below hb (by omega), h1, h2⟩
theorem FR.kept {w w' : World} {base p B : Nat} {S : Rest} {row : Option Nat} (h : FR w base p S) (hg : w.grownBy w' row) (hr : ∀ k, row = some k → B ≤ k) (hB : p < B) : FR w' base p S := by
  have hp := h.size
  obtain ⟨A, c, hw, hrd, h1, h2⟩ := h
  exact ⟨A, c, hw.grown hg (fun e => by have := hr p e.symm; omega), hrd.below ((Below.refl base w).grown hg (by omega) fun k hk => by have := hr k hk; omega) (Nat.le_refl _), h1, h2⟩

set_option maxHeartbeats 1000000 in
set_option maxRecDepth 100000 in
theorem ffrom_any (l : List UInt8) (v : Value) (w : World) (hv : RdB w w.heap.size v l) (hl : l.length < 4611686018427387904) :
    Calls Tryz.prog 81 #[v] w fun e w' => ∃ p, e = .returned (.pointer (some ⟨p, 0, none⟩)) ∧ FR w' w.heap.size p (some l) ∧ Below w.heap.size w w' ∧ p = w.heap.size := by
  obtain ⟨A, c, rfl, hc, _⟩ := hv.at
  have HV := Lib.hid hv; clear hv
  go_enter Tryz.func81, Tryz.ntmps81
  go_wp2_with fail
  go_ret
  have hb : ∀ o, Below w.heap.size w (w.alloc o) := fun o => (Below.refl _ _).alloc (Nat.le_refl _) o
  exact ⟨_, rfl, ⟨A, c, Whole.fresh _ _ [_, _], HV.out.below (hb _) (Nat.le_refl _), Nat.le_refl _, hl⟩, hb _, rfl⟩

set_option maxHeartbeats 1000000 in
set_option maxRecDepth 100000 in
theorem ffail_any (base p : Nat) (S : Rest) (w : World) (hw : FR w base p S) :
    Calls Tryz.prog 131 #[.pointer (some ⟨p, 0, none⟩)] w fun e w' => e = .returned (.tuple #[]) ∧ FR w' base p none ∧ Only p w w' := by
  obtain ⟨A, c, hb, hr, h1, h2⟩ := hw
  have k0 := hb.cell 0 _ rfl
  have k1 := hb.cell 1 _ rfl
  have f0 := hb.frozen 0
  have f1 := hb.frozen 1
  have HB := Lib.hid hb; clear hb hr
  go_enter Tryz.func131, Tryz.ntmps131
  go_wp2_with fail
  go_end0
  exact ⟨rfl, ⟨none, 0, (HB.out.put 0 _).put 1 _, Rd.nil _ _, h1, by simp⟩, ((Only.refl p w).put 0 _).put 1 _⟩

set_option maxHeartbeats 1000000 in
set_option maxRecDepth 100000 in
theorem fpass_bad (base p : Nat) (S : Rest) (used e : Int) (he : e ≠ 0) (w : World) (hw : FR w base p S) :
    Calls Tryz.prog 109 #[.pointer (some ⟨p, 0, none⟩), .int .i64 used, .int .i64 e] w fun x w' => x = .returned (.tuple #[]) ∧ FR w' base p none ∧ Only p w w' := by
  have HF := Lib.hid (ffail_any base p S w hw)
  clear hw
  go_enter Tryz.func109, Tryz.ntmps109
  go_wp2_with fail
  refine HF.out.mono ?_
  rintro x w1 ⟨rfl, h1, h2⟩
  have H1 := Lib.hid h1; clear h1
  have H2 := Lib.hid h2; clear h2
  go_wp2_with fail
  exact bodyPost_ret (v := .tuple #[]) (by simp [results, Tryz.results109, go_sem]) rfl ⟨rfl, H1.out, H2.out⟩

set_option maxHeartbeats 2000000 in
set_option maxRecDepth 100000 in
theorem fpass_ok (base p : Nat) (r : List UInt8) (used : Nat) (hu1 : 1 ≤ used) (hu : used ≤ r.length) (w : World) (hw : FR w base p (some r)) :
    Calls Tryz.prog 109 #[.pointer (some ⟨p, 0, none⟩), .int .i64 (used : Int), .int .i64 0] w fun x w' => x = .returned (.tuple #[]) ∧ FR w' base p (some (r.drop used)) ∧ Only p w w' := by
  obtain ⟨A, c, hb, hr, h1, h2⟩ := hw
  simp only [Option.getD_some, Option.isNone_some] at hb hr h2
  obtain ⟨A0, c0, hv0, hc0, hi0⟩ := hr.at
  simp only [Value.slice.injEq, true_and] at hv0
  obtain ⟨rfl, rfl⟩ := hv0
  obtain ⟨b, o, hA⟩ : ∃ b o, A = some ⟨b, o, none⟩ := by obtain ⟨b, o, h, _⟩ := hi0 0 (by omega); exact ⟨b, o, h⟩
  subst hA
  have hdl : (r.drop used).length = r.length - used := by simp
  have hrd2 : ∀ A', (0 < r.length - used → A' = some ⟨b, o + used, none⟩) → RdB w base (.slice A' (r.drop used).length (c - used)) (r.drop used) := fun A' hA => by
    have := hr.window used (r.length - used) (by omega) (c - used) (by omega) A' hA
    rwa [List.take_of_length_le (by rw [hdl]; exact Nat.le_refl _), ← hdl] at this
  have hkeep : ∀ u, Below base w (w.setCell ⟨p, 0, none⟩ u) := fun u => (Below.refl _ _).setCell h1 u
  have k0 := hb.cell 0 _ rfl
  have f0 := hb.frozen 0
  have hbl : (r.drop used).length < 4611686018427387904 := by omega
  have HB := Lib.hid hb
  have HRD := Lib.hid hrd2
  have HDL := Lib.hid hdl
  have HK := Lib.hid hkeep
  have HBL := Lib.hid hbl
  clear hb hrd2 hdl hi0 hr hkeep hbl
  have hcu : (used : Int) ≤ (c : Int) := by omega
  by_cases hcz : c = used
  · subst hcz
    go_enter Tryz.func109, Tryz.ntmps109
    go_wp2_with fail
    go_end0
    have e0 : r.length - c = 0 := by omega
    have hl0 : (r.drop c).length = r.length - c := HDL.out
    have h0 := HRD.out (some ⟨b, o, none⟩) (fun h => by omega)
    rw [hl0] at h0
    refine ⟨rfl, ⟨some ⟨b, o, none⟩, c - c, ?_, ?_, h1, by simpa using HBL.out⟩, (Only.refl p w).put 0 _⟩
    · simp only [Option.getD_some, Option.isNone_some, hl0]
      rw [e0]
      have := HB.out.put 0 (.slice (some ⟨b, o, none⟩) 0 0)
      simpa [e0] using this
    · simp only [Option.getD_some, hl0]
      exact h0.below (HK.out _) (Nat.le_refl _)
  · go_enter Tryz.func109, Tryz.ntmps109
    go_wp2_with fail
    go_end0
    have hl0 : (r.drop used).length = r.length - used := HDL.out
    have h0 := HRD.out (some ⟨b, o + used, none⟩) (fun _ => rfl)
    rw [hl0] at h0
    refine ⟨rfl, ⟨some ⟨b, o + used, none⟩, c - used, ?_, ?_, h1, by simpa using HBL.out⟩, (Only.refl p w).put 0 _⟩
    · simp only [Option.getD_some, Option.isNone_some, hl0]
      exact HB.out.put 0 _
    · simp only [Option.getD_some, hl0]
      exact h0.below (HK.out _) (Nat.le_refl _)

theorem numAns_used {l : List UInt8} (h : (numAns l).2.2 = 0) : 1 ≤ (numAns l).2.1 ∧ (numAns l).2.1 ≤ l.length := by
  obtain ⟨m, u, e⟩ : ∃ m u, numAns l = (m, u, 0) := ⟨_, _, Prod.ext rfl (Prod.ext rfl h)⟩
  obtain ⟨h1, h2, h3, s, h4⟩ := numAns_once e
  rw [e]
  simp only
  refine ⟨h3, ?_⟩
  rw [h4, List.length_append]; omega
theorem textAns_used {l : List UInt8} (h : (textAns l).2.2 = 0) : 1 ≤ (textAns l).2.1 ∧ (textAns l).2.1 ≤ l.length := by
  by_cases h1 : (numAns l).2.2 = 0
  · have h2 := numAns_used h1
    unfold textAns at h ⊢
    rw [if_neg (by simpa using h1)] at h ⊢
    by_cases h3 : (numAns l).1 > 65536
    · rw [if_pos h3] at h; simp at h
    · rw [if_neg h3] at h ⊢
      by_cases h4 : l.length - (numAns l).2.1 < (numAns l).1
      · rw [if_pos h4] at h; simp at h
      · rw [if_neg h4]; simp only; omega
  · unfold textAns at h
    rw [if_pos h1] at h
    exact absurd h h1
theorem textAns_bad {l : List UInt8} (h : (textAns l).2.2 ≠ 0) : (textAns l).1 = [] ∧ (textAns l).2.1 = 0 := by
  unfold textAns at h ⊢
  split
  · exact ⟨rfl, rfl⟩
  · split
    · exact ⟨rfl, rfl⟩
    · split
      · exact ⟨rfl, rfl⟩
      · rename_i h1 h2 h3
        rw [if_neg h1, if_neg h2, if_neg h3] at h
        exact absurd rfl h
theorem rdN_bad {S : Rest} (h : (numAns (S.getD [])).2.2 ≠ 0) : rdN S = (0, none) := by
  cases S with
  | none => rfl
  | some l => rw [rdN, if_neg (by simpa using h)]
theorem rdN_good {S : Rest} (h : (numAns (S.getD [])).2.2 = 0) : ∃ l, S = some l := by
  cases S with
  | none => exact absurd h (by decide)
  | some l => exact ⟨l, rfl⟩
theorem rdT_bad {S : Rest} (h : (textAns (S.getD [])).2.2 ≠ 0) : rdT S = ([], none) := by
  cases S with
  | none => rfl
  | some l => rw [rdT, if_neg (by simpa using h)]
theorem rdT_good {S : Rest} (h : (textAns (S.getD [])).2.2 = 0) : ∃ l, S = some l := by
  cases S with
  | none => exact absurd h (by decide)
  | some l => exact ⟨l, rfl⟩

set_option maxHeartbeats 2000000 in
set_option maxRecDepth 100000 in
theorem fnum_any (S : Rest) (base p : Nat) (w : World) (hw : FR w base p S) :
    Calls Tryz.prog 82 #[.pointer (some ⟨p, 0, none⟩)] w fun x w' => x = .returned (.int .i64 (rdN S).1) ∧ FR w' base p (rdN S).2 ∧ Only p w w' := by
  have hw0 := hw
  have hsz := hw.size
  obtain ⟨A, c, hb, hr, h1, h2⟩ := hw
  have hn := num_any (S.getD []) (.slice A (S.getD []).length c) w (hr.mono (by omega)) h2
  have k0 := hb.cell 0 _ rfl
  have hok : (numAns (S.getD [])).2.2 = 0 → ∀ w1, FR w1 base p S → Calls Tryz.prog 109 #[.pointer (some ⟨p, 0, none⟩), .int .i64 ((numAns (S.getD [])).2.1 : Int), .int .i64 0] w1 fun x w' => x = .returned (.tuple #[]) ∧ FR w' base p (rdN S).2 ∧ Only p w1 w' := fun h w1 hf => by
    obtain ⟨l, rfl⟩ := rdN_good h
    have hu := numAns_used h
    simp only [Option.getD_some] at h hu
    rw [rdN, if_pos h]
    exact fpass_ok base p l _ hu.1 hu.2 w1 hf
  have hbad : (numAns (S.getD [])).2.2 ≠ 0 → rdN S = (0, none) := rdN_bad
  have hval : (numAns (S.getD [])).2.2 = 0 → (rdN S).1 = ((numAns (S.getD [])).1 : Int) := fun h => by
    obtain ⟨l, rfl⟩ := rdN_good h
    simp only [Option.getD_some] at h ⊢
    rw [rdN, if_pos h]
  have herr := numAns_err (S.getD [])
  generalize numAns (S.getD []) = x at hn hok hbad hval herr
  obtain ⟨n, u, e⟩ := x
  simp only [numVal] at hn
  simp only at hok hbad hval
  have HN := Lib.hid hn; clear hn
  have HW := Lib.hid hw0; clear hw0
  generalize (S.getD []).length = len at k0 HN
  clear hb hr h2
  by_cases he : e = 0
  · subst he
    have HOK := Lib.hid (hok rfl)
    have HV := Lib.hid (hval rfl)
    clear hok hbad hval herr
    go_enter Tryz.func82, Tryz.ntmps82
    go_wp2_with fail
    refine HN.out.mono ?_
    rintro x w1 ⟨rfl, hb1⟩
    have HC := Lib.hid (HOK.out w1 (HW.out.more hb1))
    have HB1 := Lib.hid hb1; clear hb1
    go_wp2_with fail
    refine HC.out.mono ?_
    rintro x w2 ⟨rfl, hf, ho⟩
    have HF := Lib.hid hf; clear hf
    have HO := Lib.hid (show Only p w w2 from ((Only.refl p w).below HB1.out).trans ho); clear ho
    go_wp2_with fail
    go_ret
    exact ⟨by rw [HV.out]; rfl, HF.out, HO.out⟩
  · have hb0 := hbad he
    rcases herr with h | h | h
    · exact absurd h he
    all_goals
      simp only [Prod.mk.injEq] at h
      obtain ⟨rfl, rfl, rfl⟩ := h
      rw [hb0]
      clear hok hbad hval hb0
      go_enter Tryz.func82, Tryz.ntmps82
      go_wp2_with fail
      refine HN.out.mono ?_
      rintro x w1 ⟨rfl, hb1⟩
      have HC := Lib.hid (fun (e : Int) (he : e ≠ 0) => fpass_bad base p S 0 e he w1 (HW.out.more hb1))
      have HB1 := Lib.hid hb1; clear hb1
      go_wp2_with fail
      refine (HC.out _ (by decide)).mono ?_
      rintro x w2 ⟨rfl, hf, ho⟩
      have HF := Lib.hid hf; clear hf
      have HO := Lib.hid (show Only p w w2 from ((Only.refl p w).below HB1.out).trans ho); clear ho
      go_wp2_with fail
      go_ret
      exact ⟨rfl, HF.out, HO.out⟩

set_option maxHeartbeats 2000000 in
set_option maxRecDepth 100000 in
theorem ftext_any (S : Rest) (base p : Nat) (w : World) (hw : FR w base p S) :
    Calls Tryz.prog 111 #[.pointer (some ⟨p, 0, none⟩)] w fun x w' => x = .returned (.string (strB (rdT S).1)) ∧ FR w' base p (rdT S).2 ∧ Only p w w' := by
  have hw0 := hw
  have hsz := hw.size
  obtain ⟨A, c, hb, hr, h1, h2⟩ := hw
  have hn := text_any (S.getD []) (.slice A (S.getD []).length c) w (hr.mono (by omega)) h2
  have k0 := hb.cell 0 _ rfl
  have hok : (textAns (S.getD [])).2.2 = 0 → ∀ w1, FR w1 base p S → Calls Tryz.prog 109 #[.pointer (some ⟨p, 0, none⟩), .int .i64 ((textAns (S.getD [])).2.1 : Int), .int .i64 0] w1 fun x w' => x = .returned (.tuple #[]) ∧ FR w' base p (rdT S).2 ∧ Only p w1 w' := fun h w1 hf => by
    obtain ⟨l, rfl⟩ := rdT_good h
    have hu := textAns_used h
    simp only [Option.getD_some] at h hu
    rw [rdT, if_pos h]
    exact fpass_ok base p l _ hu.1 hu.2 w1 hf
  have hbad : (textAns (S.getD [])).2.2 ≠ 0 → rdT S = ([], none) := rdT_bad
  have hval : (textAns (S.getD [])).2.2 = 0 → (rdT S).1 = (textAns (S.getD [])).1 := fun h => by
    obtain ⟨l, rfl⟩ := rdT_good h
    simp only [Option.getD_some] at h ⊢
    rw [rdT, if_pos h]
  have herr := fun h => textAns_bad (l := S.getD []) h
  generalize textAns (S.getD []) = x at hn hok hbad hval herr
  obtain ⟨n, u, e⟩ := x
  simp only [textVal] at hn
  simp only at hok hbad hval herr
  have HN := Lib.hid hn; clear hn
  have HW := Lib.hid hw0; clear hw0
  generalize (S.getD []).length = len at k0 HN
  clear hb hr h2
  by_cases he : e = 0
  · subst he
    have HOK := Lib.hid (hok rfl)
    have HV := Lib.hid (hval rfl)
    clear hok hbad hval herr
    go_enter Tryz.func111, Tryz.ntmps111
    go_wp2_with fail
    refine HN.out.mono ?_
    rintro x w1 ⟨rfl, hb1⟩
    have HC := Lib.hid (HOK.out w1 (HW.out.more hb1))
    have HB1 := Lib.hid hb1; clear hb1
    go_wp2_with fail
    refine HC.out.mono ?_
    rintro x w2 ⟨rfl, hf, ho⟩
    have HF := Lib.hid hf; clear hf
    have HO := Lib.hid (show Only p w w2 from ((Only.refl p w).below HB1.out).trans ho); clear ho
    go_wp2_with fail
    go_ret
    exact ⟨by rw [HV.out]; rfl, HF.out, HO.out⟩
  · have hb0 := hbad he
    obtain ⟨rfl, rfl⟩ := herr he
    rw [hb0]
    have he2 : ¬ ((e : Int) = 0) := by omega
    clear hok hbad hval hb0 herr
    go_enter Tryz.func111, Tryz.ntmps111
    go_wp2_with fail
    refine HN.out.mono ?_
    rintro x w1 ⟨rfl, hb1⟩
    have HC := Lib.hid (fpass_bad base p S 0 (e : Int) he2 w1 (HW.out.more hb1))
    have HB1 := Lib.hid hb1; clear hb1
    go_wp2_with fail
    refine HC.out.mono ?_
    rintro x w2 ⟨rfl, hf, ho⟩
    have HF := Lib.hid hf; clear hf
    have HO := Lib.hid (show Only p w w2 from ((Only.refl p w).below HB1.out).trans ho); clear ho
    go_wp2_with fail
    go_ret
    exact ⟨rfl, HF.out, HO.out⟩

set_option maxHeartbeats 1000000 in
set_option maxRecDepth 100000 in
theorem fcount_any (most : Nat) (S : Rest) (base p : Nat) (w : World) (hw : FR w base p S) :
    Calls Tryz.prog 110 #[.pointer (some ⟨p, 0, none⟩), .int .i64 (most : Int)] w fun x w' => x = .returned (.int .i64 (rdCount most S).1) ∧ FR w' base p (rdCount most S).2 ∧ Only p w w' := by
  have HN := Lib.hid (fnum_any S base p w hw)
  unfold rdCount
  generalize rdN S = r at HN ⊢
  obtain ⟨n, S1⟩ := r
  simp only at HN ⊢
  clear hw
  by_cases hgt : n > (most : Int)
  · rw [if_pos hgt]
    go_enter Tryz.func110, Tryz.ntmps110
    go_wp2_with fail
    refine HN.out.mono ?_
    rintro x w1 ⟨rfl, hf, ho⟩
    have HC := Lib.hid (ffail_any base p S1 w1 hf)
    have HO := Lib.hid ho; clear hf ho
    go_wp2_with fail
    refine HC.out.mono ?_
    rintro x w2 ⟨rfl, hf, ho⟩
    have HF := Lib.hid hf; clear hf
    have HO2 := Lib.hid (show Only p w w2 from HO.out.trans ho); clear ho
    go_wp2_with fail
    go_ret
    exact ⟨rfl, HF.out, HO2.out⟩
  · rw [if_neg hgt]
    go_enter Tryz.func110, Tryz.ntmps110
    go_wp2_with fail
    refine HN.out.mono ?_
    rintro x w1 ⟨rfl, hf, ho⟩
    have HF := Lib.hid hf; clear hf
    have HO := Lib.hid ho; clear ho
    go_wp2_with fail
    go_ret
    exact ⟨rfl, HF.out, HO.out⟩

set_option maxHeartbeats 1000000 in
set_option maxRecDepth 100000 in
theorem fwhole_any (S : Rest) (base p : Nat) (w : World) (hw : FR w base p S) :
    Calls Tryz.prog 85 #[.pointer (some ⟨p, 0, none⟩)] w fun x w' => x = .returned (.bool (decide (S = some []))) ∧ w' = w := by
  obtain ⟨A, c, hb, hr, h1, h2⟩ := hw
  have k0 := hb.cell 0 _ rfl
  have k1 := hb.cell 1 _ rfl
  clear hb hr
  match S with
  | none =>
    rw [decide_eq_false (by simp)]
    simp only [Option.isNone_none, Option.getD_none, List.length_nil] at k0 k1
    go_enter Tryz.func85, Tryz.ntmps85
    go_wp2_with fail
    go_ret
    exact ⟨rfl, rfl⟩
  | some [] =>
    rw [decide_eq_true rfl]
    simp only [Option.isNone_some, Option.getD_some, List.length_nil] at k0 k1
    go_enter Tryz.func85, Tryz.ntmps85
    go_wp2_with fail
    go_ret
    exact ⟨rfl, rfl⟩
  | some (a :: t) =>
    rw [decide_eq_false (by simp)]
    simp only [Option.isNone_some, Option.getD_some, List.length_cons] at k0 k1
    have hne : ¬ ((t.length : Int) + 1 = 0) := by omega
    go_enter Tryz.func85, Tryz.ntmps85
    go_wp2_with fail
    go_ret
    exact ⟨rfl, rfl⟩
end Go.Proofs.YtmigninibdecmaaGreat

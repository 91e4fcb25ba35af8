/- The law's ballots, vows and states, as the pure councils have them. The reference's small functions: numbers and changes behind bytes; whether a transaction, a batch, a state is sound. The reference's reader: numbers, texts, changes. Numbers held against numbers, as the reference does. The reference: whether a batch, a state is sound; the same of the same. The reference of ballots: Less (Promise, Take, Best, Same are to follow). Vows in rows: what each is and where its chests lie; the one that was taken at the greatest ballot. The program's ballots: Less, a clone of ints, a state in memory of its own. -/
import Derived.Test.YtjmojlhebjbgaaaFae
import Derived.Test.YtjmojlhebjbgaaaFab
import Derived.Test.YtjmojlhebjbgaaaFac
namespace Go.Proofs.Ytjmojlhebjbgaaa

/-- the ballot of number i (0: none) -/
def balOf (i : Nat) : Bal := if i = 0 then (0, 0) else ((i : Int), (((i - 1) % 2 : Nat) : Int))
/-- the state of number t (0: none) -/
def staOf (t : Nat) : Sta := ⟨t, t, 0, []⟩
def vowOf (p a t : Nat) : Vw := ⟨balOf p, balOf a, staOf t⟩
theorem balOf_fst (i : Nat) : (balOf i).1 = (i : Int) := by
  unfold balOf
  split
  · rename_i e; subst e; rfl
  · rfl
theorem balOf_snd (i : Nat) : 0 ≤ (balOf i).2 ∧ (balOf i).2 ≤ 1 := by
  unfold balOf
  split
  · exact ⟨Int.le_refl _, by decide⟩
  · show (0 : Int) ≤ (((i - 1) % 2 : Nat) : Int) ∧ (((i - 1) % 2 : Nat) : Int) ≤ 1
    omega
theorem balOf_succ (k : Nat) : balOf (k + 1) = (((k + 1 : Nat) : Int), ((k % 2 : Nat) : Int)) := by
  unfold balOf
  rw [if_neg (by omega), Nat.add_sub_cancel]
theorem lessB_of (i j : Nat) : lessB (balOf i) (balOf j) = decide (i < j) := by
  by_cases e : i = j
  · subst e
    rw [lessB_self]
    simp
  · unfold lessB
    rw [balOf_fst, balOf_fst, if_pos (by omega)]
    exact decide_eq_decide.2 (by omega)
theorem staOf_zero : staOf 0 = zeroS := rfl
theorem vowOf_zero : vowOf 0 0 0 = zeroV := rfl
theorem staOf_inj {a b : Nat} (h : staOf a = staOf b) : a = b := by
  have : (a : Int) = (b : Int) := congrArg Sta.gen h
  omega
theorem staOf_gen (t : Nat) : (staOf t).gen = (t : Int) := rfl
theorem promV_of (p a t k : Nat) : promV (vowOf p a t) (balOf k) = if p < k then vowOf k a t else vowOf p a t := by
  unfold promV
  rw [show (vowOf p a t).prom = balOf p from rfl, lessB_of]
  by_cases h : p < k
  · rw [if_pos (by simpa using h), if_pos h]; rfl
  · rw [if_neg (by simpa using h), if_neg h]
theorem takeV_of (p a t k x : Nat) : takeV (vowOf p a t) (balOf k) (staOf x) = if k < p then vowOf p a t else vowOf k k x := by
  unfold takeV
  rw [show (vowOf p a t).prom = balOf p from rfl, lessB_of]
  by_cases h : k < p
  · rw [if_pos (by simpa using h), if_pos h]
  · rw [if_neg (by simpa using h), if_neg h]; rfl
/-- what a ballot was told, as vows: each of its promise -/
def toldOf (p : Nat) (l : List (Nat × Nat)) : List Vw := l.map fun x => vowOf p x.1 x.2
theorem toldOf_append (p : Nat) (l : List (Nat × Nat)) (x : Nat × Nat) : toldOf p (l ++ [x]) = toldOf p l ++ [vowOf p x.1 x.2] := by
  unfold toldOf
  rw [List.map_append]
  rfl
theorem toldOf_length (p : Nat) (l : List (Nat × Nat)) : (toldOf p l).length = l.length := List.length_map ..
theorem bestV_of (p : Nat) : ∀ (l : List (Nat × Nat)) (b : Nat × Nat) (v : Vw), v.at' = balOf b.1 → v.took = staOf b.2 → (bestV v (toldOf p l)).took = staOf (best l b).2
  | [], _, _, _, h => h
  | x :: l, b, v, h1, h2 => by
    show (bestV (if lessB v.at' (balOf x.1) then vowOf p x.1 x.2 else v) (toldOf p l)).took = staOf (best l (if b.1 < x.1 then x else b)).2
    rw [h1, lessB_of]
    by_cases h : b.1 < x.1
    · rw [if_pos (by simpa using h), if_pos h]
      exact bestV_of p l x _ rfl rfl
    · rw [if_neg (by simpa using h), if_neg h]
      exact bestV_of p l b _ h1 h2
theorem best_told (p : Nat) (l : List (Nat × Nat)) : (bestV zeroV (toldOf p l)).took = staOf (bestT l) := bestV_of p l (0, 0) zeroV rfl rfl
end Go.Proofs.Ytjmojlhebjbgaaa
namespace Go.Proofs.Ytjmojlhebjbgaaa
open Go.RowKit
attribute [local go_sem] less_eq same_eq le_eq ge_eq gt_eq

set_option maxHeartbeats 1000000 in
set_option maxRecDepth 100000 in
theorem least_any (l : List Int) (v : Value) (w : World) (B : Nat) (hv : RdI w B v l) (hl : l.length < 4611686018427387904) :
    Calls Try.prog 54 #[v] w fun e w' => e = .returned (.bool (decide (∀ n ∈ l, 0 ≤ n))) ∧ w' = w := by
  obtain ⟨A, c, rfl, hc, hi⟩ := hv.at
  obtain ⟨D, hD⟩ : ∃ D, D = decide (∀ n ∈ l, 0 ≤ n) := ⟨_, rfl⟩
  rw [← hD]
  have HD := Lib.hid hD; clear hD
  have HI := Lib.hid hi; clear hi
  clear hv
  go_enter Try.func54, Try.ntmps54
  go_wp2_with fail
  go_loop [3] (fun iv => ∃ i : Nat, i ≤ l.length ∧ iv = .int .i64 i ∧ Hid (∀ n ∈ l.take i, 0 ≤ n)) (fun iv => l.length - (intOf iv).toNat)
  case atStart => exact ⟨0, Nat.zero_le _, rfl, Lib.hid (by simp)⟩
  case round =>
    obtain ⟨i, hil, rfl, HALL⟩ := hrel
    by_cases hlt : i < l.length
    · obtain ⟨b, o, rfl, hbB, h1⟩ := HI.out i hlt
      have hyes : 0 ≤ l[i] → ∀ n ∈ l.take (i + 1), 0 ≤ n := fun h n hn => by
        rw [List.take_add_one, List.getElem?_eq_getElem hlt, List.mem_append] at hn
        rcases hn with hn | hn
        · exact HALL.out n hn
        · simp only [Option.toList_some, List.mem_singleton] at hn; rw [hn]; exact h
      have hno : ¬ (0 ≤ l[i]) → D = false := fun h => by rw [HD.out]; exact decide_eq_false fun hall => h (hall _ (List.getElem_mem hlt))
      generalize l[i] = z at h1 hyes hno
      have HY := Lib.hid hyes; clear hyes
      have HN := Lib.hid hno; clear hno
      by_cases hz : z < 0
      · go_wp2_with fail
        go_ret
        exact ⟨by rw [HN.out (by omega)]; rfl, rfl⟩
      · go_wp2_with fail
        go_round
        case rel => exact ⟨i + 1, by omega, by go_num, Lib.hid (HY.out (by omega))⟩
        case measure => simp [intOf]; omega
    · have hd : D = true := by
        rw [HD.out]
        have := HALL.out
        rw [List.take_of_length_le (by omega)] at this
        exact decide_eq_true this
      have HD2 := Lib.hid hd; clear hd
      go_wp2_with fail
      go_ret
      exact ⟨by rw [HD2.out]; rfl, rfl⟩

set_option maxHeartbeats 2000000 in
set_option maxRecDepth 100000 in
theorem rnums5_any (l : List Int) (hr : ∀ n ∈ l, 0 ≤ n ∧ n < 9223372036854775808) (hl : l.length ≤ 4096) (v : Value) (m : List UInt8) (A : Option Addr) (c : Nat) (w : World) (base : Nat) (ho : OwnB w base (.slice A m.length c) m) (hb : base ≤ w.heap.size) (hv : RdI w base v l) (hm : m.length ≤ 200000000000000) :
    Calls Try.prog 42 #[.slice A m.length c, v] w fun e w' => ∃ A' c', e = .returned (.slice A' (m ++ encs l).length c') ∧ OwnB w' base (.slice A' (m ++ encs l).length c') (m ++ encs l) ∧ Below base w w' ∧ base ≤ w'.heap.size := by
  obtain ⟨A3, c3, rfl, _, hi⟩ := hv.at
  have HI := Lib.hid hi; clear hi hv
  have HH := Lib.hid hr; clear hr
  have HO := Lib.hid ho; clear ho
  go_enter Try.func42, Try.ntmps42
  go_wp2_with fail
  go_loopw [0, 5] (fun sv iv wr => ∃ (i : Nat) (m' : List UInt8) (A' : Option Addr) (c' : Nat), i ≤ l.length ∧ iv = .int .i64 i ∧ sv = .slice A' m'.length c' ∧ OwnB wr base (.slice A' m'.length c') m' ∧ m' = m ++ encs (l.take i) ∧ m'.length ≤ m.length + i * 9 ∧ Below base w wr ∧ base ≤ wr.heap.size) (fun _ iv _ => l.length - (intOf iv).toNat)
  case atStart => exact ⟨0, m, A, c, Nat.zero_le _, rfl, rfl, HO.out, by simp [encs], by omega, Below.refl _ _, hb⟩
  case round =>
    obtain ⟨i, m', A', c', hil, rfl, rfl, ho, hme, hml, hbw, hbs⟩ := hrel
    have HO2 := Lib.hid ho; clear ho
    have HME := Lib.hid hme; clear hme
    have HB := Lib.hid hbw; clear hbw
    by_cases hlt : i < l.length
    · obtain ⟨b, o, rfl, hbB, h1⟩ := HI.out i hlt
      rw [← HB.out.cell (p := ⟨b, _, none⟩) hbB] at h1
      have hmem := HH.out l[i] (List.getElem_mem hlt)
      have hnew : m' ++ enc (l[i]).toNat = m ++ encs (l.take (i + 1)) := by
        rw [HME.out, List.take_add_one, List.getElem?_eq_getElem hlt, encs_append, List.append_assoc]; simp [encs]
      generalize l[i] = z at h1 hmem hnew
      obtain ⟨n, rfl⟩ : ∃ n : Nat, z = (n : Int) := ⟨z.toNat, by omega⟩
      rw [Int.toNat_natCast] at hnew
      have hp := rput_any n (by omega) m' A' c' wr base HO2.out hbs (by omega)
      have hl9 := enc_len9 (n := n) (by omega)
      generalize hE : enc n = E at hp hnew hl9
      have hlen : (m' ++ E).length ≤ m.length + (i + 1) * 9 := by rw [List.length_append]; omega
      generalize m' ++ E = m2 at hp hnew hlen
      have HP := Lib.hid hp; clear hp
      have HNEW := Lib.hid hnew; clear hnew hE
      go_wp2_with fail
      refine HP.out.mono ?_
      rintro e w2 ⟨A2, c2, rfl, ho2, hb2, hs2⟩
      have HO3 := Lib.hid ho2; clear ho2
      have HB2 := Lib.hid (HB.out.trans hb2); clear hb2
      go_wp2_with fail
      go_roundw
      case rel => exact ⟨i + 1, m2, A2, c2, by omega, by go_num, rfl, HO3.out, HNEW.out, hlen, HB2.out, hs2⟩
      case measure => simp [intOf]; omega
    · obtain rfl : i = l.length := by omega
      have hm2 : m' = m ++ encs l := by rw [HME.out, List.take_length]
      have HM2 := Lib.hid hm2; clear hm2
      go_wp2_with fail
      go_ret
      rw [← HM2.out]
      exact ⟨A', c', rfl, HO2.out, HB.out, hbs⟩

end Go.Proofs.Ytjmojlhebjbgaaa
namespace Go.Proofs.Ytjmojlhebjbgaaa
open Go.RowKit
attribute [local go_sem] less_eq same_eq le_eq ge_eq gt_eq

/-- a reader of the reference's at block p: what it has not read yet -/
def RR (w : World) (base p : Nat) (S : Rest) : Prop :=
  ∃ A c l, Whole w p 71 [.slice A (List.length l) c, .bool S.isNone] ∧ RdB w base (.slice A l.length c) l ∧ base ≤ p ∧ l.length < 4611686018427387904 ∧ ∀ r, S = some r → r = l
theorem RR.size {w : World} {base p : Nat} {S : Rest} (h : RR w base p S) : p < w.heap.size := by obtain ⟨_, _, _, h, _⟩ := h; exact h.size
theorem RR.base {w : World} {base p : Nat} {S : Rest} (h : RR w base p S) : base ≤ p := by obtain ⟨_, _, _, _, _, h, _⟩ := h; exact h
theorem RR.more {w w' : World} {base p : Nat} {S : Rest} (h : RR w base p S) (hb : Below w.heap.size w w') : RR w' base p S := by
  have hp := h.size
  obtain ⟨A, c, l, hw, hr, h1, h2, h3⟩ := h
  exact ⟨A, c, l, hw.below hb hp, hr.below hb (by omega), h1, h2, h3⟩
theorem RR.kept {w w' : World} {base p B : Nat} {S : Rest} {row : Option Nat} (h : RR w base p S) (hg : w.grownBy w' row) (hr : ∀ k, row = some k → B ≤ k) (hB : p < B) : RR w' base p S := by
  have hp := h.size
  obtain ⟨A, c, l, hw, hrd, h1, h2, h3⟩ := h
  exact ⟨A, c, l, hw.grown hg (fun e => by have := hr p e.symm; omega), hrd.below ((Below.refl base w).grown hg (by omega) fun k hk => by have := hr k hk; omega) (Nat.le_refl _), h1, h2, h3⟩
theorem RR.set {w : World} {base p : Nat} {S : Rest} (h : RR w base p S) {g : Nat} (hg : p < g) (i : Nat) (u : Value) : RR (w.setCell ⟨g, i, none⟩ u) base p S :=
  h.kept (row := some g) (B := g) (show Only g w _ from (Only.refl g w).put i u) (fun k hk => by injection hk with hk; omega) hg

set_option maxHeartbeats 2000000 in
set_option maxRecDepth 100000 in
theorem rrnum_any (S : Rest) (base p : Nat) (w : World) (hw : RR w base p S) :
    Calls Try.prog 34 #[.pointer (some ⟨p, 0, none⟩)] w fun x w' => x = .returned (.int .i64 (rdN S).1) ∧ RR w' base p (rdN S).2 ∧ Only p w w' := by
  have hw0 := hw
  obtain ⟨A, c, l, hb, hr, h1, h2, h3⟩ := hw
  have hn := rnum_any l (.slice A l.length c) w base hr h2
  have k0 := hb.cell 0 _ rfl
  have k1 := hb.cell 1 _ rfl
  have f0 := hb.frozen 0
  have f1 := hb.frozen 1
  have hbad : S = none ∨ (numAns l).2.2 ≠ 0 → rdN S = (0, none) := fun h => by
    rcases h with rfl | h
    · rfl
    · cases S with
      | none => rfl
      | some r => rw [h3 r rfl, rdN, if_neg h]
  have hgood : S ≠ none → (numAns l).2.2 = 0 → rdN S = (((numAns l).1 : Int), some (l.drop (numAns l).2.1)) := fun h h0 => by
    cases S with
    | none => exact absurd rfl h
    | some r => rw [h3 r rfl, rdN, if_pos h0]
  have hused := fun h => numAns_used (l := l) h
  have HP1 := Lib.hid (show ∀ v, Only p w (w.setCell ⟨p, 1, none⟩ v) from fun v => (Only.refl p w).put 1 v)
  have HP0 := Lib.hid (show ∀ v, Only p w (w.setCell ⟨p, 0, none⟩ v) from fun v => (Only.refl p w).put 0 v)
  have HW0 := Lib.hid (hb.put 1 (.bool true))
  have HV := Lib.hid hr
  have HWB := Lib.hid hb
  have HLB := Lib.hid (show ∀ i v, Below base w (w.setCell ⟨p, i, none⟩ v) from fun i v => (Below.refl _ _).setCell h1 v)
  have hi0 := hr.at
  generalize numAns l = x at hn hbad hgood hused
  obtain ⟨n, u, e⟩ := x
  simp only [numVal] at hn
  simp only at hbad hgood hused
  clear hb hr
  by_cases he : e = 0
  · subst he
    obtain ⟨hu1, hu⟩ := hused rfl
    cases S with
    | none =>
      rw [hbad (.inl rfl)]
      simp only [Option.isNone_none] at k1 HWB
      have HN := Lib.hid hn
      clear hn hbad hgood hi0 hw0 hused
      go_enter Try.func34, Try.ntmps34
      go_wp2_with fail
      refine HN.out.mono ?_
      rintro x w1 ⟨rfl, rfl⟩
      go_wp2_with fail
      go_ret
      exact ⟨rfl, ⟨A, c, l, HW0.out, HV.out.below (HLB.out 1 _) (Nat.le_refl _), h1, h2, fun r hr => by cases hr⟩, HP1.out _⟩
    | some r0 =>
      rw [hgood (by simp) rfl]
      obtain ⟨A0, c0, hv0, hc0, hi0⟩ := hi0
      simp only [Value.slice.injEq, true_and] at hv0
      obtain ⟨rfl, rfl⟩ := hv0
      obtain ⟨b, o, hA⟩ : ∃ b o, A = some ⟨b, o, none⟩ := by obtain ⟨b, o, h, _⟩ := hi0 0 (by omega); exact ⟨b, o, h⟩
      subst hA
      simp only [Option.isNone_some] at k1 HWB
      have hdl : (l.drop u).length = l.length - u := by simp
      have hrd2 : ∀ A', (0 < l.length - u → A' = some ⟨b, o + u, none⟩) → RdB w base (.slice A' (l.drop u).length (c - u)) (l.drop u) := fun A' hA => by
        have := HV.out.window u (l.length - u) (by omega) (c - u) (by omega) A' hA
        rwa [List.take_of_length_le (by rw [hdl]; exact Nat.le_refl _), ← hdl] at this
      have HN := Lib.hid hn
      have HRD := Lib.hid hrd2
      have HDL := Lib.hid hdl
      have hcu : (u : Int) ≤ (c : Int) := by omega
      clear hn hbad hgood hi0 hrd2 hdl hused hw0 h3
      by_cases hcz : c = u
      · subst hcz
        go_enter Try.func34, Try.ntmps34
        go_wp2_with fail
        refine HN.out.mono ?_
        rintro x w1 ⟨rfl, rfl⟩
        go_wp2_with fail
        go_ret
        have e0 : l.length - c = 0 := by omega
        have hl0 : (l.drop c).length = l.length - c := HDL.out
        have h0 := HRD.out (some ⟨b, o, none⟩) (fun h => by omega)
        refine ⟨rfl, ⟨some ⟨b, o, none⟩, c - c, l.drop c, ?_, h0.below (HLB.out 0 _) (Nat.le_refl _), h1, by rw [hl0]; omega, fun r hr => by injection hr with hr; exact hr.symm⟩, HP0.out _⟩
        have := HWB.out.put 0 (.slice (some ⟨b, o, none⟩) 0 0)
        simpa [hl0, e0] using this
      · go_enter Try.func34, Try.ntmps34
        go_wp2_with fail
        refine HN.out.mono ?_
        rintro x w1 ⟨rfl, rfl⟩
        go_wp2_with fail
        go_ret
        have hl0 : (l.drop u).length = l.length - u := HDL.out
        have h0 := HRD.out (some ⟨b, o + u, none⟩) (fun _ => rfl)
        refine ⟨rfl, ⟨some ⟨b, o + u, none⟩, c - u, l.drop u, ?_, h0.below (HLB.out 0 _) (Nat.le_refl _), h1, by rw [hl0]; omega, fun r hr => by injection hr with hr; exact hr.symm⟩, HP0.out _⟩
        have := HWB.out.put 0 (.slice (some ⟨b, o + u, none⟩) (l.length - u) (c - u))
        simpa [hl0] using this
  · rw [hbad (.inr he)]
    have he2 : ¬ ((e : Int) = 0) := by omega
    have HN := Lib.hid hn
    clear hn hbad hgood hi0 hused hw0 h3
    go_enter Try.func34, Try.ntmps34
    go_wp2_with fail
    refine HN.out.mono ?_
    rintro x w1 ⟨rfl, rfl⟩
    go_wp2_with fail
    go_ret
    exact ⟨rfl, ⟨A, c, l, HW0.out, HV.out.below (HLB.out 1 _) (Nat.le_refl _), h1, h2, fun r hr => by cases hr⟩, HP1.out _⟩

theorem repS_stuck {α : Type} {one : Rest → α × Rest} (hone : ∀ S, (one S).2 ≠ none → S ≠ none) {i N : Nat} (h : i ≤ N) {S : Rest} (hs : repS one i S = none) : repS one N S = none := by
  refine Classical.byContradiction fun hn => ?_
  have := repS_add one hone i (N - i) (S := S) (by rw [show i + (N - i) = N by omega]; exact hn)
  exact this hs

end Go.Proofs.Ytjmojlhebjbgaaa
namespace Go.Proofs.Ytjmojlhebjbgaaa
open Go.RowKit


set_option maxHeartbeats 1000000 in
set_option maxRecDepth 100000 in
theorem ints_any (a b : List Int) (va vb : Value) (w : World) (hva : RdI w w.heap.size va a) (hvb : RdI w w.heap.size vb b) (hla : a.length < 4611686018427387904) (_hlb : b.length < 4611686018427387904) :
    Calls Try.prog 26 #[va, vb] w fun e w' => e = .returned (.bool (decide (a = b))) ∧ Below w.heap.size w w' := by
  obtain ⟨A1, c1, rfl, hc1, hia⟩ := hva.at
  obtain ⟨A2, c2, rfl, hc2, hib⟩ := hvb.at
  obtain ⟨D, hD⟩ : ∃ D, D = decide (a = b) := ⟨_, rfl⟩
  rw [← hD]
  have HD := Lib.hid hD; clear hD
  clear hva hvb
  by_cases hlen : a.length = b.length
  · have HA := Lib.hid hia; clear hia
    have HB := Lib.hid hib; clear hib
    have HL := Lib.hid hlen
    rw [← hlen]
    rw [← hlen] at hc2
    clear hlen
    obtain ⟨g, hg⟩ : ∃ g, g = w.heap.size := ⟨_, rfl⟩
    have HG := Lib.hid hg; clear hg
    go_enter Try.func26, Try.ntmps26
    go_wp2_with fail
    go_loopw [5] (fun iv wr => ∃ j : Nat, j ≤ a.length ∧ iv = .int .i64 j ∧ Below g w wr ∧ ∀ k (h1 : k < a.length) (h2 : k < b.length), k < j → a[k] = b[k]) (fun iv _ => a.length - (intOf iv).toNat)
    case atStart => exact ⟨0, Nat.zero_le _, rfl, Below.refl _ _, fun k _ _ h => by omega⟩
    case round =>
      obtain ⟨j, hj, rfl, hbw, hall⟩ := hrel
      have HBW := Lib.hid hbw; clear hbw
      have HALL := Lib.hid hall; clear hall
      by_cases hlt : j < a.length
      · have hlt2 : j < b.length := by rw [← HL.out]; exact hlt
        obtain ⟨b1, o1, rfl, hb1, hx⟩ := HA.out j hlt
        obtain ⟨b2, o2, rfl, hb2, hy⟩ := HB.out j hlt2
        have hbd : Below w.heap.size w wr.drew := by have h := HBW.out.drew; rwa [HG.out] at h
        have hx2 : ∀ W, Below wr.drew.heap.size wr.drew W → W.cell? ⟨b1, o1 + j, none⟩ = some (.int .i64 a[j]) := fun W hW => ((hbd.trans (hW.mono hbd.size)).cell (p := ⟨b1, _, none⟩) hb1).trans hx
        have hy2 : ∀ W, Below wr.drew.heap.size wr.drew W → W.cell? ⟨b2, o2 + j, none⟩ = some (.int .i64 b[j]) := fun W hW => ((hbd.trans (hW.mono hbd.size)).cell (p := ⟨b2, _, none⟩) hb2).trans hy
        have hne : a[j] ≠ b[j] → D = false := fun h => by rw [HD.out]; exact decide_eq_false fun e => h (by subst e; rfl)
        have heq : a[j] = b[j] → ∀ k (h1 : k < a.length) (h2 : k < b.length), k < j + 1 → a[k] = b[k] := fun h k h1 h2 hk => by
          rcases Nat.lt_or_ge k j with h' | h'
          · exact HALL.out k h1 h2 h'
          · obtain rfl : k = j := by omega
            exact h
        generalize a[j] = x at hx2 hx hne heq
        generalize b[j] = y at hy2 hy hne heq
        have HX := Lib.hid hx2
        have HY := Lib.hid hy2
        have HNE := Lib.hid hne
        have HEQ := Lib.hid heq
        have hj0 : (0 : Int) ≤ (j : Int) := by omega
        have hj1 : (j : Int) < (a.length : Int) := by omega
        have HBD := Lib.hid hbd
        clear hx hy hx2 hy2 hne heq hbd hlt2
        by_cases hxy : x = y
        all_goals
          go_wp2_with fail
          refine wp_region_planB [(true, 0), (true, 1), (true, 2), (true, 3), (true, 4), (true, 5), (true, 6), (true, 7), (true, 8)] (by kernel_rfl) (by kernel_rfl) (fun _ _ d _ _ h => by cases d <;> exact h) ?_
          repeat (refine PlanB.take (v := ?_) rfl rfl ?_ ?_; rotate_left; (focus (intro W hW; have k1 := HX.out W hW; have k2 := HY.out W hW; go_simp; (try with_reducible rfl); done)); (try simp only [Act.put, List.setIfInBounds_toArray, List.set_cons_zero, List.set_cons_succ]))
          simp only [PlanB]
          go_wp2_with fail
        · go_roundw
          case rel => exact ⟨j + 1, by omega, by go_num, HBW.out.drew, HEQ.out hxy⟩
          case measure => simp [intOf]; omega
        · go_ret
          exact ⟨by rw [HNE.out hxy]; rfl, HBD.out⟩
      · go_wp2_with fail
        go_ret
        refine ⟨?_, by have h := HBW.out; rwa [HG.out] at h⟩
        have : D = true := by
          rw [HD.out]
          refine decide_eq_true (List.ext_getElem HL.out fun k h1 h2 => HALL.out k h1 h2 (by omega))
        rw [this]; rfl
  · have hd : D = false := by rw [HD.out]; exact decide_eq_false fun e => hlen (by rw [e])
    have HD2 := Lib.hid hd
    have hli : ¬ ((a.length : Int) = (b.length : Int)) := by omega
    clear hd hia hib
    go_enter Try.func26, Try.ntmps26
    go_wp2_with fail
    go_ret
    exact ⟨by rw [HD2.out]; rfl, Below.refl _ _⟩
end Go.Proofs.Ytjmojlhebjbgaaa
namespace Go.Proofs.Ytjmojlhebjbgaaa
open Go.RowKit
attribute [local go_sem] less_eq same_eq le_eq ge_eq gt_eq

set_option maxHeartbeats 2000000 in
set_option maxRecDepth 100000 in
theorem rsoundS_any (x : Sta) (hl : x.chests.length < 4611686018427387904) (v : Value) (w : World) (hv : RdI w w.heap.size v x.chests) :
    Calls Try.prog 40 #[sval x v] w fun e w' => e = .returned (.bool (decide (soundS x))) ∧ Below w.heap.size w w' := by
  obtain ⟨a, b, c, l⟩ := x
  obtain ⟨R, hR⟩ : ∃ R, R = decide (soundS ⟨a, b, c, l⟩) := ⟨_, rfl⟩
  rw [← hR]
  unfold soundS at hR
  unfold sval
  simp only at hR hl hv ⊢
  have hF := fun W B h => least_any [a, b, c] (.slice (some ⟨w.heap.size + 1, 0, none⟩) 3 3) W B h (by simp)
  have hi1 := RdI.lit (w.alloc (.cells #[.int .i64 a, .int .i64 b, .int .i64 c, v] 29)) [a, b, c]
  simp only [World.size_alloc, List.map_cons, List.map_nil, List.length_cons, List.length_nil] at hi1
  obtain ⟨A1, c1, rfl, _, hi⟩ := hv.at
  have hb2 : Below w.heap.size w ((w.alloc (.cells #[.int .i64 a, .int .i64 b, .int .i64 c, .slice A1 l.length c1] 29)).alloc (.cells #[.int .i64 a, .int .i64 b, .int .i64 c] 3)) := ((Below.refl _ _).alloc (Nat.le_refl _) _).alloc (by simp) _
  have hA := least_any l (.slice A1 l.length c1) _ _ (hv.next hb2) hl
  obtain ⟨D1, hD1⟩ : ∃ D1, D1 = decide (∀ n ∈ [a, b, c], 0 ≤ n) := ⟨_, rfl⟩
  obtain ⟨D2, hD2⟩ : ∃ D2, D2 = decide (∀ n ∈ l, 0 ≤ n) := ⟨_, rfl⟩
  rw [← hD1] at hF
  rw [← hD2] at hA
  have e1 : (∀ n ∈ [a, b, c], 0 ≤ n) ↔ 0 ≤ a ∧ 0 ≤ b ∧ 0 ≤ c := by simp
  have hno : ¬ (D1 = true ∧ D2 = true ∧ l.length ≤ 16 ∧ ∀ n ∈ l, n ≤ 255) → R = false := fun h => by
    rw [hR]
    exact decide_eq_false fun hs => h ⟨by rw [hD1]; exact decide_eq_true (e1.2 hs.1), by rw [hD2]; exact decide_eq_true fun n hn => (hs.2.2 n hn).1, hs.2.1, fun n hn => (hs.2.2 n hn).2⟩
  have hyes : D1 = true ∧ D2 = true ∧ l.length ≤ 16 ∧ (∀ n ∈ l, n ≤ 255) → R = true := fun h => by
    rw [hR]
    have h2 : ∀ n ∈ l, 0 ≤ n := of_decide_eq_true (hD2 ▸ h.2.1)
    exact decide_eq_true ⟨e1.1 (of_decide_eq_true (hD1 ▸ h.1)), h.2.2.1, fun n hn => ⟨h2 n hn, h.2.2.2 n hn⟩⟩
  have HNO := Lib.hid hno; clear hno
  have HYES := Lib.hid hyes; clear hyes
  have HF := Lib.hid (hF _ _ hi1); clear hF hi1
  have HA := Lib.hid hA; clear hA
  have HB2 := Lib.hid hb2; clear hb2
  have HI := Lib.hid hi; clear hi
  clear hR hD1 hD2 e1 hv
  go_enter Try.func40, Try.ntmps40
  go_wp2_with fail
  refine HF.out.mono ?_
  rintro e w1 ⟨rfl, rfl⟩
  cases D1 with
  | false =>
    have hr := HNO.out (by simp)
    have HR2 := Lib.hid hr; clear hr
    go_wp2_with fail
    go_ret
    exact ⟨by rw [HR2.out]; rfl, HB2.out⟩
  | true =>
    go_wp2_with fail
    refine HA.out.mono ?_
    rintro e w3 ⟨rfl, rfl⟩
    cases D2 with
    | false =>
      have hr := HNO.out (by simp)
      have HR2 := Lib.hid hr; clear hr
      go_wp2_with fail
      go_ret
      exact ⟨by rw [HR2.out]; rfl, HB2.out⟩
    | true =>
      by_cases h16 : (16 : Int) < (l.length : Int)
      · have hr := HNO.out (fun h => by have := h.2.2.1; omega)
        have HR2 := Lib.hid hr; clear hr
        go_wp2_with fail
        go_ret
        exact ⟨by rw [HR2.out]; rfl, HB2.out⟩
      · go_wp2_with fail
        go_loopw [3] (fun iv wr => ∃ i : Nat, i ≤ l.length ∧ iv = .int .i64 i ∧ Below (w.heap.size + 1) (w.alloc (.cells #[.int .i64 a, .int .i64 b, .int .i64 c, .slice A1 l.length c1] 29)) wr ∧ Below w.heap.size w wr ∧ Hid (∀ n ∈ l.take i, n ≤ 255)) (fun iv _ => l.length - (intOf iv).toNat)
        case atStart => exact ⟨0, Nat.zero_le _, rfl, (Below.refl _ _).alloc (by simp) _, HB2.out, Lib.hid (by simp)⟩
        case round =>
          obtain ⟨i, hil, rfl, hbr, hbw, HALL⟩ := hrel
          have p1 := box_cell hbr 3 _ rfl
          have HBR := Lib.hid hbr; clear hbr
          have HBW := Lib.hid hbw; clear hbw
          by_cases hlt : i < l.length
          · obtain ⟨b', o, rfl, hbB, k0⟩ := HI.out i hlt
            rw [← HBW.out.cell (p := ⟨b', _, none⟩) hbB] at k0
            have hyes : l[i] ≤ 255 → ∀ n ∈ l.take (i + 1), n ≤ 255 := fun h n hn => by
              rw [List.take_add_one, List.getElem?_eq_getElem hlt, List.mem_append] at hn
              rcases hn with hn | hn
              · exact HALL.out n hn
              · simp only [Option.toList_some, List.mem_singleton] at hn; rw [hn]; exact h
            have hno : ¬ l[i] ≤ 255 → R = false := fun h => HNO.out fun hall => h (hall.2.2.2 _ (List.getElem_mem hlt))
            generalize l[i] = z at k0 hyes hno
            have HY := Lib.hid hyes; clear hyes
            have HN := Lib.hid hno; clear hno
            by_cases hz : 255 < z
            · have hf := HN.out (by omega)
              have HF2 := Lib.hid hf; clear hf
              go_wp2_with fail
              go_ret
              exact ⟨by rw [HF2.out]; rfl, HBW.out⟩
            · have hok := HY.out (by omega)
              have HOK := Lib.hid hok; clear hok
              go_wp2_with fail
              go_roundw
              case rel => exact ⟨i + 1, by omega, by go_num, HBR.out, HBW.out, Lib.hid HOK.out⟩
              case measure => simp [intOf]; omega
          · have hd : R = true := HYES.out ⟨by simp, by simp, by omega, by
              have := HALL.out
              rwa [List.take_of_length_le (by omega)] at this⟩
            have HD2 := Lib.hid hd; clear hd
            go_wp2_with fail
            go_ret
            exact ⟨by rw [HD2.out]; rfl, HBW.out⟩

set_option maxHeartbeats 2000000 in
set_option maxRecDepth 100000 in
theorem sameS_eq (x : Sta) (hl : x.chests.length < 4611686018427387904) (v1 v2 : Value) (w : World) (hv1 : RdI w w.heap.size v1 x.chests) (hv2 : RdI w w.heap.size v2 x.chests) :
    Calls Try.prog 17 #[sval x v1, sval x v2] w fun e w' => e = .returned (.bool true) ∧ Below w.heap.size w w' := by
  obtain ⟨A1, c1, rfl, _, _⟩ := hv1.at
  obtain ⟨A2, c2, rfl, _, _⟩ := hv2.at
  obtain ⟨a, b, c, l⟩ := x
  unfold sval
  simp only at hv1 hv2 hl ⊢
  have hb : Below w.heap.size w ((w.alloc (.cells #[.int .i64 a, .int .i64 b, .int .i64 c, .slice A1 l.length c1] 29)).alloc (.cells #[.int .i64 a, .int .i64 b, .int .i64 c, .slice A2 l.length c2] 29)) := ((Below.refl _ _).alloc (Nat.le_refl _) _).alloc (by simp) _
  have hs := ints_any l l _ _ _ (hv1.next hb) (hv2.next hb) hl hl
  rw [decide_eq_true rfl] at hs
  have HS := Lib.hid hs; clear hs
  have HB := Lib.hid hb; clear hb hv1 hv2
  go_enter Try.func17, Try.ntmps17
  go_wp2_with fail
  refine HS.out.mono ?_
  rintro e w3 ⟨rfl, hb3⟩
  have HB3 := Lib.hid (show Below w.heap.size w w3 from HB.out.trans (hb3.mono (by simp; omega))); clear hb3
  go_wp2_with fail
  go_ret
  exact ⟨rfl, HB3.out⟩

end Go.Proofs.Ytjmojlhebjbgaaa
namespace Go.Proofs.Ytjmojlhebjbgaaa
open Go.RowKit

def blv (b : Bal) : Value := .agg #[.int .i64 b.1, .int .i64 b.2]
/-- a vow as a value: the cells of its parts stand one behind the other -/
def vwv (x : Vw) (v : Value) : Value := .agg #[.int .i64 x.prom.1, .int .i64 x.prom.2, .int .i64 x.at'.1, .int .i64 x.at'.2, .int .i64 x.took.gen, .int .i64 x.took.epoch, .int .i64 x.took.recd, v]
/-- a vow's cells -/
def vcells (x : Vw) (v : Value) : List Value := [.int .i64 x.prom.1, .int .i64 x.prom.2, .int .i64 x.at'.1, .int .i64 x.at'.2, .int .i64 x.took.gen, .int .i64 x.took.epoch, .int .i64 x.took.recd, v]

set_option maxHeartbeats 2000000 in
set_option maxRecDepth 100000 in
theorem rless_any (a b : Bal) (w : World) :
    Calls Try.prog 11 #[blv a, blv b] w fun e w' => e = .returned (.bool (lessB a b)) ∧ Below w.heap.size w w' := by
  obtain ⟨a1, a2⟩ := a
  obtain ⟨b1, b2⟩ := b
  have hb : Below w.heap.size w ((w.alloc (.cells #[.int .i64 a1, .int .i64 a2] 23)).alloc (.cells #[.int .i64 b1, .int .i64 b2] 23)) := ((Below.refl _ _).alloc (Nat.le_refl _) _).alloc (by simp) _
  obtain ⟨R, hR⟩ : ∃ R, R = lessB (a1, a2) (b1, b2) := ⟨_, rfl⟩
  rw [← hR]
  have HB := Lib.hid hb; clear hb
  unfold blv
  by_cases h : a1 = b1
  · have hr : R = decide (a2 < b2) := by rw [hR]; unfold lessB; simp [h]
    have HR := Lib.hid hr; clear hR hr
    subst h
    go_enter Try.func11, Try.ntmps11
    go_wp2_with fail
    go_ret
    exact ⟨by rw [HR.out]; rfl, HB.out⟩
  · have hr : R = decide (a1 < b1) := by rw [hR]; unfold lessB; simp [h]
    have HR := Lib.hid hr; clear hR hr
    go_enter Try.func11, Try.ntmps11
    go_wp2_with fail
    go_ret
    exact ⟨by rw [HR.out]; rfl, HB.out⟩

end Go.Proofs.Ytjmojlhebjbgaaa
namespace Go.Proofs.Ytjmojlhebjbgaaa
open Go.RowKit

structure Ew where
  x : Vw
  A : Option Addr
  c : Nat
def Ew.v (e : Ew) : Value := .slice e.A e.x.took.chests.length e.c
def encEw (e : Ew) : List Value := vcells e.x e.v
theorem encEw_len (e : Ew) : (encEw e).length = 8 := rfl
theorem encEw_one (e : Ew) : ∀ u ∈ encEw e, u.oneCell' = true := by
  intro u hu
  simp [encEw, vcells] at hu
  rcases hu with rfl | rfl | rfl | rfl | rfl | rfl | rfl | rfl <;> rfl
abbrev RdEw (w : World) (B : Nat) (v : Value) (l : List Ew) : Prop := Rd encEw 8 w B v l
abbrev OwnEw (w : World) (base : Nat) (v : Value) (l : List Ew) : Prop := Own encEw 8 31 w base v l
theorem info_vow : (Try.prog.info? 31).map (fun i => (i.zero, i.size, i.bytes)) = some (some (.agg #[.int .i64 0, .int .i64 0, .int .i64 0, .int .i64 0, .int .i64 0, .int .i64 0, .int .i64 0, .slice none 0 0]), 8, 80) := by kernel_rfl
theorem RdEw.at {w : World} {B : Nat} {v : Value} {l : List Ew} (h : RdEw w B v l) : ∃ A c, v = .slice A l.length c ∧ l.length ≤ c ∧ ∀ i (_ : i < l.length), ∃ b o, A = some ⟨b, o, none⟩ ∧ b < B ∧ ∀ j u, (encEw l[i])[j]? = some u → w.cell? ⟨b, o + i * 8 + j, none⟩ = some u := by
  obtain ⟨A, c, hv, hc, hi⟩ := h
  exact ⟨A, c, hv, hc, fun i hs => hi i hs⟩
theorem RdEw.one (w : World) (x : Ew) : RdEw (w.alloc (.cells (encEw x).toArray 31)) (w.heap.size + 1) (.slice (some ⟨w.heap.size, 0, none⟩) 1 1) [x] := by
  refine ⟨_, 1, rfl, Nat.le_refl _, fun i hi => ⟨w.heap.size, 0, rfl, Nat.lt_succ_self _, fun j u hu => ?_⟩⟩
  obtain rfl : i = 0 := by simp at hi; omega
  have h := (Whole.fresh w 31 (encEw x)).cell j u (by simpa using hu)
  simpa using h
def zeroE : Ew := ⟨zeroV, none, 0⟩
/-- the vow that was taken at the greatest ballot, and where its chests lie -/
def bestE : Ew → List Ew → Ew
  | b, [] => b
  | b, x :: l => bestE (if lessB b.x.at' x.x.at' = true then x else b) l
theorem bestE_append (b : Ew) (l : List Ew) (x : Ew) : bestE b (l ++ [x]) = if lessB (bestE b l).x.at' x.x.at' = true then x else bestE b l := by
  induction l generalizing b with
  | nil => rfl
  | cons y l ih => exact ih _
theorem bestE_x (b : Ew) (l : List Ew) : (bestE b l).x = bestV b.x (l.map (·.x)) := by
  induction l generalizing b with
  | nil => rfl
  | cons y l ih =>
    rw [bestE, ih]
    show bestV _ _ = bestV (if lessB b.x.at' y.x.at' then y.x else b.x) (l.map (·.x))
    by_cases h : lessB b.x.at' y.x.at' = true
    · rw [if_pos h, if_pos h]
    · rw [if_neg h, if_neg h]
theorem bestE_mem (b : Ew) (l : List Ew) : bestE b l = b ∨ bestE b l ∈ l := by
  induction l generalizing b with
  | nil => exact .inl rfl
  | cons y l ih =>
    rcases ih (if lessB b.x.at' y.x.at' = true then y else b) with e | e
    · rw [bestE, e]
      split
      · exact .inr (List.mem_cons_self ..)
      · exact .inl rfl
    · exact .inr (List.mem_cons_of_mem _ e)

set_option maxHeartbeats 4000000 in
set_option maxRecDepth 100000 in
theorem rbest_any (l : List Ew) (v : Value) (w : World) (hv : RdEw w w.heap.size v l) (hl : l.length < 4611686018427387904) :
    Calls Try.prog 19 #[v] w fun e w' => e = .returned (sval (bestE zeroE l).x.took (bestE zeroE l).v) ∧ Below w.heap.size w w' := by
  obtain ⟨A, c, rfl, hc, hi⟩ := hv.at
  have HI := Lib.hid hi; clear hi hv
  obtain ⟨E0, hE0⟩ : ∃ E0, E0 = bestE zeroE l := ⟨_, rfl⟩
  rw [← hE0]
  obtain ⟨⟨⟨zp1, zp2⟩, ⟨za1, za2⟩, ⟨zg, zep, zrc, zch⟩⟩, zA, zc⟩ := E0
  have HE0 := Lib.hid hE0; clear hE0
  unfold sval Ew.v
  simp only
  have HL := Lib.hid (fun a b W => rless_any a b W)
  obtain ⟨g, hg⟩ : ∃ g, g = w.heap.size := ⟨_, rfl⟩
  have HG := Lib.hid hg
  obtain ⟨w1, hw1⟩ : ∃ w1, w1 = w.alloc (.cells #[.int .i64 0, .int .i64 0, .int .i64 0, .slice none 0 0] 29) := ⟨_, rfl⟩
  obtain ⟨w2, hw2⟩ : ∃ w2, w2 = w1.alloc (.cells #[.int .i64 0, .int .i64 0, .int .i64 0, .int .i64 0, .int .i64 0, .int .i64 0, .int .i64 0, .slice none 0 0] 31) := ⟨_, rfl⟩
  have hs1 : w1.heap.size = w.heap.size + 1 := by rw [hw1]; simp
  have hs2 : w2.heap.size = w.heap.size + 1 + 1 := by rw [hw2, World.size_alloc, hs1]
  have HZ := Lib.hid (show Whole w2 w.heap.size 29 [.int .i64 0, .int .i64 0, .int .i64 0, .slice none 0 0] from by rw [hw2, hw1]; exact (Whole.fresh w _ [_, _, _, _]).alloc _)
  have HX := Lib.hid (show Whole w2 (w.heap.size + 1) 31 (encEw zeroE) from by rw [hw2, ← hs1]; exact Whole.fresh w1 _ (encEw zeroE))
  have HB := Lib.hid (show Below w.heap.size w w2 from by rw [hw2, hw1]; exact ((Below.refl _ w).alloc (Nat.le_refl _) _).alloc (by simp) _)
  have HS2 := Lib.hid hs2
  go_enter Try.func19, Try.ntmps19
  go_wp2_with fail
  rw [← hw1, ← hw2, ← hg]
  clear hs1 hs2 hw1 hw2 hg
  go_loopw [4] (fun iv wr => ∃ (i : Nat) (e : Ew), i ≤ l.length ∧ iv = .int .i64 i ∧ Hid (e = bestE zeroE (l.take i)) ∧ Hid (Whole wr (g + 1) 31 (encEw e)) ∧ Hid (Whole wr g 29 [.int .i64 0, .int .i64 0, .int .i64 0, .slice none 0 0]) ∧ Hid (Below g w wr)) (fun iv _ => l.length - (intOf iv).toNat)
  case atStart => exact ⟨0, zeroE, Nat.zero_le _, rfl, Lib.hid rfl, by rw [HG.out]; exact HX, by rw [HG.out]; exact HZ, by rw [HG.out]; exact HB⟩
  case round =>
    obtain ⟨i, e, hil, rfl, HE, HXr, HZr, HBr⟩ := hrel
    clear HX HZ HB
    have hgs := HXr.out.size
    by_cases hlt : i < l.length
    · obtain ⟨b, o, rfl, hbB, hk⟩ := HI.out i hlt
      have hkr : ∀ W, Below g w W → ∀ j u, (encEw l[i])[j]? = some u → W.cell? ⟨b, o + i * 8 + j, none⟩ = some u := fun W hW j u hu => (hW.cell (p := ⟨b, _, none⟩) (by rw [HG.out]; exact hbB)).trans (hk j u hu)
      have hE := HE.out
      have hstep : bestE zeroE (l.take (i + 1)) = if lessB e.x.at' l[i].x.at' = true then l[i] else e := by
        rw [List.take_succ_eq_append_getElem hlt, bestE_append, ← hE]
      clear hk hE
      generalize l[i] = y at hkr hstep
      obtain ⟨⟨⟨yp1, yp2⟩, ⟨ya1, ya2⟩, ⟨yg, yep, yrc, ych⟩⟩, yA, yc⟩ := y
      obtain ⟨⟨⟨ep1, ep2⟩, ⟨ea1, ea2⟩, ⟨eg, eep, erc, ech⟩⟩, eA, ec⟩ := e
      unfold encEw vcells Ew.v at hkr HXr
      simp only at hkr HXr hstep
      have hll := HL.out (ea1, ea2) (ya1, ya2)
      unfold blv at hll
      simp only at hll
      generalize lessB (ea1, ea2) (ya1, ya2) = r at hstep hll
      have HLL := Lib.hid hll; clear hll
      have HST := Lib.hid hstep; clear hstep
      have HK := Lib.hid hkr; clear hkr
      have hd0 : Below wr.heap.size wr wr.drew := (Below.refl _ wr).drew
      have h0 : (0 : Int) ≤ (i : Int) := by omega
      have h1 : (i : Int) < (l.length : Int) := by omega
      go_wp2_with fail
      refine wp_region_planB [(true, 0), (true, 1), (true, 2), (true, 3), (true, 4), (true, 5), (true, 6), (false, 7)] (by kernel_rfl) (by kernel_rfl) (fun _ _ d _ _ h => by cases d <;> exact h) ?_
      iterate 7 (refine PlanB.take (v := ?_) rfl rfl ?_ ?_; rotate_left; (focus (intro W hW; have hW2 := hd0.trans hW; have hWg := HBr.out.trans (hW2.mono (by omega)); have k2 := HK.out W hWg 2 _ rfl; have k3 := HK.out W hWg 3 _ rfl; have hx := HXr.out.below hW2 HXr.out.size; have x2 := hx.cell 2 _ rfl; have x3 := hx.cell 3 _ rfl; clear hx hW2 hWg; go_simp; (try with_reducible rfl); done)); (try simp only [Act.put, List.setIfInBounds_toArray, List.set_cons_zero, List.set_cons_succ]))
      refine PlanB.step rfl rfl (fun Kk hK => ?_)
      go_simp
      refine (HLL.out _).mono ?_
      rintro e w3 ⟨rfl, hb3⟩
      refine hK.out _ _ hb3 ?_
      clear hK Kk
      (try simp only [Act.put, List.setIfInBounds_toArray, List.set_cons_zero, List.set_cons_succ])
      simp only [PlanB]
      have hb3' := hd0.trans hb3
      have hX3 := HXr.out.below hb3' HXr.out.size
      have HZ3 := Lib.hid (HZr.out.below hb3' HZr.out.size)
      have HB3 := Lib.hid (HBr.out.trans (hb3'.mono (by omega)))
      clear hb3 hb3' hd0
      cases r with
      | false =>
        have hst := HST.out
        simp only [Bool.false_eq_true, if_false] at hst
        have HST2 := Lib.hid hst.symm
        have HX3 := Lib.hid hX3
        clear hX3 hst
        go_wp2_with fail
        go_roundw
        case rel => exact ⟨i + 1, ⟨⟨(ep1, ep2), (ea1, ea2), ⟨eg, eep, erc, ech⟩⟩, eA, ec⟩, by omega, by go_num, HST2, HX3, HZ3, HB3⟩
        case measure => simp [intOf]; omega
      | true =>
        have hst := HST.out
        simp only [if_true] at hst
        have HST2 := Lib.hid hst.symm
        have HX3 := Lib.hid hX3
        have hkk := HK.out w3 HB3.out
        have k0 := hkk 0 _ rfl
        have k1 := hkk 1 _ rfl
        have k2 := hkk 2 _ rfl
        have k3 := hkk 3 _ rfl
        have k4 := hkk 4 _ rfl
        have k5 := hkk 5 _ rfl
        have k6 := hkk 6 _ rfl
        have k7 := hkk 7 _ rfl
        simp only [Nat.add_zero] at k0
        have x0 := hX3.cell 0 _ rfl
        have x1 := hX3.cell 1 _ rfl
        have x2 := hX3.cell 2 _ rfl
        have x3 := hX3.cell 3 _ rfl
        have x4 := hX3.cell 4 _ rfl
        have x5 := hX3.cell 5 _ rfl
        have x6 := hX3.cell 6 _ rfl
        have x7 := hX3.cell 7 _ rfl
        have f0 := hX3.frozen 0
        have f1 := hX3.frozen 1
        have f2 := hX3.frozen 2
        have f3 := hX3.frozen 3
        have f4 := hX3.frozen 4
        have f5 := hX3.frozen 5
        have f6 := hX3.frozen 6
        have f7 := hX3.frozen 7
        clear hX3 hkk hst
        go_wp2_with fail
        have hX8 := (((((((HX3.out.put 0 (.int .i64 yp1)).put 1 (.int .i64 yp2)).put 2 (.int .i64 ya1)).put 3 (.int .i64 ya2)).put 4 (.int .i64 yg)).put 5 (.int .i64 yep)).put 6 (.int .i64 yrc)).put 7 (.slice yA ych.length yc)
        simp only [List.set] at hX8
        have hZ8 := (((((((HZ3.out.away (p := ⟨g + 1, 0, none⟩) (by simp) (.int .i64 yp1)).away (p := ⟨g + 1, 1, none⟩) (by simp) (.int .i64 yp2)).away (p := ⟨g + 1, 2, none⟩) (by simp) (.int .i64 ya1)).away (p := ⟨g + 1, 3, none⟩) (by simp) (.int .i64 ya2)).away (p := ⟨g + 1, 4, none⟩) (by simp) (.int .i64 yg)).away (p := ⟨g + 1, 5, none⟩) (by simp) (.int .i64 yep)).away (p := ⟨g + 1, 6, none⟩) (by simp) (.int .i64 yrc)).away (p := ⟨g + 1, 7, none⟩) (by simp) (.slice yA ych.length yc)
        have hb8 := (((((((HB3.out.setCell (p := ⟨g + 1, 0, none⟩) (by simp) (.int .i64 yp1)).setCell (p := ⟨g + 1, 1, none⟩) (by simp) (.int .i64 yp2)).setCell (p := ⟨g + 1, 2, none⟩) (by simp) (.int .i64 ya1)).setCell (p := ⟨g + 1, 3, none⟩) (by simp) (.int .i64 ya2)).setCell (p := ⟨g + 1, 4, none⟩) (by simp) (.int .i64 yg)).setCell (p := ⟨g + 1, 5, none⟩) (by simp) (.int .i64 yep)).setCell (p := ⟨g + 1, 6, none⟩) (by simp) (.int .i64 yrc)).setCell (p := ⟨g + 1, 7, none⟩) (by simp) (.slice yA ych.length yc)
        have HX8 := Lib.hid hX8
        have HZ8 := Lib.hid hZ8
        have HB8 := Lib.hid hb8
        clear hX8 hZ8 hb8 k0 k1 k2 k3 k4 k5 k6 k7 x0 x1 x2 x3 x4 x5 x6 x7 f0 f1 f2 f3 f4 f5 f6 f7
        go_roundw
        case rel => exact ⟨i + 1, ⟨⟨(yp1, yp2), (ya1, ya2), ⟨yg, yep, yrc, ych⟩⟩, yA, yc⟩, by omega, by go_num, HST2, HX8, HZ8, HB8⟩
        case measure => simp [intOf]; omega
    · obtain rfl : i = l.length := by omega
      have hE := HE.out
      rw [List.take_length] at hE
      obtain rfl := hE.trans HE0.out.symm
      clear hE
      unfold encEw vcells Ew.v at HXr
      simp only at HXr
      have x4 := HXr.out.cell 4 _ rfl
      have x5 := HXr.out.cell 5 _ rfl
      have x6 := HXr.out.cell 6 _ rfl
      have x7 := HXr.out.cell 7 _ rfl
      have z0 := HZr.out.cell 0 _ rfl
      have z1 := HZr.out.cell 1 _ rfl
      have z2 := HZr.out.cell 2 _ rfl
      have z3 := HZr.out.cell 3 _ rfl
      have f0 := HZr.out.frozen 0
      have f1 := HZr.out.frozen 1
      have f2 := HZr.out.frozen 2
      have f3 := HZr.out.frozen 3
      go_wp2_with fail
      have hZ8 := (((HZr.out.put 0 (.int .i64 zg)).put 1 (.int .i64 zep)).put 2 (.int .i64 zrc)).put 3 (.slice zA zch.length zc)
      simp only [List.set] at hZ8
      have R0 := hZ8.cell 0 _ rfl
      have R1 := hZ8.cell 1 _ rfl
      have R2 := hZ8.cell 2 _ rfl
      have R3 := hZ8.cell 3 _ rfl
      refine bodyPost_ret (v := .agg #[.int .i64 zg, .int .i64 zep, .int .i64 zrc, .slice zA zch.length zc]) (by simp [results, Try.results19, go_sem, R0, R1, R2, R3]) rfl ⟨rfl, ?_⟩
      rw [← HG.out]
      exact (((HBr.out.setCell (p := ⟨g, 0, none⟩) (Nat.le_refl _) _).setCell (p := ⟨g, 1, none⟩) (Nat.le_refl _) _).setCell (p := ⟨g, 2, none⟩) (Nat.le_refl _) _).setCell (p := ⟨g, 3, none⟩) (Nat.le_refl _) _
end Go.Proofs.Ytjmojlhebjbgaaa
namespace Go.Proofs.Ytjmojlhebjbgaaa
open Go.RowKit

set_option maxHeartbeats 2000000 in
set_option maxRecDepth 100000 in
theorem pless_any (a b : Bal) (w : World) :
    Calls Try.prog 9 #[blv a, blv b] w fun e w' => e = .returned (.bool (lessB a b)) ∧ Below w.heap.size w w' := by
  obtain ⟨a1, a2⟩ := a
  obtain ⟨b1, b2⟩ := b
  have hb : Below w.heap.size w ((w.alloc (.cells #[.int .i64 a1, .int .i64 a2] 23)).alloc (.cells #[.int .i64 b1, .int .i64 b2] 23)) := ((Below.refl _ _).alloc (Nat.le_refl _) _).alloc (by simp) _
  obtain ⟨R, hR⟩ : ∃ R, R = lessB (a1, a2) (b1, b2) := ⟨_, rfl⟩
  rw [← hR]
  have HB := Lib.hid hb; clear hb
  unfold blv
  by_cases h : a1 = b1
  · have hr : R = decide (a2 < b2) := by rw [hR]; unfold lessB; simp [h]
    have HR := Lib.hid hr; clear hR hr
    subst h
    go_enter Try.func9, Try.ntmps9
    go_wp2_with fail
    go_ret
    exact ⟨by rw [HR.out]; rfl, HB.out⟩
  · have hr : R = decide (a1 < b1) := by rw [hR]; unfold lessB; simp [h]
    have HR := Lib.hid hr; clear hR hr
    by_cases h1 : a1 < b1
    · rw [decide_eq_true h1] at HR
      go_enter Try.func9, Try.ntmps9
      go_wp2_with fail
      go_ret
      exact ⟨by rw [HR.out]; rfl, HB.out⟩
    · rw [decide_eq_false h1] at HR
      go_enter Try.func9, Try.ntmps9
      go_wp2_with fail
      go_ret
      exact ⟨by rw [HR.out]; rfl, HB.out⟩

set_option maxHeartbeats 1000000 in
set_option maxRecDepth 100000 in
theorem cloneI_any (l : List Int) (v : Value) (w : World) (hv : RdI w w.heap.size v l) (hl : l.length ≤ 17592186043904) :
    Calls Try.prog 36 #[v] w fun e w' => ∃ A c, e = .returned (.slice A l.length c) ∧ OwnI w' w.heap.size (.slice A l.length c) l ∧ Below w.heap.size w w' := by
  obtain ⟨A, c, rfl, hc, hi⟩ := hv.at
  have HV := Lib.hid hv; clear hv
  cases A with
  | none =>
    have hl0 : l = [] := by
      cases l with
      | nil => rfl
      | cons x r => obtain ⟨b, o, hA, _⟩ := hi 0 (by simp); cases hA
    subst hl0
    clear hi
    have hnil := fun W => Lib.run_eql_slice_nil (P := Try.prog) W 27 3 none 0 c 0 0 Try.underlying27
    go_enter Try.func36, Try.ntmps36
    go_wp2_with fail
    go_ret
    exact ⟨_, _, rfl, Own.nil _ _, Below.refl _ _⟩
  | some ad =>
    clear hi
    have hnil := fun W => Lib.run_eql_slice_nil (P := Try.prog) W 27 3 (some ad) l.length c 0 0 Try.underlying27
    go_enter Try.func36, Try.ntmps36
    go_wp2_with (at_builtin; go_must (refine wpList_addI rfl _ _ rfl w.heap.size _ [] rfl (Own.empty _ _ (Nat.le_refl _)) w.heap.size _ l rfl (HV.out.below ((Below.refl _ _).alloc (Nat.le_refl _) _) (Nat.le_refl _)) (by simp; omega) (by simp) w.heap.size w ((Below.refl _ w).alloc (Nat.le_refl _) _) (Nat.le_refl _) ?_))
    intro A' c' w' ho hg _
    have HO := Lib.hid (show OwnI w' w.heap.size (.slice A' l.length c') l from ho.out)
    have HG := Lib.hid hg.out
    go_wp2_with fail
    go_ret
    exact ⟨A', c', rfl, HO.out, HG.out⟩

set_option maxRecDepth 100000 in
/-- a store below the base leaves what is owned -/
theorem Own.off {α : Type} {enc : α → List Value} {k : Nat} {e : TypeId} {w : World} {base : Nat} {v : Value} {l : List α} (h : Own enc k e w base v l) {p : Addr} (hp : p.block < base) (u : Value) : Own enc k e (w.setCell p u) base v l := by
  refine ⟨h.1, ?_⟩
  rcases h.2 with h2 | ⟨g', cap, cur, hv, hb, hh, r⟩
  · exact .inl h2
  · exact .inr ⟨g', cap, cur, hv, hb, (Below.heap_setCell w p u g' (by omega)).trans hh, r⟩

set_option maxHeartbeats 2000000 in
set_option maxRecDepth 100000 in
theorem own_any (s : Sta) (v : Value) (w : World) (hv : RdI w w.heap.size v s.chests) (hl : s.chests.length ≤ 17592186043904) :
    Calls Try.prog 25 #[sval s v] w fun e w' => ∃ A c, e = .returned (sval s (.slice A s.chests.length c)) ∧ OwnI w' w.heap.size (.slice A s.chests.length c) s.chests ∧ Below w.heap.size w w' := by
  obtain ⟨A0, c0, rfl, _, _⟩ := hv.at
  obtain ⟨g, ep, rc, ch⟩ := s
  unfold sval
  simp only at hv hl ⊢
  obtain ⟨w1, hw1⟩ : ∃ w1, w1 = w.alloc (.cells #[.int .i64 g, .int .i64 ep, .int .i64 rc, .slice A0 ch.length c0] 29) := ⟨_, rfl⟩
  obtain ⟨w2, hw2⟩ : ∃ w2, w2 = w1.alloc (.cells #[.int .i64 0, .int .i64 0, .int .i64 0, .slice none 0 0] 29) := ⟨_, rfl⟩
  have hs1 : w1.heap.size = w.heap.size + 1 := by rw [hw1]; simp
  have hs2 : w2.heap.size = w.heap.size + 1 + 1 := by rw [hw2, World.size_alloc, hs1]
  have hX : Whole w2 w.heap.size 29 [.int .i64 g, .int .i64 ep, .int .i64 rc, .slice A0 ch.length c0] := by rw [hw2, hw1]; exact (Whole.fresh w _ [_, _, _, _]).alloc _
  have hY : Whole w2 (w.heap.size + 1) 29 [.int .i64 0, .int .i64 0, .int .i64 0, .slice none 0 0] := by rw [hw2, ← hs1]; exact Whole.fresh w1 _ [_, _, _, _]
  have hb2 : Below w.heap.size w w2 := by rw [hw2, hw1]; exact ((Below.refl _ w).alloc (Nat.le_refl _) _).alloc (by simp) _
  have HC := Lib.hid (cloneI_any ch _ w2 (hv.next hb2) hl)
  have x3 := hX.cell 3 _ rfl
  have HX := Lib.hid hX
  have HY := Lib.hid hY
  have HB2 := Lib.hid hb2
  have HS2 := Lib.hid hs2
  clear hX hY hb2 hs2 hv hs1
  go_enter Try.func25, Try.ntmps25
  go_wp2_with fail
  rw [← hw1, ← hw2]
  clear hw1 hw2
  refine HC.out.mono ?_
  rintro e w3 ⟨A, c, rfl, ho, hb3⟩
  have hs2 := HS2.out
  have hX3 := HX.out.below hb3 (by omega)
  have hY3 := HY.out.below hb3 (by omega)
  have HB3 := Lib.hid (HB2.out.trans (hb3.mono (by omega)))
  have HO := Lib.hid ho
  have y0 := hX3.cell 0 _ rfl
  have y1 := hX3.cell 1 _ rfl
  have y2 := hX3.cell 2 _ rfl
  have y3 := hX3.cell 3 _ rfl
  have k3 := hX3.frozen 3
  have z0 := hY3.cell 0 _ rfl
  have z1 := hY3.cell 1 _ rfl
  have z2 := hY3.cell 2 _ rfl
  have z3 := hY3.cell 3 _ rfl
  have f0 := hY3.frozen 0
  have f1 := hY3.frozen 1
  have f2 := hY3.frozen 2
  have f3 := hY3.frozen 3
  have HY3 := Lib.hid hY3
  clear hX3 hY3 ho hb3 x3 hs2
  go_wp2_with fail
  have hZ := ((((HY3.out.away (p := ⟨w.heap.size, 3, none⟩) (by simp) (.slice A ch.length c)).put 0 (.int .i64 g)).put 1 (.int .i64 ep)).put 2 (.int .i64 rc)).put 3 (.slice A ch.length c)
  simp only [List.set] at hZ
  have R0 := hZ.cell 0 _ rfl
  have R1 := hZ.cell 1 _ rfl
  have R2 := hZ.cell 2 _ rfl
  have R3 := hZ.cell 3 _ rfl
  have hs2 := HS2.out
  have ho := ((((HO.out.off (p := ⟨w.heap.size, 3, none⟩) (by simp; omega) (.slice A ch.length c)).off (p := ⟨w.heap.size + 1, 0, none⟩) (by simp; omega) (.int .i64 g)).off (p := ⟨w.heap.size + 1, 1, none⟩) (by simp; omega) (.int .i64 ep)).off (p := ⟨w.heap.size + 1, 2, none⟩) (by simp; omega) (.int .i64 rc)).off (p := ⟨w.heap.size + 1, 3, none⟩) (by simp; omega) (.slice A ch.length c)
  have ho2 := ho.lower (base' := w.heap.size) (by omega)
  exact bodyPost_ret (v := .agg #[.int .i64 g, .int .i64 ep, .int .i64 rc, .slice A ch.length c]) (by simp [results, Try.results25, go_sem, R0, R1, R2, R3]) rfl ⟨A, c, rfl, ho2, by (repeat (refine Below.setCell ?_ (by simp; try omega) _)); exact HB3.out⟩
end Go.Proofs.Ytjmojlhebjbgaaa

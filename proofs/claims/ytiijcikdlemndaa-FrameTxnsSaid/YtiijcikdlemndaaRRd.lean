/- The reference's reader: numbers, texts, changes. -/
import Derived.Test.YtiijcikdlemndaaRSnd
namespace Go.Proofs.Ytiijcikdlemndaa
open Go.RowKit
attribute [local go_sem] less_eq same_eq le_eq ge_eq gt_eq

/-- a reader of the reference's at block p: what it has not read yet -/
def RR (w : World) (base p : Nat) (S : Rest) : Prop :=
  ∃ A c l, Whole w p 78 [.slice A (List.length l) c, .bool S.isNone] ∧ RdB w base (.slice A l.length c) l ∧ base ≤ p ∧ l.length < 4611686018427387904 ∧ ∀ r, S = some r → r = l
theorem RR.size {w : World} {base p : Nat} {S : Rest} (h : RR w base p S) : p < w.heap.size := by obtain ⟨_, _, _, h, _⟩ := h; exact h.size
theorem RR.base {w : World} {base p : Nat} {S : Rest} (h : RR w base p S) : base ≤ p := by obtain ⟨_, _, _, _, _, h, _⟩ := h; exact h
theorem RR.more {w w' : World} {base p : Nat} {S : Rest} (h : RR w base p S) (hb : Below w.heap.size w w') : RR w' base p S := by
  have hp := h.size
  obtain ⟨A, c, l, hw, hr, h1, h2, h3⟩ := h
  exact ⟨A, c, l, hw.below hb hp, hr.below hb (by omega), h1, h2, h3⟩
theorem RR.kept {w w' : World} {base p B : Nat} {S : Rest} {row : Option Nat} (h : RR w base p S) (hg : w.grownBy w' row) (hr : ∀ k, row = some k → B ≤ k) (hB : p < B) : RR w' base p S := by
  have hp := h.size
  obtain ⟨A, c, l, hw, hrd, h1, h2, h3⟩ := h
  exact ⟨A, c, l, hw.grown hg (fun e => by have := hr p e.symm; omega), hrd.below ((Below.refl base w).grown hg (by omega) fun k hk => by have := hr k hk; omega) (Nat.le_refl _), h1, h2, h3⟩
theorem RR.set {w : World} {base p : Nat} {S : Rest} (h : RR w base p S) {g : Nat} (hg : p < g) (i : Nat) (u : Value) : RR (w.setCell ⟨g, i, none⟩ u) base p S :=
  h.kept (row := some g) (B := g) (show Only g w _ from (Only.refl g w).put i u) (fun k hk => by injection hk with hk; omega) hg

set_option maxHeartbeats 2000000 in
set_option maxRecDepth 100000 in
theorem rrnum_any (S : Rest) (base p : Nat) (w : World) (hw : RR w base p S) :
    Calls Try.prog 44 #[.pointer (some ⟨p, 0, none⟩)] w fun x w' => x = .returned (.int .i64 (rdN S).1) ∧ RR w' base p (rdN S).2 ∧ Only p w w' := by
  have hw0 := hw
  obtain ⟨A, c, l, hb, hr, h1, h2, h3⟩ := hw
  have hn := rnum_any l (.slice A l.length c) w base hr h2
  have k0 := hb.cell 0 _ rfl
  have k1 := hb.cell 1 _ rfl
  have f0 := hb.frozen 0
  have f1 := hb.frozen 1
  have hbad : S = none ∨ (numAns l).2.2 ≠ 0 → rdN S = (0, none) := fun h => by
    rcases h with rfl | h
    · rfl
    · cases S with
      | none => rfl
      | some r => rw [h3 r rfl, rdN, if_neg h]
  have hgood : S ≠ none → (numAns l).2.2 = 0 → rdN S = (((numAns l).1 : Int), some (l.drop (numAns l).2.1)) := fun h h0 => by
    cases S with
    | none => exact absurd rfl h
    | some r => rw [h3 r rfl, rdN, if_pos h0]
  have hused := fun h => numAns_used (l := l) h
  have HP1 := Lib.hid (show ∀ v, Only p w (w.setCell ⟨p, 1, none⟩ v) from fun v => (Only.refl p w).put 1 v)
  have HP0 := Lib.hid (show ∀ v, Only p w (w.setCell ⟨p, 0, none⟩ v) from fun v => (Only.refl p w).put 0 v)
  have HW0 := Lib.hid (hb.put 1 (.bool true))
  have HV := Lib.hid hr
  have HWB := Lib.hid hb
  have HLB := Lib.hid (show ∀ i v, Below base w (w.setCell ⟨p, i, none⟩ v) from fun i v => (Below.refl _ _).setCell h1 v)
  have hi0 := hr.at
  generalize numAns l = x at hn hbad hgood hused
  obtain ⟨n, u, e⟩ := x
  simp only [numVal] at hn
  simp only at hbad hgood hused
  clear hb hr
  by_cases he : e = 0
  · subst he
    obtain ⟨hu1, hu⟩ := hused rfl
    cases S with
    | none =>
      rw [hbad (.inl rfl)]
      simp only [Option.isNone_none] at k1 HWB
      have HN := Lib.hid hn
      clear hn hbad hgood hi0 hw0 hused
      go_enter Try.func44, Try.ntmps44
      go_wp2_with fail
      refine HN.out.mono ?_
      rintro x w1 ⟨rfl, rfl⟩
      go_wp2_with fail
      go_ret
      exact ⟨rfl, ⟨A, c, l, HW0.out, HV.out.below (HLB.out 1 _) (Nat.le_refl _), h1, h2, fun r hr => by cases hr⟩, HP1.out _⟩
    | some r0 =>
      rw [hgood (by simp) rfl]
      obtain ⟨A0, c0, hv0, hc0, hi0⟩ := hi0
      simp only [Value.slice.injEq, true_and] at hv0
      obtain ⟨rfl, rfl⟩ := hv0
      obtain ⟨b, o, hA⟩ : ∃ b o, A = some ⟨b, o, none⟩ := by obtain ⟨b, o, h, _⟩ := hi0 0 (by omega); exact ⟨b, o, h⟩
      subst hA
      simp only [Option.isNone_some] at k1 HWB
      have hdl : (l.drop u).length = l.length - u := by simp
      have hrd2 : ∀ A', (0 < l.length - u → A' = some ⟨b, o + u, none⟩) → RdB w base (.slice A' (l.drop u).length (c - u)) (l.drop u) := fun A' hA => by
        have := HV.out.window u (l.length - u) (by omega) (c - u) (by omega) A' hA
        rwa [List.take_of_length_le (by rw [hdl]; exact Nat.le_refl _), ← hdl] at this
      have HN := Lib.hid hn
      have HRD := Lib.hid hrd2
      have HDL := Lib.hid hdl
      have hcu : (u : Int) ≤ (c : Int) := by omega
      clear hn hbad hgood hi0 hrd2 hdl hused hw0 h3
      by_cases hcz : c = u
      · subst hcz
        go_enter Try.func44, Try.ntmps44
        go_wp2_with fail
        refine HN.out.mono ?_
        rintro x w1 ⟨rfl, rfl⟩
        go_wp2_with fail
        go_ret
        have e0 : l.length - c = 0 := by omega
        have hl0 : (l.drop c).length = l.length - c := HDL.out
        have h0 := HRD.out (some ⟨b, o, none⟩) (fun h => by omega)
        refine ⟨rfl, ⟨some ⟨b, o, none⟩, c - c, l.drop c, ?_, h0.below (HLB.out 0 _) (Nat.le_refl _), h1, by rw [hl0]; omega, fun r hr => by injection hr with hr; exact hr.symm⟩, HP0.out _⟩
        have := HWB.out.put 0 (.slice (some ⟨b, o, none⟩) 0 0)
        simpa [hl0, e0] using this
      · go_enter Try.func44, Try.ntmps44
        go_wp2_with fail
        refine HN.out.mono ?_
        rintro x w1 ⟨rfl, rfl⟩
        go_wp2_with fail
        go_ret
        have hl0 : (l.drop u).length = l.length - u := HDL.out
        have h0 := HRD.out (some ⟨b, o + u, none⟩) (fun _ => rfl)
        refine ⟨rfl, ⟨some ⟨b, o + u, none⟩, c - u, l.drop u, ?_, h0.below (HLB.out 0 _) (Nat.le_refl _), h1, by rw [hl0]; omega, fun r hr => by injection hr with hr; exact hr.symm⟩, HP0.out _⟩
        have := HWB.out.put 0 (.slice (some ⟨b, o + u, none⟩) (l.length - u) (c - u))
        simpa [hl0] using this
  · rw [hbad (.inr he)]
    have he2 : ¬ ((e : Int) = 0) := by omega
    have HN := Lib.hid hn
    clear hn hbad hgood hi0 hused hw0 h3
    go_enter Try.func44, Try.ntmps44
    go_wp2_with fail
    refine HN.out.mono ?_
    rintro x w1 ⟨rfl, rfl⟩
    go_wp2_with fail
    go_ret
    exact ⟨rfl, ⟨A, c, l, HW0.out, HV.out.below (HLB.out 1 _) (Nat.le_refl _), h1, h2, fun r hr => by cases hr⟩, HP1.out _⟩

set_option maxHeartbeats 2000000 in
set_option maxRecDepth 100000 in
theorem rrtext_any (S : Rest) (base p : Nat) (w : World) (hw : RR w base p S) :
    Calls Try.prog 45 #[.pointer (some ⟨p, 0, none⟩)] w fun x w' => x = .returned (.string (strB (rdT S).1)) ∧ RR w' base p (rdT S).2 ∧ Only p w w' := by
  have hw0 := hw
  obtain ⟨A, c, l, hb, hr, h1, h2, h3⟩ := hw
  have hn := rtext_any l (.slice A l.length c) w base hr h2
  have k0 := hb.cell 0 _ rfl
  have k1 := hb.cell 1 _ rfl
  have f0 := hb.frozen 0
  have f1 := hb.frozen 1
  have hbad : S = none ∨ (textAns l).2.2 ≠ 0 → rdT S = ([], none) := fun h => by
    rcases h with rfl | h
    · rfl
    · cases S with
      | none => rfl
      | some r => rw [h3 r rfl, rdT, if_neg h]
  have hgood : S ≠ none → (textAns l).2.2 = 0 → rdT S = ((textAns l).1, some (l.drop (textAns l).2.1)) := fun h h0 => by
    cases S with
    | none => exact absurd rfl h
    | some r => rw [h3 r rfl, rdT, if_pos h0]
  have hused := fun h => textAns_used (l := l) h
  have HP1 := Lib.hid (show ∀ v, Only p w (w.setCell ⟨p, 1, none⟩ v) from fun v => (Only.refl p w).put 1 v)
  have HP0 := Lib.hid (show ∀ v, Only p w (w.setCell ⟨p, 0, none⟩ v) from fun v => (Only.refl p w).put 0 v)
  have HW0 := Lib.hid (hb.put 1 (.bool true))
  have HV := Lib.hid hr
  have HWB := Lib.hid hb
  have HLB := Lib.hid (show ∀ i v, Below base w (w.setCell ⟨p, i, none⟩ v) from fun i v => (Below.refl _ _).setCell h1 v)
  have hi0 := hr.at
  generalize textAns l = x at hn hbad hgood hused
  obtain ⟨n, u, e⟩ := x
  simp only [textVal] at hn
  simp only at hbad hgood hused
  clear hb hr
  by_cases he : e = 0
  · subst he
    obtain ⟨hu1, hu⟩ := hused rfl
    cases S with
    | none =>
      rw [hbad (.inl rfl)]
      simp only [Option.isNone_none] at k1 HWB
      have HN := Lib.hid hn
      clear hn hbad hgood hi0 hw0 hused
      go_enter Try.func45, Try.ntmps45
      go_wp2_with fail
      refine HN.out.mono ?_
      rintro x w1 ⟨rfl, rfl⟩
      go_wp2_with fail
      go_ret
      exact ⟨rfl, ⟨A, c, l, HW0.out, HV.out.below (HLB.out 1 _) (Nat.le_refl _), h1, h2, fun r hr => by cases hr⟩, HP1.out _⟩
    | some r0 =>
      rw [hgood (by simp) rfl]
      obtain ⟨A0, c0, hv0, hc0, hi0⟩ := hi0
      simp only [Value.slice.injEq, true_and] at hv0
      obtain ⟨rfl, rfl⟩ := hv0
      obtain ⟨b, o, hA⟩ : ∃ b o, A = some ⟨b, o, none⟩ := by obtain ⟨b, o, h, _⟩ := hi0 0 (by omega); exact ⟨b, o, h⟩
      subst hA
      simp only [Option.isNone_some] at k1 HWB
      have hdl : (l.drop u).length = l.length - u := by simp
      have hrd2 : ∀ A', (0 < l.length - u → A' = some ⟨b, o + u, none⟩) → RdB w base (.slice A' (l.drop u).length (c - u)) (l.drop u) := fun A' hA => by
        have := HV.out.window u (l.length - u) (by omega) (c - u) (by omega) A' hA
        rwa [List.take_of_length_le (by rw [hdl]; exact Nat.le_refl _), ← hdl] at this
      have HN := Lib.hid hn
      have HRD := Lib.hid hrd2
      have HDL := Lib.hid hdl
      have hcu : (u : Int) ≤ (c : Int) := by omega
      clear hn hbad hgood hi0 hrd2 hdl hused hw0 h3
      by_cases hcz : c = u
      · subst hcz
        go_enter Try.func45, Try.ntmps45
        go_wp2_with fail
        refine HN.out.mono ?_
        rintro x w1 ⟨rfl, rfl⟩
        go_wp2_with fail
        go_ret
        have e0 : l.length - c = 0 := by omega
        have hl0 : (l.drop c).length = l.length - c := HDL.out
        have h0 := HRD.out (some ⟨b, o, none⟩) (fun h => by omega)
        refine ⟨rfl, ⟨some ⟨b, o, none⟩, c - c, l.drop c, ?_, h0.below (HLB.out 0 _) (Nat.le_refl _), h1, by rw [hl0]; omega, fun r hr => by injection hr with hr; exact hr.symm⟩, HP0.out _⟩
        have := HWB.out.put 0 (.slice (some ⟨b, o, none⟩) 0 0)
        simpa [hl0, e0] using this
      · go_enter Try.func45, Try.ntmps45
        go_wp2_with fail
        refine HN.out.mono ?_
        rintro x w1 ⟨rfl, rfl⟩
        go_wp2_with fail
        go_ret
        have hl0 : (l.drop u).length = l.length - u := HDL.out
        have h0 := HRD.out (some ⟨b, o + u, none⟩) (fun _ => rfl)
        refine ⟨rfl, ⟨some ⟨b, o + u, none⟩, c - u, l.drop u, ?_, h0.below (HLB.out 0 _) (Nat.le_refl _), h1, by rw [hl0]; omega, fun r hr => by injection hr with hr; exact hr.symm⟩, HP0.out _⟩
        have := HWB.out.put 0 (.slice (some ⟨b, o + u, none⟩) (l.length - u) (c - u))
        simpa [hl0] using this
  · rw [hbad (.inr he)]
    have he2 : ¬ ((e : Int) = 0) := by omega
    have HN := Lib.hid hn
    clear hn hbad hgood hi0 hused hw0 h3
    go_enter Try.func45, Try.ntmps45
    go_wp2_with fail
    refine HN.out.mono ?_
    rintro x w1 ⟨rfl, rfl⟩
    go_wp2_with fail
    go_ret
    exact ⟨rfl, ⟨A, c, l, HW0.out, HV.out.below (HLB.out 1 _) (Nat.le_refl _), h1, h2, fun r hr => by cases hr⟩, HP1.out _⟩

theorem repS_stuck {α : Type} {one : Rest → α × Rest} (hone : ∀ S, (one S).2 ≠ none → S ≠ none) {i N : Nat} (h : i ≤ N) {S : Rest} (hs : repS one i S = none) : repS one N S = none := by
  refine Classical.byContradiction fun hn => ?_
  have := repS_add one hone i (N - i) (S := S) (by rw [show i + (N - i) = N by omega]; exact hn)
  exact this hs

set_option maxHeartbeats 4000000 in
set_option maxRecDepth 100000 in
theorem rchgs_rd (most : Nat) (hm : most ≤ 4096) (S : Rest) (base p : Nat) (w : World) (hw : RR w base p S) :
    Calls Try.prog 55 #[.pointer (some ⟨p, 0, none⟩), .int .i64 (most : Int)] w fun x w' => ∃ A c L, x = .returned (.slice A (List.length L) c) ∧ Own encC 3 89 w' w.heap.size (.slice A L.length c) L ∧ RR w' base p (rdList rdChg most S).2 ∧ Only p w w' ∧ L.length ≤ most ∧ ((rdList rdChg most S).2 ≠ none → L = (rdList rdChg most S).1) := by
  obtain ⟨i0, hi, hz0, hz1, hz2⟩ := info_parts info_chg
  have hC := rrnum_any S base p w hw
  have hlt0 := rdN_lt S
  have hpw := hw.size
  unfold rdList rdCount
  simp only
  generalize rdN S = r at hC hlt0 ⊢
  obtain ⟨n, S1⟩ := r
  simp only at hC hlt0 ⊢
  obtain ⟨N, rfl⟩ : ∃ N : Nat, n = (N : Int) := ⟨n.toNat, by omega⟩
  have HC := Lib.hid hC; clear hC hw hlt0
  obtain ⟨g, hg⟩ : ∃ g, g = w.heap.size := ⟨_, rfl⟩
  rw [← hg] at hpw ⊢
  have HG := Lib.hid hg; clear hg
  by_cases hbig : (most : Int) < (N : Int)
  · rw [if_pos hbig]
    have hS : repS rdChg (Int.toNat 0) none = none := rfl
    simp only at hS ⊢
    rw [hS]
    clear hS
    go_enter Try.func55, Try.ntmps55
    go_wp2_with fail
    refine HC.out.mono ?_
    rintro e w1 ⟨rfl, hr1, ho1⟩
    obtain ⟨A, c, l, hwh, hrd, h1, h2, h3⟩ := hr1
    have q1 := hwh.cell 1 _ rfl
    have q2 := hwh.frozen 1
    have hsz := ho1.size
    have hr2 : RR (w1.setCell ⟨p, 1, none⟩ (.bool true)) base p none := ⟨A, c, l, hwh.put 1 _, hrd.below ((Below.refl _ _).setCell h1 _) (Nat.le_refl _), h1, h2, fun r hr => by cases hr⟩
    have hwp := (hwh.put 1 (.bool true))
    have j1 := hwp.cell 1 _ rfl
    have HO2 := Lib.hid (ho1.put 1 (.bool true))
    have HR2 := Lib.hid hr2
    have HSZ := Lib.hid hsz
    clear hr2 ho1 hwh hrd h3 hwp hsz
    go_wp2_with fail
    have e1 : ∀ W : World, W.heap.size = w1.heap.size → g ≤ W.heap.size := fun W h => by rw [h, HG.out]; exact HSZ.out
    have hw0 := HR2.out.more ((Below.refl _ _).alloc (Nat.le_refl _) (.cells #[] 89))
    have hon0 := HO2.out.alloc (.cells #[] 89)
    have how0 := Own.empty (enc := encC) (k := 3) (e := 89) (w1.setCell ⟨p, 1, none⟩ (.bool true)) g (e1 _ (by simp [World.setCell]))
    rw [show (w1.setCell ⟨p, 1, none⟩ (.bool true)).heap.size = w1.heap.size by simp [World.setCell]] at how0
    have HW0 := Lib.hid hw0; clear hw0
    have HON0 := Lib.hid hon0; clear hon0
    have HOW0 := Lib.hid how0; clear how0 e1
    go_loopw [6, 7] (fun sv iv wr => iv = .int .i64 0 ∧ ∃ A c, sv = .slice A 0 c ∧ Own encC 3 89 wr g (.slice A 0 c) [] ∧ RR wr base p none ∧ Only p w wr) (fun _ _ _ => 0)
    case atStart => exact ⟨rfl, _, _, rfl, HOW0.out, HW0.out, HON0.out⟩
    case round =>
      obtain ⟨rfl, A', c', rfl, how, hrr, hon⟩ := hrel
      have r1 : wr.cell? ⟨p, 1, none⟩ = some (.bool true) := by obtain ⟨_, _, _, hw, _⟩ := hrr; exact hw.cell 1 _ rfl
      have HA := Lib.hid how; clear how
      have HB := Lib.hid hrr; clear hrr
      have HC2 := Lib.hid hon; clear hon
      have hpos : (0 : Int) < (N : Int) := by omega
      go_wp2_with fail
      go_ret
      exact ⟨A', c', [], rfl, HA.out, HB.out, HC2.out, Nat.zero_le _, fun h => absurd rfl h⟩
  · rw [if_neg hbig]
    have hN : N ≤ most := by omega
    have hbd : decide (most < N) = false := decide_eq_false (by omega)
    simp only [Int.toNat_natCast]
    have HI0 := Lib.hid hi; clear hi
    have HZ0 := Lib.hid hz0; clear hz0
    have HZ1 := Lib.hid hz1; clear hz1
    have HZ2 := Lib.hid hz2; clear hz2
    go_enter Try.func55, Try.ntmps55
    go_wp2_with fail
    refine HC.out.mono ?_
    rintro e w1 ⟨rfl, hr1, ho1⟩
    have hsz : g ≤ w1.heap.size := by rw [HG.out]; exact ho1.size
    have HR1 := Lib.hid hr1; clear hr1
    have HO1 := Lib.hid ho1; clear ho1
    go_wp2_with fail
    go_loopw [6, 7] (fun sv iv wr => ∃ (i : Nat) (A : Option Addr) (c : Nat) (L : List Chg), i ≤ N ∧ iv = .int .i64 i ∧ sv = .slice A i c ∧ L.length = i ∧ L = repL rdChg i S1 ∧ Own encC 3 89 wr g (.slice A i c) L ∧ RR wr base p (repS rdChg i S1) ∧ Only p w wr) (fun _ iv _ => N - (intOf iv).toNat)
    case atStart => exact ⟨0, _, _, [], Nat.zero_le _, rfl, rfl, rfl, rfl, Own.empty _ _ hsz, HR1.out.more ((Below.refl _ _).alloc (Nat.le_refl _) _), HO1.out.alloc _⟩
    case round =>
      obtain ⟨i, A, c, L, hil, rfl, rfl, hLl, hL, hown, hrr, honly⟩ := hrel
      have HO := Lib.hid hown; clear hown
      have HLL := Lib.hid hLl
      have HL := Lib.hid hL; clear hL
      have HON := Lib.hid honly
      have hsz2 : g ≤ wr.heap.size := by rw [HG.out]; exact honly.size
      clear honly
      have q1 : wr.cell? ⟨p, 1, none⟩ = some (.bool (repS rdChg i S1).isNone) := by obtain ⟨_, _, _, hw, _⟩ := hrr; exact hw.cell 1 _ rfl
      by_cases hlt : i < N
      · by_cases hst : repS rdChg i S1 = none
        · rw [hst] at q1 hrr
          simp only [Option.isNone_none] at q1
          have hfin : repS rdChg N S1 = none := repS_stuck (fun S => rdChg_none) hil hst
          have HFIN := Lib.hid hfin
          have HRR := Lib.hid hrr; clear hrr hst hfin
          go_wp2_with fail
          go_ret
          rw [HFIN.out]
          exact ⟨A, c, L, by rw [HLL.out]; rfl, by rw [HLL.out]; exact HO.out, HRR.out, HON.out, by rw [HLL.out]; omega, fun h => absurd rfl h⟩
        · have hsn : (repS rdChg i S1).isNone = false := by cases h : repS rdChg i S1 <;> simp_all
          rw [hsn] at q1
          have hL2 : repL rdChg (i + 1) S1 = L ++ [(rdChg (repS rdChg i S1)).1] := by rw [repL, HL.out]
          have hS2 : repS rdChg (i + 1) S1 = (rdChg (repS rdChg i S1)).2 := rfl
          generalize repS rdChg i S1 = T at hrr hL2 hS2
          have hnum := rrnum_any T base p wr hrr
          have htx := fun W h => rrtext_any (rdN T).2 base p W h
          have hty := fun W h => rrtext_any (rdT (rdN T).2).2 base p W h
          have e3 : rdChg T = (⟨(rdN T).1, strB (rdT (rdN T).2).1, strB (rdT (rdT (rdN T).2).2).1⟩, (rdT (rdT (rdN T).2).2).2) := rfl
          rw [e3] at hL2 hS2
          simp only at hL2 hS2
          clear e3
          generalize (rdN T).1 = n at hnum hL2
          generalize rdT (rdT (rdN T).2).2 = r2 at hty hL2 hS2
          generalize strB (rdT (rdN T).2).1 = x at htx hL2
          generalize (rdT (rdN T).2).2 = T2 at htx hty
          generalize (rdN T).2 = T1 at hnum htx
          generalize strB r2.1 = y at hty hL2
          generalize r2.2 = T3 at hty hS2
          have HNUM := Lib.hid hnum; clear hnum
          have HTX := Lib.hid htx; clear htx
          have HTY := Lib.hid hty; clear hty
          have HL2 := Lib.hid hL2; clear hL2
          have HS2 := Lib.hid hS2; clear hS2 hrr hsn hst
          go_wp2_with fail
          refine HNUM.out.mono ?_
          rintro e w2 ⟨rfl, hr2, ho2⟩
          have hO2 := HO.out.only ho2 hpw
          have hsz3 : g ≤ w2.heap.size := Nat.le_trans hsz2 ho2.size
          have HON2 := Lib.hid (HON.out.trans ho2); clear ho2
          obtain ⟨w3, hw3⟩ : ∃ w3, w3 = w2.alloc (.cells #[.int .i64 n, .string ⟨#[]⟩, .string ⟨#[]⟩] 89) := ⟨_, rfl⟩
          obtain ⟨G, hG⟩ : ∃ G, G = w2.heap.size := ⟨_, rfl⟩
          have hpG : p < G := by rw [hG]; exact hr2.size
          have hgG : g ≤ G := by rw [hG]; exact hsz3
          have hV3 : Whole w3 G 89 [.int .i64 n, .string ⟨#[]⟩, .string ⟨#[]⟩] := by rw [hw3, hG]; exact Whole.fresh _ _ _
          have hT3 := HTX.out w3 (by rw [hw3]; exact hr2.more ((Below.refl _ _).alloc (Nat.le_refl _) _))
          have hO3 : Own encC 3 89 w3 g (.slice A i c) L := by rw [hw3]; exact hO2.alloc _
          have HON3 := Lib.hid (show Only p w w3 by rw [hw3]; exact HON2.out.alloc _)
          have hap : Own encC 3 89 w3 g (.slice A i c) L ∧ ((Value.slice A i c).ownBlock = none ∨ ∃ k, (Value.slice A i c).ownBlock = some k ∧ k < G) := ⟨hO3, by
            cases hb : (Value.slice A i c).ownBlock with
            | none => exact .inl rfl
            | some k => exact .inr ⟨k, rfl, by rw [hG]; exact (hO2.low hb).2⟩⟩
          have HAP := Lib.hid hap.2
          have HO3 := Lib.hid hO3
          have HT3 := Lib.hid hT3
          have HV3 := Lib.hid hV3
          have HW3 := Lib.hid hw3
          have HGG := Lib.hid hG
          clear hO2 hr2 hw3 hG hV3 hT3 hO3 hap q1
          go_wp2_with fail
          rw [← HW3.out]
          rw [← HGG.out]
          refine HT3.out.mono ?_
          rintro e w4 ⟨rfl, hr4, ho4⟩
          have hV4 := HV3.out.grown (row := some p) ho4 (fun e => by injection e with e; omega)
          have hO4 := HO3.out.only ho4 hpw
          have HON4 := Lib.hid (HON3.out.trans ho4); clear ho4
          have k4 := hV4.cell 1 _ rfl
          have f4 := hV4.frozen 1
          have HV4 := Lib.hid (hV4.put 1 (.string x))
          have hne : (Value.slice A i c).ownBlock = none ∨ (Value.slice A i c).ownBlock ≠ some G := by
            rcases HAP.out with h | ⟨k, h, hk⟩
            · exact .inl h
            · exact .inr fun e => by rw [h] at e; injection e with e; omega
          have HNE := Lib.hid hne; clear hne
          have HO5 := Lib.hid (hO4.kept (row := some G) (show Only G w4 (w4.setCell ⟨G, 1, none⟩ (.string x)) from (Only.refl G w4).put 1 _) HNE.out)
          have HT5 := Lib.hid (HTY.out _ (hr4.set hpG 1 (.string x)))
          have hGw : w.heap.size ≤ G := by rw [← HG.out]; exact hgG
          have HON5 := Lib.hid (HON4.out.fresh hGw 1 (.string x))
          clear hV4 hO4 hr4
          go_wp2_with fail
          refine HT5.out.mono ?_
          rintro e w6 ⟨rfl, hr6, ho6⟩
          have hV6 := HV4.out.grown (row := some p) ho6 (fun e => by injection e with e; omega)
          have hO6 := HO5.out.only ho6 hpw
          have HON6 := Lib.hid (HON5.out.trans ho6); clear ho6
          have k6 := hV6.cell 2 _ rfl
          have f6 := hV6.frozen 2
          have hV7 := hV6.put 2 (.string y)
          have j0 := hV7.cell 0 _ rfl
          have j1 := hV7.cell 1 _ rfl
          have j2 := hV7.cell 2 _ rfl
          have HO7 := Lib.hid (hO6.kept (row := some G) (show Only G w6 (w6.setCell ⟨G, 2, none⟩ (.string y)) from (Only.refl G w6).put 2 _) HNE.out)
          have HR7 := Lib.hid (hr6.set hpG 2 (.string y))
          have HON7 := Lib.hid (HON6.out.fresh hGw 2 (.string y))
          have hsz7 : g ≤ (w6.setCell ⟨G, 2, none⟩ (.string y)).heap.size := by have := HON7.out.size; rw [HG.out]; exact this
          clear hV6 hV7 hO6 hr6 k4 f4
          go_wp2_with (at_builtin; go_must (refine wpList_addG rfl 34 89 40 i0 _ Try.underlying34 HI0.out HZ0.out HZ1.out HZ2.out rfl (by decide) encC_len encC_one _ _ rfl g (.slice A i c) L rfl ?c0 (w6.heap.size + 1) _ [⟨n, x, y⟩] rfl ?c1 (by simp only [List.length_cons, List.length_nil]; unfold maxLen; omega) (by simp only [List.length_cons, List.length_nil]; omega) ?c2 ?_))
          case c0 => exact HO7.out.alloc _
          case c1 =>
            have h := Whole.rd (enc := encC) (k := 3) encC_len (l := [⟨n, x, y⟩]) (Whole.fresh (w6.setCell ⟨G, 2, none⟩ (.string y)) 89 (flatG encC [⟨n, x, y⟩]))
            rw [show (w6.setCell ⟨G, 2, none⟩ (.string y)).heap.size = w6.heap.size by simp [World.setCell]] at h
            exact h
          case c2 => rw [World.size_alloc]; omega
          intro A3 c3 w8 ho8 hg8
          have hob := fun k hk => (HO7.out.low (i := k) hk).1
          have HR8 := Lib.hid ((HR7.out.more ((Below.refl _ _).alloc (Nat.le_refl _) (.cells (flatG encC [⟨n, x, y⟩]).toArray 89))).kept (B := g) hg8.out hob hpw)
          have HON8 := Lib.hid (show Only p w w8 from by
            have h1 := HON7.out.alloc (.cells (flatG encC [⟨n, x, y⟩]).toArray 89)
            have h2 := hg8.out
            refine ⟨h2.os.trans h1.os, h2.tape.trans h1.tape, h2.output.trans h1.output, Nat.le_trans h1.size h2.size, fun j hj hne => ?_⟩
            refine (h2.block j (Nat.lt_of_lt_of_le hj h1.size) fun e => ?_).trans (h1.block j hj hne)
            have := hob j e.symm
            rw [HG.out] at this
            omega)
          clear hob hg8 hLl
          go_wp2_with fail
          go_roundw
          case rel => exact ⟨i + 1, A3, c3, L ++ [⟨n, x, y⟩], by omega, by go_num, rfl, by rw [List.length_append, HLL.out]; rfl, by rw [HL2.out], ho8.out, by rw [HS2.out]; exact HR8.out, HON8.out⟩
          case measure => simp [intOf]; omega
      · obtain rfl : i = N := by omega
        have HRR := Lib.hid hrr; clear hrr hLl
        generalize (repS rdChg i S1).isNone = bb at q1
        go_wp2_with fail
        go_ret
        exact ⟨A, c, L, by rw [HLL.out]; rfl, by rw [HLL.out]; exact HO.out, HRR.out, HON.out, by rw [HLL.out]; omega, fun _ => HL.out⟩
end Go.Proofs.Ytiijcikdlemndaa

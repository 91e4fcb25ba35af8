/- The frame layer's reader: what its calls leave. -/
import Derived.Test.YtiijcikdlemndaaFWc
import Derived.Test.YtiijcikdlemndaaRd3
namespace Go.Proofs.Ytiijcikdlemndaa
open Go.RowKit

/-- of what stood only block p has turned -/
def Only (p : Nat) (w w' : World) : Prop := w.grownBy w' (some p)
theorem Only.refl (p : Nat) (w : World) : Only p w w := World.grownBy.refl _ _
theorem Only.trans {p : Nat} {a b c : World} (h : Only p a b) (k : Only p b c) : Only p a c := World.grownBy.trans h k
theorem Only.size {p : Nat} {a b : World} (h : Only p a b) : a.heap.size ≤ b.heap.size := World.grownBy.size h
theorem Only.put {p : Nat} {a w : World} (h : Only p a w) (i : Nat) (u : Value) : Only p a (w.setCell ⟨p, i, none⟩ u) :=
  World.grownBy.trans h ⟨rfl, rfl, rfl, by simp [World.setCell], fun j _ hne => Below.heap_setCell w ⟨p, i, none⟩ u j (fun e => hne (by rw [e]))⟩
theorem Only.fresh {p : Nat} {a w : World} (h : Only p a w) {g : Nat} (hg : a.heap.size ≤ g) (i : Nat) (u : Value) : Only p a (w.setCell ⟨g, i, none⟩ u) :=
  ⟨h.os, h.tape, h.output, by have := h.size; simpa [World.setCell] using this, fun j hj hne => (Below.heap_setCell w ⟨g, i, none⟩ u j (by show j ≠ g; omega)).trans (h.block j hj hne)⟩
theorem Only.below {p : Nat} {a w w' : World} (h : Only p a w) (hb : Below w.heap.size w w') : Only p a w' :=
  World.grownBy.trans h ⟨hb.os, hb.tape, hb.output, hb.size, fun j hj _ => hb.block j hj⟩
theorem Only.alloc {p : Nat} {a w : World} (h : Only p a w) (o : Obj) : Only p a (w.alloc o) := h.below ((Below.refl _ _).alloc (Nat.le_refl _) o)
theorem Only.drew {p : Nat} {a w : World} (h : Only p a w) : Only p a w.drew := ⟨h.os, h.tape, h.output, h.size, h.block⟩
theorem Only.low {p B : Nat} {a w : World} (h : Only p a w) (hB : B ≤ p) (hs : B ≤ a.heap.size) : Below B a w := (Below.refl _ _).grown (row := some p) h hs fun k hk => by injection hk with hk; omega

/-- a reader of the frame layer at block p: what it has not read yet -/
def FR (w : World) (base p : Nat) (S : Rest) : Prop :=
  ∃ A c, Whole w p 104 [.slice A (S.getD []).length c, .bool S.isNone] ∧ RdB w base (.slice A (S.getD []).length c) (S.getD []) ∧ base ≤ p ∧ (S.getD []).length < 4611686018427387904
theorem FR.size {w : World} {base p : Nat} {S : Rest} (h : FR w base p S) : p < w.heap.size := by obtain ⟨_, _, h, _⟩ := h; exact h.size
theorem FR.base {w : World} {base p : Nat} {S : Rest} (h : FR w base p S) : base ≤ p := by obtain ⟨_, _, _, _, h, _⟩ := h; exact h
theorem FR.more {w w' : World} {base p : Nat} {S : Rest} (h : FR w base p S) (hb : Below w.heap.size w w') : FR w' base p S := by
  have hp := h.size
  obtain ⟨A, c, hw, hr, h1, h2⟩ := h
  exact ⟨A, c, hw.below hb hp, hr.below hb (by omega), h1, h2⟩
theorem FR.kept {w w' : World} {base p B : Nat} {S : Rest} {row : Option Nat} (h : FR w base p S) (hg : w.grownBy w' row) (hr : ∀ k, row = some k → B ≤ k) (hB : p < B) : FR w' base p S := by
  have hp := h.size
  obtain ⟨A, c, hw, hrd, h1, h2⟩ := h
  exact ⟨A, c, hw.grown hg (fun e => by have := hr p e.symm; omega), hrd.below ((Below.refl base w).grown hg (by omega) fun k hk => by have := hr k hk; omega) (Nat.le_refl _), h1, h2⟩

set_option maxHeartbeats 1000000 in
set_option maxRecDepth 100000 in
theorem ffrom_any (l : List UInt8) (v : Value) (w : World) (hv : RdB w w.heap.size v l) (hl : l.length < 4611686018427387904) :
    Calls Try.prog 39 #[v] w fun e w' => ∃ p, e = .returned (.pointer (some ⟨p, 0, none⟩)) ∧ FR w' w.heap.size p (some l) ∧ Below w.heap.size w w' ∧ p = w.heap.size := by
  obtain ⟨A, c, rfl, hc, _⟩ := hv.at
  have HV := Lib.hid hv; clear hv
  go_enter Try.func39, Try.ntmps39
  go_wp2_with fail
  go_ret
  have hb : ∀ o, Below w.heap.size w (w.alloc o) := fun o => (Below.refl _ _).alloc (Nat.le_refl _) o
  exact ⟨_, rfl, ⟨A, c, Whole.fresh _ _ [_, _], HV.out.below (hb _) (Nat.le_refl _), Nat.le_refl _, hl⟩, hb _, rfl⟩

set_option maxHeartbeats 1000000 in
set_option maxRecDepth 100000 in
theorem ffail_any (base p : Nat) (S : Rest) (w : World) (hw : FR w base p S) :
    Calls Try.prog 88 #[.pointer (some ⟨p, 0, none⟩)] w fun e w' => e = .returned (.tuple #[]) ∧ FR w' base p none ∧ Only p w w' := by
  obtain ⟨A, c, hb, hr, h1, h2⟩ := hw
  have k0 := hb.cell 0 _ rfl
  have k1 := hb.cell 1 _ rfl
  have f0 := hb.frozen 0
  have f1 := hb.frozen 1
  have HB := Lib.hid hb; clear hb hr
  go_enter Try.func88, Try.ntmps88
  go_wp2_with fail
  go_end0
  exact ⟨rfl, ⟨none, 0, (HB.out.put 0 _).put 1 _, Rd.nil _ _, h1, by simp⟩, ((Only.refl p w).put 0 _).put 1 _⟩

set_option maxHeartbeats 1000000 in
set_option maxRecDepth 100000 in
theorem fpass_bad (base p : Nat) (S : Rest) (used e : Int) (he : e ≠ 0) (w : World) (hw : FR w base p S) :
    Calls Try.prog 72 #[.pointer (some ⟨p, 0, none⟩), .int .i64 used, .int .i64 e] w fun x w' => x = .returned (.tuple #[]) ∧ FR w' base p none ∧ Only p w w' := by
  have HF := Lib.hid (ffail_any base p S w hw)
  clear hw
  go_enter Try.func72, Try.ntmps72
  go_wp2_with fail
  refine HF.out.mono ?_
  rintro x w1 ⟨rfl, h1, h2⟩
  have H1 := Lib.hid h1; clear h1
  have H2 := Lib.hid h2; clear h2
  go_wp2_with fail
  exact bodyPost_ret (v := .tuple #[]) (by simp [results, Try.results72, go_sem]) rfl ⟨rfl, H1.out, H2.out⟩

set_option maxHeartbeats 2000000 in
set_option maxRecDepth 100000 in
theorem fpass_ok (base p : Nat) (r : List UInt8) (used : Nat) (hu1 : 1 ≤ used) (hu : used ≤ r.length) (w : World) (hw : FR w base p (some r)) :
    Calls Try.prog 72 #[.pointer (some ⟨p, 0, none⟩), .int .i64 (used : Int), .int .i64 0] w fun x w' => x = .returned (.tuple #[]) ∧ FR w' base p (some (r.drop used)) ∧ Only p w w' := by
  obtain ⟨A, c, hb, hr, h1, h2⟩ := hw
  simp only [Option.getD_some, Option.isNone_some] at hb hr h2
  obtain ⟨A0, c0, hv0, hc0, hi0⟩ := hr.at
  simp only [Value.slice.injEq, true_and] at hv0
  obtain ⟨rfl, rfl⟩ := hv0
  obtain ⟨b, o, hA⟩ : ∃ b o, A = some ⟨b, o, none⟩ := by obtain ⟨b, o, h, _⟩ := hi0 0 (by omega); exact ⟨b, o, h⟩
  subst hA
  have hdl : (r.drop used).length = r.length - used := by simp
  have hrd2 : ∀ A', (0 < r.length - used → A' = some ⟨b, o + used, none⟩) → RdB w base (.slice A' (r.drop used).length (c - used)) (r.drop used) := fun A' hA => by
    have := hr.window used (r.length - used) (by omega) (c - used) (by omega) A' hA
    rwa [List.take_of_length_le (by rw [hdl]; exact Nat.le_refl _), ← hdl] at this
  have hkeep : ∀ u, Below base w (w.setCell ⟨p, 0, none⟩ u) := fun u => (Below.refl _ _).setCell h1 u
  have k0 := hb.cell 0 _ rfl
  have f0 := hb.frozen 0
  have hbl : (r.drop used).length < 4611686018427387904 := by omega
  have HB := Lib.hid hb
  have HRD := Lib.hid hrd2
  have HDL := Lib.hid hdl
  have HK := Lib.hid hkeep
  have HBL := Lib.hid hbl
  clear hb hrd2 hdl hi0 hr hkeep hbl
  have hcu : (used : Int) ≤ (c : Int) := by omega
  by_cases hcz : c = used
  · subst hcz
    go_enter Try.func72, Try.ntmps72
    go_wp2_with fail
    go_end0
    have e0 : r.length - c = 0 := by omega
    have hl0 : (r.drop c).length = r.length - c := HDL.out
    have h0 := HRD.out (some ⟨b, o, none⟩) (fun h => by omega)
    rw [hl0] at h0
    refine ⟨rfl, ⟨some ⟨b, o, none⟩, c - c, ?_, ?_, h1, by simpa using HBL.out⟩, (Only.refl p w).put 0 _⟩
    · simp only [Option.getD_some, Option.isNone_some, hl0]
      rw [e0]
      have := HB.out.put 0 (.slice (some ⟨b, o, none⟩) 0 0)
      simpa [e0] using this
    · simp only [Option.getD_some, hl0]
      exact h0.below (HK.out _) (Nat.le_refl _)
  · go_enter Try.func72, Try.ntmps72
    go_wp2_with fail
    go_end0
    have hl0 : (r.drop used).length = r.length - used := HDL.out
    have h0 := HRD.out (some ⟨b, o + used, none⟩) (fun _ => rfl)
    rw [hl0] at h0
    refine ⟨rfl, ⟨some ⟨b, o + used, none⟩, c - used, ?_, ?_, h1, by simpa using HBL.out⟩, (Only.refl p w).put 0 _⟩
    · simp only [Option.getD_some, Option.isNone_some, hl0]
      exact HB.out.put 0 _
    · simp only [Option.getD_some, hl0]
      exact h0.below (HK.out _) (Nat.le_refl _)

theorem numAns_used {l : List UInt8} (h : (numAns l).2.2 = 0) : 1 ≤ (numAns l).2.1 ∧ (numAns l).2.1 ≤ l.length := by
  obtain ⟨m, u, e⟩ : ∃ m u, numAns l = (m, u, 0) := ⟨_, _, Prod.ext rfl (Prod.ext rfl h)⟩
  obtain ⟨h1, h2, h3, s, h4⟩ := numAns_once e
  rw [e]
  simp only
  refine ⟨h3, ?_⟩
  rw [h4, List.length_append]; omega
theorem textAns_used {l : List UInt8} (h : (textAns l).2.2 = 0) : 1 ≤ (textAns l).2.1 ∧ (textAns l).2.1 ≤ l.length := by
  by_cases h1 : (numAns l).2.2 = 0
  · have h2 := numAns_used h1
    unfold textAns at h ⊢
    rw [if_neg (by simpa using h1)] at h ⊢
    by_cases h3 : (numAns l).1 > 65536
    · rw [if_pos h3] at h; simp at h
    · rw [if_neg h3] at h ⊢
      by_cases h4 : l.length - (numAns l).2.1 < (numAns l).1
      · rw [if_pos h4] at h; simp at h
      · rw [if_neg h4]; simp only; omega
  · unfold textAns at h
    rw [if_pos h1] at h
    exact absurd h h1
theorem textAns_bad {l : List UInt8} (h : (textAns l).2.2 ≠ 0) : (textAns l).1 = [] ∧ (textAns l).2.1 = 0 := by
  unfold textAns at h ⊢
  split
  · exact ⟨rfl, rfl⟩
  · split
    · exact ⟨rfl, rfl⟩
    · split
      · exact ⟨rfl, rfl⟩
      · rename_i h1 h2 h3
        rw [if_neg h1, if_neg h2, if_neg h3] at h
        exact absurd rfl h
theorem rdN_bad {S : Rest} (h : (numAns (S.getD [])).2.2 ≠ 0) : rdN S = (0, none) := by
  cases S with
  | none => rfl
  | some l => rw [rdN, if_neg (by simpa using h)]
theorem rdN_good {S : Rest} (h : (numAns (S.getD [])).2.2 = 0) : ∃ l, S = some l := by
  cases S with
  | none => exact absurd h (by decide)
  | some l => exact ⟨l, rfl⟩
theorem rdT_bad {S : Rest} (h : (textAns (S.getD [])).2.2 ≠ 0) : rdT S = ([], none) := by
  cases S with
  | none => rfl
  | some l => rw [rdT, if_neg (by simpa using h)]
theorem rdT_good {S : Rest} (h : (textAns (S.getD [])).2.2 = 0) : ∃ l, S = some l := by
  cases S with
  | none => exact absurd h (by decide)
  | some l => exact ⟨l, rfl⟩

set_option maxHeartbeats 2000000 in
set_option maxRecDepth 100000 in
theorem fnum_any (S : Rest) (base p : Nat) (w : World) (hw : FR w base p S) :
    Calls Try.prog 40 #[.pointer (some ⟨p, 0, none⟩)] w fun x w' => x = .returned (.int .i64 (rdN S).1) ∧ FR w' base p (rdN S).2 ∧ Only p w w' := by
  have hw0 := hw
  have hsz := hw.size
  obtain ⟨A, c, hb, hr, h1, h2⟩ := hw
  have hn := num_any (S.getD []) (.slice A (S.getD []).length c) w (hr.mono (by omega)) h2
  have k0 := hb.cell 0 _ rfl
  have hok : (numAns (S.getD [])).2.2 = 0 → ∀ w1, FR w1 base p S → Calls Try.prog 72 #[.pointer (some ⟨p, 0, none⟩), .int .i64 ((numAns (S.getD [])).2.1 : Int), .int .i64 0] w1 fun x w' => x = .returned (.tuple #[]) ∧ FR w' base p (rdN S).2 ∧ Only p w1 w' := fun h w1 hf => by
    obtain ⟨l, rfl⟩ := rdN_good h
    have hu := numAns_used h
    simp only [Option.getD_some] at h hu
    rw [rdN, if_pos h]
    exact fpass_ok base p l _ hu.1 hu.2 w1 hf
  have hbad : (numAns (S.getD [])).2.2 ≠ 0 → rdN S = (0, none) := rdN_bad
  have hval : (numAns (S.getD [])).2.2 = 0 → (rdN S).1 = ((numAns (S.getD [])).1 : Int) := fun h => by
    obtain ⟨l, rfl⟩ := rdN_good h
    simp only [Option.getD_some] at h ⊢
    rw [rdN, if_pos h]
  have herr := numAns_err (S.getD [])
  generalize numAns (S.getD []) = x at hn hok hbad hval herr
  obtain ⟨n, u, e⟩ := x
  simp only [numVal] at hn
  simp only at hok hbad hval
  have HN := Lib.hid hn; clear hn
  have HW := Lib.hid hw0; clear hw0
  generalize (S.getD []).length = len at k0 HN
  clear hb hr h2
  by_cases he : e = 0
  · subst he
    have HOK := Lib.hid (hok rfl)
    have HV := Lib.hid (hval rfl)
    clear hok hbad hval herr
    go_enter Try.func40, Try.ntmps40
    go_wp2_with fail
    refine HN.out.mono ?_
    rintro x w1 ⟨rfl, hb1⟩
    have HC := Lib.hid (HOK.out w1 (HW.out.more hb1))
    have HB1 := Lib.hid hb1; clear hb1
    go_wp2_with fail
    refine HC.out.mono ?_
    rintro x w2 ⟨rfl, hf, ho⟩
    have HF := Lib.hid hf; clear hf
    have HO := Lib.hid (show Only p w w2 from ((Only.refl p w).below HB1.out).trans ho); clear ho
    go_wp2_with fail
    go_ret
    exact ⟨by rw [HV.out]; rfl, HF.out, HO.out⟩
  · have hb0 := hbad he
    rcases herr with h | h | h
    · exact absurd h he
    all_goals
      simp only [Prod.mk.injEq] at h
      obtain ⟨rfl, rfl, rfl⟩ := h
      rw [hb0]
      clear hok hbad hval hb0
      go_enter Try.func40, Try.ntmps40
      go_wp2_with fail
      refine HN.out.mono ?_
      rintro x w1 ⟨rfl, hb1⟩
      have HC := Lib.hid (fun (e : Int) (he : e ≠ 0) => fpass_bad base p S 0 e he w1 (HW.out.more hb1))
      have HB1 := Lib.hid hb1; clear hb1
      go_wp2_with fail
      refine (HC.out _ (by decide)).mono ?_
      rintro x w2 ⟨rfl, hf, ho⟩
      have HF := Lib.hid hf; clear hf
      have HO := Lib.hid (show Only p w w2 from ((Only.refl p w).below HB1.out).trans ho); clear ho
      go_wp2_with fail
      go_ret
      exact ⟨rfl, HF.out, HO.out⟩

set_option maxHeartbeats 2000000 in
set_option maxRecDepth 100000 in
theorem ftext_any (S : Rest) (base p : Nat) (w : World) (hw : FR w base p S) :
    Calls Try.prog 41 #[.pointer (some ⟨p, 0, none⟩)] w fun x w' => x = .returned (.string (strB (rdT S).1)) ∧ FR w' base p (rdT S).2 ∧ Only p w w' := by
  have hw0 := hw
  have hsz := hw.size
  obtain ⟨A, c, hb, hr, h1, h2⟩ := hw
  have hn := text_any (S.getD []) (.slice A (S.getD []).length c) w (hr.mono (by omega)) h2
  have k0 := hb.cell 0 _ rfl
  have hok : (textAns (S.getD [])).2.2 = 0 → ∀ w1, FR w1 base p S → Calls Try.prog 72 #[.pointer (some ⟨p, 0, none⟩), .int .i64 ((textAns (S.getD [])).2.1 : Int), .int .i64 0] w1 fun x w' => x = .returned (.tuple #[]) ∧ FR w' base p (rdT S).2 ∧ Only p w1 w' := fun h w1 hf => by
    obtain ⟨l, rfl⟩ := rdT_good h
    have hu := textAns_used h
    simp only [Option.getD_some] at h hu
    rw [rdT, if_pos h]
    exact fpass_ok base p l _ hu.1 hu.2 w1 hf
  have hbad : (textAns (S.getD [])).2.2 ≠ 0 → rdT S = ([], none) := rdT_bad
  have hval : (textAns (S.getD [])).2.2 = 0 → (rdT S).1 = (textAns (S.getD [])).1 := fun h => by
    obtain ⟨l, rfl⟩ := rdT_good h
    simp only [Option.getD_some] at h ⊢
    rw [rdT, if_pos h]
  have herr := fun h => textAns_bad (l := S.getD []) h
  generalize textAns (S.getD []) = x at hn hok hbad hval herr
  obtain ⟨n, u, e⟩ := x
  simp only [textVal] at hn
  simp only at hok hbad hval herr
  have HN := Lib.hid hn; clear hn
  have HW := Lib.hid hw0; clear hw0
  generalize (S.getD []).length = len at k0 HN
  clear hb hr h2
  by_cases he : e = 0
  · subst he
    have HOK := Lib.hid (hok rfl)
    have HV := Lib.hid (hval rfl)
    clear hok hbad hval herr
    go_enter Try.func41, Try.ntmps41
    go_wp2_with fail
    refine HN.out.mono ?_
    rintro x w1 ⟨rfl, hb1⟩
    have HC := Lib.hid (HOK.out w1 (HW.out.more hb1))
    have HB1 := Lib.hid hb1; clear hb1
    go_wp2_with fail
    refine HC.out.mono ?_
    rintro x w2 ⟨rfl, hf, ho⟩
    have HF := Lib.hid hf; clear hf
    have HO := Lib.hid (show Only p w w2 from ((Only.refl p w).below HB1.out).trans ho); clear ho
    go_wp2_with fail
    go_ret
    exact ⟨by rw [HV.out]; rfl, HF.out, HO.out⟩
  · have hb0 := hbad he
    obtain ⟨rfl, rfl⟩ := herr he
    rw [hb0]
    have he2 : ¬ ((e : Int) = 0) := by omega
    clear hok hbad hval hb0 herr
    go_enter Try.func41, Try.ntmps41
    go_wp2_with fail
    refine HN.out.mono ?_
    rintro x w1 ⟨rfl, hb1⟩
    have HC := Lib.hid (fpass_bad base p S 0 (e : Int) he2 w1 (HW.out.more hb1))
    have HB1 := Lib.hid hb1; clear hb1
    go_wp2_with fail
    refine HC.out.mono ?_
    rintro x w2 ⟨rfl, hf, ho⟩
    have HF := Lib.hid hf; clear hf
    have HO := Lib.hid (show Only p w w2 from ((Only.refl p w).below HB1.out).trans ho); clear ho
    go_wp2_with fail
    go_ret
    exact ⟨rfl, HF.out, HO.out⟩

set_option maxHeartbeats 1000000 in
set_option maxRecDepth 100000 in
theorem fcount_any (most : Nat) (S : Rest) (base p : Nat) (w : World) (hw : FR w base p S) :
    Calls Try.prog 79 #[.pointer (some ⟨p, 0, none⟩), .int .i64 (most : Int)] w fun x w' => x = .returned (.int .i64 (rdCount most S).1) ∧ FR w' base p (rdCount most S).2 ∧ Only p w w' := by
  have HN := Lib.hid (fnum_any S base p w hw)
  unfold rdCount
  generalize rdN S = r at HN ⊢
  obtain ⟨n, S1⟩ := r
  simp only at HN ⊢
  clear hw
  by_cases hgt : n > (most : Int)
  · rw [if_pos hgt]
    go_enter Try.func79, Try.ntmps79
    go_wp2_with fail
    refine HN.out.mono ?_
    rintro x w1 ⟨rfl, hf, ho⟩
    have HC := Lib.hid (ffail_any base p S1 w1 hf)
    have HO := Lib.hid ho; clear hf ho
    go_wp2_with fail
    refine HC.out.mono ?_
    rintro x w2 ⟨rfl, hf, ho⟩
    have HF := Lib.hid hf; clear hf
    have HO2 := Lib.hid (show Only p w w2 from HO.out.trans ho); clear ho
    go_wp2_with fail
    go_ret
    exact ⟨rfl, HF.out, HO2.out⟩
  · rw [if_neg hgt]
    go_enter Try.func79, Try.ntmps79
    go_wp2_with fail
    refine HN.out.mono ?_
    rintro x w1 ⟨rfl, hf, ho⟩
    have HF := Lib.hid hf; clear hf
    have HO := Lib.hid ho; clear ho
    go_wp2_with fail
    go_ret
    exact ⟨rfl, HF.out, HO.out⟩

set_option maxHeartbeats 1000000 in
set_option maxRecDepth 100000 in
theorem fwhole_any (S : Rest) (base p : Nat) (w : World) (hw : FR w base p S) :
    Calls Try.prog 42 #[.pointer (some ⟨p, 0, none⟩)] w fun x w' => x = .returned (.bool (decide (S = some []))) ∧ w' = w := by
  obtain ⟨A, c, hb, hr, h1, h2⟩ := hw
  have k0 := hb.cell 0 _ rfl
  have k1 := hb.cell 1 _ rfl
  clear hb hr
  match S with
  | none =>
    rw [decide_eq_false (by simp)]
    simp only [Option.isNone_none, Option.getD_none, List.length_nil] at k0 k1
    go_enter Try.func42, Try.ntmps42
    go_wp2_with fail
    go_ret
    exact ⟨rfl, rfl⟩
  | some [] =>
    rw [decide_eq_true rfl]
    simp only [Option.isNone_some, Option.getD_some, List.length_nil] at k0 k1
    go_enter Try.func42, Try.ntmps42
    go_wp2_with fail
    go_ret
    exact ⟨rfl, rfl⟩
  | some (a :: t) =>
    rw [decide_eq_false (by simp)]
    simp only [Option.isNone_some, Option.getD_some, List.length_cons] at k0 k1
    have hne : ¬ ((t.length : Int) + 1 = 0) := by omega
    go_enter Try.func42, Try.ntmps42
    go_wp2_with fail
    go_ret
    exact ⟨rfl, rfl⟩
end Go.Proofs.Ytiijcikdlemndaa

/- The frame layer's reader: what its calls leave. The frame layer's reader: spans, changes, and so many of them. Whether a message, a transaction, a batch, a state is sound: the program. Whether a batch, a state is sound: the program. What the arguments' forms say of numbers. Arguments of the frame laws as data: messages, transactions, batches, states. -/
import Derived.Test.YthoheikbpihflaaFad
import Derived.Test.YthoheikbpihflaaRows
import Derived.Test.YthoheikbpihflaaFaa
import Derived.Deep.Fields
import Derived.Deep.Strs
namespace Go.Proofs.Ythoheikbpihflaa
open Go.RowKit

/-- of what stood only block p has turned -/
def Only (p : Nat) (w w' : World) : Prop := w.grownBy w' (some p)
theorem Only.refl (p : Nat) (w : World) : Only p w w := World.grownBy.refl _ _
theorem Only.trans {p : Nat} {a b c : World} (h : Only p a b) (k : Only p b c) : Only p a c := World.grownBy.trans h k
theorem Only.size {p : Nat} {a b : World} (h : Only p a b) : a.heap.size ≤ b.heap.size := World.grownBy.size h
theorem Only.put {p : Nat} {a w : World} (h : Only p a w) (i : Nat) (u : Value) : Only p a (w.setCell ⟨p, i, none⟩ u) :=
  World.grownBy.trans h ⟨rfl, rfl, rfl, by simp [World.setCell], fun j _ hne => Below.heap_setCell w ⟨p, i, none⟩ u j (fun e => hne (by rw [e]))⟩
theorem Only.fresh {p : Nat} {a w : World} (h : Only p a w) {g : Nat} (hg : a.heap.size ≤ g) (i : Nat) (u : Value) : Only p a (w.setCell ⟨g, i, none⟩ u) :=
  ⟨h.os, h.tape, h.output, by have := h.size; simpa [World.setCell] using this, fun j hj hne => (Below.heap_setCell w ⟨g, i, none⟩ u j (by show j ≠ g; omega)).trans (h.block j hj hne)⟩
theorem Only.below {p : Nat} {a w w' : World} (h : Only p a w) (hb : Below w.heap.size w w') : Only p a w' :=
  World.grownBy.trans h ⟨hb.os, hb.tape, hb.output, hb.size, fun j hj _ => hb.block j hj⟩
theorem Only.alloc {p : Nat} {a w : World} (h : Only p a w) (o : Obj) : Only p a (w.alloc o) := h.below ((Below.refl _ _).alloc (Nat.le_refl _) o)
theorem Only.drew {p : Nat} {a w : World} (h : Only p a w) : Only p a w.drew := ⟨h.os, h.tape, h.output, h.size, h.block⟩
theorem Only.low {p B : Nat} {a w : World} (h : Only p a w) (hB : B ≤ p) (hs : B ≤ a.heap.size) : Below B a w := (Below.refl _ _).grown (row := some p) h hs fun k hk => by injection hk with hk; omega

/-- a reader of the frame layer at block p: what it has not read yet -/
def FR (w : World) (base p : Nat) (S : Rest) : Prop :=
  ∃ A c, Whole w p 122 [.slice A (S.getD []).length c, .bool S.isNone] ∧ RdB w base (.slice A (S.getD []).length c) (S.getD []) ∧ base ≤ p ∧ (S.getD []).length < 4611686018427387904
theorem FR.size {w : World} {base p : Nat} {S : Rest} (h : FR w base p S) : p < w.heap.size := by obtain ⟨_, _, h, _⟩ := h; exact h.size
theorem FR.base {w : World} {base p : Nat} {S : Rest} (h : FR w base p S) : base ≤ p := by obtain ⟨_, _, _, _, h, _⟩ := h; exact h
theorem FR.more {w w' : World} {base p : Nat} {S : Rest} (h : FR w base p S) (hb : Below w.heap.size w w') : FR w' base p S := by
  have hp := h.size
  obtain ⟨A, c, hw, hr, h1, h2⟩ := h
  exact ⟨A, c, hw.below hb hp, hr.below hb (by omega), h1, h2⟩
theorem FR.kept {w w' : World} {base p B : Nat} {S : Rest} {row : Option Nat} (h : FR w base p S) (hg : w.grownBy w' row) (hr : ∀ k, row = some k → B ≤ k) (hB : p < B) : FR w' base p S := by
  have hp := h.size
  obtain ⟨A, c, hw, hrd, h1, h2⟩ := h
  exact ⟨A, c, hw.grown hg (fun e => by have := hr p e.symm; omega), hrd.below ((Below.refl base w).grown hg (by omega) fun k hk => by have := hr k hk; omega) (Nat.le_refl _), h1, h2⟩

set_option maxHeartbeats 1000000 in
set_option maxRecDepth 100000 in
theorem ffrom_any (l : List UInt8) (v : Value) (w : World) (hv : RdB w w.heap.size v l) (hl : l.length < 4611686018427387904) :
    Calls Try.prog 49 #[v] w fun e w' => ∃ p, e = .returned (.pointer (some ⟨p, 0, none⟩)) ∧ FR w' w.heap.size p (some l) ∧ Below w.heap.size w w' ∧ p = w.heap.size := by
  obtain ⟨A, c, rfl, hc, _⟩ := hv.at
  have HV := Lib.hid hv; clear hv
  go_enter Try.func49, Try.ntmps49
  go_wp2_with fail
  go_ret
  have hb : ∀ o, Below w.heap.size w (w.alloc o) := fun o => (Below.refl _ _).alloc (Nat.le_refl _) o
  exact ⟨_, rfl, ⟨A, c, Whole.fresh _ _ [_, _], HV.out.below (hb _) (Nat.le_refl _), Nat.le_refl _, hl⟩, hb _, rfl⟩

set_option maxHeartbeats 1000000 in
set_option maxRecDepth 100000 in
theorem ffail_any (base p : Nat) (S : Rest) (w : World) (hw : FR w base p S) :
    Calls Try.prog 72 #[.pointer (some ⟨p, 0, none⟩)] w fun e w' => e = .returned (.tuple #[]) ∧ FR w' base p none ∧ Only p w w' := by
  obtain ⟨A, c, hb, hr, h1, h2⟩ := hw
  have k0 := hb.cell 0 _ rfl
  have k1 := hb.cell 1 _ rfl
  have f0 := hb.frozen 0
  have f1 := hb.frozen 1
  have HB := Lib.hid hb; clear hb hr
  go_enter Try.func72, Try.ntmps72
  go_wp2_with fail
  go_end0
  exact ⟨rfl, ⟨none, 0, (HB.out.put 0 _).put 1 _, Rd.nil _ _, h1, by simp⟩, ((Only.refl p w).put 0 _).put 1 _⟩

set_option maxHeartbeats 1000000 in
set_option maxRecDepth 100000 in
theorem fpass_bad (base p : Nat) (S : Rest) (used e : Int) (he : e ≠ 0) (w : World) (hw : FR w base p S) :
    Calls Try.prog 63 #[.pointer (some ⟨p, 0, none⟩), .int .i64 used, .int .i64 e] w fun x w' => x = .returned (.tuple #[]) ∧ FR w' base p none ∧ Only p w w' := by
  have HF := Lib.hid (ffail_any base p S w hw)
  clear hw
  go_enter Try.func63, Try.ntmps63
  go_wp2_with fail
  refine HF.out.mono ?_
  rintro x w1 ⟨rfl, h1, h2⟩
  have H1 := Lib.hid h1; clear h1
  have H2 := Lib.hid h2; clear h2
  go_wp2_with fail
  exact bodyPost_ret (v := .tuple #[]) (by simp [results, Try.results63, go_sem]) rfl ⟨rfl, H1.out, H2.out⟩

set_option maxHeartbeats 2000000 in
set_option maxRecDepth 100000 in
theorem fpass_ok (base p : Nat) (r : List UInt8) (used : Nat) (hu1 : 1 ≤ used) (hu : used ≤ r.length) (w : World) (hw : FR w base p (some r)) :
    Calls Try.prog 63 #[.pointer (some ⟨p, 0, none⟩), .int .i64 (used : Int), .int .i64 0] w fun x w' => x = .returned (.tuple #[]) ∧ FR w' base p (some (r.drop used)) ∧ Only p w w' := by
  obtain ⟨A, c, hb, hr, h1, h2⟩ := hw
  simp only [Option.getD_some, Option.isNone_some] at hb hr h2
  obtain ⟨A0, c0, hv0, hc0, hi0⟩ := hr.at
  simp only [Value.slice.injEq, true_and] at hv0
  obtain ⟨rfl, rfl⟩ := hv0
  obtain ⟨b, o, hA⟩ : ∃ b o, A = some ⟨b, o, none⟩ := by obtain ⟨b, o, h, _⟩ := hi0 0 (by omega); exact ⟨b, o, h⟩
  subst hA
  have hdl : (r.drop used).length = r.length - used := by simp
  have hrd2 : ∀ A', (0 < r.length - used → A' = some ⟨b, o + used, none⟩) → RdB w base (.slice A' (r.drop used).length (c - used)) (r.drop used) := fun A' hA => by
    have := hr.window used (r.length - used) (by omega) (c - used) (by omega) A' hA
    rwa [List.take_of_length_le (by rw [hdl]; exact Nat.le_refl _), ← hdl] at this
  have hkeep : ∀ u, Below base w (w.setCell ⟨p, 0, none⟩ u) := fun u => (Below.refl _ _).setCell h1 u
  have k0 := hb.cell 0 _ rfl
  have f0 := hb.frozen 0
  have hbl : (r.drop used).length < 4611686018427387904 := by omega
  have HB := Lib.hid hb
  have HRD := Lib.hid hrd2
  have HDL := Lib.hid hdl
  have HK := Lib.hid hkeep
  have HBL := Lib.hid hbl
  clear hb hrd2 hdl hi0 hr hkeep hbl
  have hcu : (used : Int) ≤ (c : Int) := by omega
  by_cases hcz : c = used
  · subst hcz
    go_enter Try.func63, Try.ntmps63
    go_wp2_with fail
    go_end0
    have e0 : r.length - c = 0 := by omega
    have hl0 : (r.drop c).length = r.length - c := HDL.out
    have h0 := HRD.out (some ⟨b, o, none⟩) (fun h => by omega)
    rw [hl0] at h0
    refine ⟨rfl, ⟨some ⟨b, o, none⟩, c - c, ?_, ?_, h1, by simpa using HBL.out⟩, (Only.refl p w).put 0 _⟩
    · simp only [Option.getD_some, Option.isNone_some, hl0]
      rw [e0]
      have := HB.out.put 0 (.slice (some ⟨b, o, none⟩) 0 0)
      simpa [e0] using this
    · simp only [Option.getD_some, hl0]
      exact h0.below (HK.out _) (Nat.le_refl _)
  · go_enter Try.func63, Try.ntmps63
    go_wp2_with fail
    go_end0
    have hl0 : (r.drop used).length = r.length - used := HDL.out
    have h0 := HRD.out (some ⟨b, o + used, none⟩) (fun _ => rfl)
    rw [hl0] at h0
    refine ⟨rfl, ⟨some ⟨b, o + used, none⟩, c - used, ?_, ?_, h1, by simpa using HBL.out⟩, (Only.refl p w).put 0 _⟩
    · simp only [Option.getD_some, Option.isNone_some, hl0]
      exact HB.out.put 0 _
    · simp only [Option.getD_some, hl0]
      exact h0.below (HK.out _) (Nat.le_refl _)

theorem numAns_used {l : List UInt8} (h : (numAns l).2.2 = 0) : 1 ≤ (numAns l).2.1 ∧ (numAns l).2.1 ≤ l.length := by
  obtain ⟨m, u, e⟩ : ∃ m u, numAns l = (m, u, 0) := ⟨_, _, Prod.ext rfl (Prod.ext rfl h)⟩
  obtain ⟨h1, h2, h3, s, h4⟩ := numAns_once e
  rw [e]
  simp only
  refine ⟨h3, ?_⟩
  rw [h4, List.length_append]; omega
theorem textAns_used {l : List UInt8} (h : (textAns l).2.2 = 0) : 1 ≤ (textAns l).2.1 ∧ (textAns l).2.1 ≤ l.length := by
  by_cases h1 : (numAns l).2.2 = 0
  · have h2 := numAns_used h1
    unfold textAns at h ⊢
    rw [if_neg (by simpa using h1)] at h ⊢
    by_cases h3 : (numAns l).1 > 65536
    · rw [if_pos h3] at h; simp at h
    · rw [if_neg h3] at h ⊢
      by_cases h4 : l.length - (numAns l).2.1 < (numAns l).1
      · rw [if_pos h4] at h; simp at h
      · rw [if_neg h4]; simp only; omega
  · unfold textAns at h
    rw [if_pos h1] at h
    exact absurd h h1
theorem textAns_bad {l : List UInt8} (h : (textAns l).2.2 ≠ 0) : (textAns l).1 = [] ∧ (textAns l).2.1 = 0 := by
  unfold textAns at h ⊢
  split
  · exact ⟨rfl, rfl⟩
  · split
    · exact ⟨rfl, rfl⟩
    · split
      · exact ⟨rfl, rfl⟩
      · rename_i h1 h2 h3
        rw [if_neg h1, if_neg h2, if_neg h3] at h
        exact absurd rfl h
theorem rdN_bad {S : Rest} (h : (numAns (S.getD [])).2.2 ≠ 0) : rdN S = (0, none) := by
  cases S with
  | none => rfl
  | some l => rw [rdN, if_neg (by simpa using h)]
theorem rdN_good {S : Rest} (h : (numAns (S.getD [])).2.2 = 0) : ∃ l, S = some l := by
  cases S with
  | none => exact absurd h (by decide)
  | some l => exact ⟨l, rfl⟩
theorem rdT_bad {S : Rest} (h : (textAns (S.getD [])).2.2 ≠ 0) : rdT S = ([], none) := by
  cases S with
  | none => rfl
  | some l => rw [rdT, if_neg (by simpa using h)]
theorem rdT_good {S : Rest} (h : (textAns (S.getD [])).2.2 = 0) : ∃ l, S = some l := by
  cases S with
  | none => exact absurd h (by decide)
  | some l => exact ⟨l, rfl⟩

set_option maxHeartbeats 2000000 in
set_option maxRecDepth 100000 in
theorem fnum_any (S : Rest) (base p : Nat) (w : World) (hw : FR w base p S) :
    Calls Try.prog 50 #[.pointer (some ⟨p, 0, none⟩)] w fun x w' => x = .returned (.int .i64 (rdN S).1) ∧ FR w' base p (rdN S).2 ∧ Only p w w' := by
  have hw0 := hw
  have hsz := hw.size
  obtain ⟨A, c, hb, hr, h1, h2⟩ := hw
  have hn := num_any (S.getD []) (.slice A (S.getD []).length c) w (hr.mono (by omega)) h2
  have k0 := hb.cell 0 _ rfl
  have hok : (numAns (S.getD [])).2.2 = 0 → ∀ w1, FR w1 base p S → Calls Try.prog 63 #[.pointer (some ⟨p, 0, none⟩), .int .i64 ((numAns (S.getD [])).2.1 : Int), .int .i64 0] w1 fun x w' => x = .returned (.tuple #[]) ∧ FR w' base p (rdN S).2 ∧ Only p w1 w' := fun h w1 hf => by
    obtain ⟨l, rfl⟩ := rdN_good h
    have hu := numAns_used h
    simp only [Option.getD_some] at h hu
    rw [rdN, if_pos h]
    exact fpass_ok base p l _ hu.1 hu.2 w1 hf
  have hbad : (numAns (S.getD [])).2.2 ≠ 0 → rdN S = (0, none) := rdN_bad
  have hval : (numAns (S.getD [])).2.2 = 0 → (rdN S).1 = ((numAns (S.getD [])).1 : Int) := fun h => by
    obtain ⟨l, rfl⟩ := rdN_good h
    simp only [Option.getD_some] at h ⊢
    rw [rdN, if_pos h]
  have herr := numAns_err (S.getD [])
  generalize numAns (S.getD []) = x at hn hok hbad hval herr
  obtain ⟨n, u, e⟩ := x
  simp only [numVal] at hn
  simp only at hok hbad hval
  have HN := Lib.hid hn; clear hn
  have HW := Lib.hid hw0; clear hw0
  generalize (S.getD []).length = len at k0 HN
  clear hb hr h2
  by_cases he : e = 0
  · subst he
    have HOK := Lib.hid (hok rfl)
    have HV := Lib.hid (hval rfl)
    clear hok hbad hval herr
    go_enter Try.func50, Try.ntmps50
    go_wp2_with fail
    refine HN.out.mono ?_
    rintro x w1 ⟨rfl, hb1⟩
    have HC := Lib.hid (HOK.out w1 (HW.out.more hb1))
    have HB1 := Lib.hid hb1; clear hb1
    go_wp2_with fail
    refine HC.out.mono ?_
    rintro x w2 ⟨rfl, hf, ho⟩
    have HF := Lib.hid hf; clear hf
    have HO := Lib.hid (show Only p w w2 from ((Only.refl p w).below HB1.out).trans ho); clear ho
    go_wp2_with fail
    go_ret
    exact ⟨by rw [HV.out]; rfl, HF.out, HO.out⟩
  · have hb0 := hbad he
    rcases herr with h | h | h
    · exact absurd h he
    all_goals
      simp only [Prod.mk.injEq] at h
      obtain ⟨rfl, rfl, rfl⟩ := h
      rw [hb0]
      clear hok hbad hval hb0
      go_enter Try.func50, Try.ntmps50
      go_wp2_with fail
      refine HN.out.mono ?_
      rintro x w1 ⟨rfl, hb1⟩
      have HC := Lib.hid (fun (e : Int) (he : e ≠ 0) => fpass_bad base p S 0 e he w1 (HW.out.more hb1))
      have HB1 := Lib.hid hb1; clear hb1
      go_wp2_with fail
      refine (HC.out _ (by decide)).mono ?_
      rintro x w2 ⟨rfl, hf, ho⟩
      have HF := Lib.hid hf; clear hf
      have HO := Lib.hid (show Only p w w2 from ((Only.refl p w).below HB1.out).trans ho); clear ho
      go_wp2_with fail
      go_ret
      exact ⟨rfl, HF.out, HO.out⟩

set_option maxHeartbeats 1000000 in
set_option maxRecDepth 100000 in
theorem fcount_any (most : Nat) (S : Rest) (base p : Nat) (w : World) (hw : FR w base p S) :
    Calls Try.prog 64 #[.pointer (some ⟨p, 0, none⟩), .int .i64 (most : Int)] w fun x w' => x = .returned (.int .i64 (rdCount most S).1) ∧ FR w' base p (rdCount most S).2 ∧ Only p w w' := by
  have HN := Lib.hid (fnum_any S base p w hw)
  unfold rdCount
  generalize rdN S = r at HN ⊢
  obtain ⟨n, S1⟩ := r
  simp only at HN ⊢
  clear hw
  by_cases hgt : n > (most : Int)
  · rw [if_pos hgt]
    go_enter Try.func64, Try.ntmps64
    go_wp2_with fail
    refine HN.out.mono ?_
    rintro x w1 ⟨rfl, hf, ho⟩
    have HC := Lib.hid (ffail_any base p S1 w1 hf)
    have HO := Lib.hid ho; clear hf ho
    go_wp2_with fail
    refine HC.out.mono ?_
    rintro x w2 ⟨rfl, hf, ho⟩
    have HF := Lib.hid hf; clear hf
    have HO2 := Lib.hid (show Only p w w2 from HO.out.trans ho); clear ho
    go_wp2_with fail
    go_ret
    exact ⟨rfl, HF.out, HO2.out⟩
  · rw [if_neg hgt]
    go_enter Try.func64, Try.ntmps64
    go_wp2_with fail
    refine HN.out.mono ?_
    rintro x w1 ⟨rfl, hf, ho⟩
    have HF := Lib.hid hf; clear hf
    have HO := Lib.hid ho; clear ho
    go_wp2_with fail
    go_ret
    exact ⟨rfl, HF.out, HO.out⟩

set_option maxHeartbeats 1000000 in
set_option maxRecDepth 100000 in
theorem fwhole_any (S : Rest) (base p : Nat) (w : World) (hw : FR w base p S) :
    Calls Try.prog 52 #[.pointer (some ⟨p, 0, none⟩)] w fun x w' => x = .returned (.bool (decide (S = some []))) ∧ w' = w := by
  obtain ⟨A, c, hb, hr, h1, h2⟩ := hw
  have k0 := hb.cell 0 _ rfl
  have k1 := hb.cell 1 _ rfl
  clear hb hr
  match S with
  | none =>
    rw [decide_eq_false (by simp)]
    simp only [Option.isNone_none, Option.getD_none, List.length_nil] at k0 k1
    go_enter Try.func52, Try.ntmps52
    go_wp2_with fail
    go_ret
    exact ⟨rfl, rfl⟩
  | some [] =>
    rw [decide_eq_true rfl]
    simp only [Option.isNone_some, Option.getD_some, List.length_nil] at k0 k1
    go_enter Try.func52, Try.ntmps52
    go_wp2_with fail
    go_ret
    exact ⟨rfl, rfl⟩
  | some (a :: t) =>
    rw [decide_eq_false (by simp)]
    simp only [Option.isNone_some, Option.getD_some, List.length_cons] at k0 k1
    have hne : ¬ ((t.length : Int) + 1 = 0) := by omega
    go_enter Try.func52, Try.ntmps52
    go_wp2_with fail
    go_ret
    exact ⟨rfl, rfl⟩
end Go.Proofs.Ythoheikbpihflaa
namespace Go.Proofs.Ythoheikbpihflaa
open Go.RowKit
attribute [local go_sem] less_eq same_eq le_eq ge_eq gt_eq

section
variable {α : Type} {enc : α → List Value} {k : Nat}
/-- append of what another slice holds; what grew is told -/
theorem wpList_addG {P : Program} {ops : Array Oper} {rest : List Oper} {o : Oper} {a : Act} {Q : Exit → Act → World → Prop} {w : World} (hgd : Region.wanted o (yielded ops a.tmps) = true) (t e : TypeId) (bytes : Nat) (i0 : TypeInfo) (z : Value) (ht : P.underlying t = some (.slice e)) (hi : P.info? e = some i0) (hz0 : i0.zero = some z) (hz1 : i0.size = k) (hz2 : i0.bytes = bytes) (hzs : z.cells.size = k) (hk0 : 0 < k)
    (hk : ∀ x, (enc x).length = k) (hone : ∀ x, ∀ u ∈ enc x, u.oneCell' = true) (s x : Operand)
    (ho : o.op = .call { callee := .builtin .append, args := #[s, x], argTypes := #[t, t] })
    (base : Nat) (v : Value) (l : List α) (hs : a.eval s = v) (hown : Own enc k e w base v l) (B : Nat) (v2 : Value) (p : List α) (hx : a.eval x = v2) (hp : Rd enc k w B v2 p)
    (h63 : l.length + p.length ≤ maxLen) (hbytes : ((l.length + p.length) + (l.length + p.length) / 4 + 192) * bytes ≤ 281474976710656) (hbase : base ≤ w.heap.size)
    (h : ∀ A' c' w', Hid (Own enc k e w' base (.slice A' (l ++ p).length c') (l ++ p)) → Hid (w.grownBy w' v.ownBlock) → wpList P ops Q rest (a.put o.dst (.slice A' (l ++ p).length c')) w') : wpList P ops Q (o :: rest) a w := by
  refine BigFrame.wpList_want hgd fun K hK => ?_
  refine wp_addAny t e bytes i0 z ht hi hz0 hz1 hz2 hzs hk0 hk hone s x ho base v l hs hown B v2 p hx hp h63 hbytes hbase fun A' c' w' h1 h2 => ?_
  exact hK _ _ (h A' c' w' (Lib.hid h1) (Lib.hid h2))
end

/-- what was owned from B on is so behind a reading whose reader lies below B -/
theorem Own.only {α : Type} {enc : α → List Value} {k : Nat} {e : TypeId} {w w' : World} {B p : Nat} {v : Value} {l : List α} (h : Own enc k e w B v l) (ho : Only p w w') (hp : p < B) : Own enc k e w' B v l := by
  refine Own.kept (row := some p) h ho ?_
  cases hb : v.ownBlock with
  | none => exact .inl rfl
  | some i => exact .inr fun e => by have := (h.low hb).1; injection e with e; omega

set_option maxHeartbeats 4000000 in
set_option maxRecDepth 100000 in
theorem fnums_rd (most : Nat) (hm : most ≤ 4096) (S : Rest) (base p : Nat) (w : World) (hw : FR w base p S) :
    Calls Try.prog 51 #[.pointer (some ⟨p, 0, none⟩), .int .i64 (most : Int), .func (.func 50) #[.pointer (some ⟨p, 0, none⟩)] #[]] w fun x w' => ∃ A c, x = .returned (.slice A (rdList rdN most S).1.length c) ∧ Own encI 1 3 w' w.heap.size (.slice A (rdList rdN most S).1.length c) (rdList rdN most S).1 ∧ FR w' base p (rdList rdN most S).2 ∧ Only p w w' := by
  obtain ⟨i0, hi, hz0, hz1, hz2⟩ := info_parts info_int
  have hC := fcount_any most S base p w hw
  have hle := rdCount_le most S
  have hpw := hw.size
  unfold rdList
  simp only
  generalize rdCount most S = r at hC hle ⊢
  obtain ⟨n, S1⟩ := r
  simp only at hC hle ⊢
  obtain ⟨N, rfl⟩ : ∃ N : Nat, n = (N : Int) := ⟨n.toNat, by omega⟩
  rw [Int.toNat_natCast]
  have hN : N ≤ most := by omega
  have HC := Lib.hid hC; clear hC hw hle
  have HI0 := Lib.hid hi; clear hi
  have HZ0 := Lib.hid hz0; clear hz0
  have HZ1 := Lib.hid hz1; clear hz1
  have HZ2 := Lib.hid hz2; clear hz2
  obtain ⟨g, hg⟩ : ∃ g, g = w.heap.size := ⟨_, rfl⟩
  rw [← hg] at hpw ⊢
  have HG := Lib.hid hg; clear hg
  go_enter Try.func51, Try.ntmps51
  go_wp2_with fail
  refine HC.out.mono ?_
  rintro e w1 ⟨rfl, hf, ho⟩
  have HF1 := Lib.hid hf; clear hf
  have HO1 := Lib.hid ho; clear ho
  go_wp2_with fail
  go_loopw [7, 11] (fun sv iv wr => ∃ (i : Nat) (A : Option Addr) (c : Nat) (L : List Int), i ≤ N ∧ iv = .int .i64 i ∧ sv = .slice A i c ∧ L.length = i ∧ L = repL rdN i S1 ∧ Own encI 1 3 wr g (.slice A i c) L ∧ FR wr base p (repS rdN i S1) ∧ Only p w wr) (fun _ iv _ => N - (intOf iv).toNat)
  case atStart => exact ⟨0, _, _, [], Nat.zero_le _, rfl, rfl, rfl, rfl, Own.nil _ _, HF1.out, HO1.out⟩
  case round =>
    obtain ⟨i, A, c, L, hil, rfl, rfl, hLl, hL, hown, hfr, honly⟩ := hrel
    have HO := Lib.hid hown; clear hown
    have HLL := Lib.hid hLl
    have HL := Lib.hid hL; clear hL
    have HON := Lib.hid honly
    have hsz : g ≤ wr.heap.size := by rw [HG.out]; exact honly.size
    clear honly
    by_cases hlt : i < N
    · have hone := fnum_any (repS rdN i S1) base p wr hfr
      have hL2 : repL rdN (i + 1) S1 = L ++ [(rdN (repS rdN i S1)).1] := by rw [repL, HL.out]
      have hS2 : repS rdN (i + 1) S1 = (rdN (repS rdN i S1)).2 := rfl
      generalize rdN (repS rdN i S1) = r at hone hL2 hS2
      obtain ⟨x, S2⟩ := r
      simp only at hone hL2 hS2
      skip
      have HONE := Lib.hid hone; clear hone
      have HL2 := Lib.hid hL2; clear hL2
      have HS2 := Lib.hid hS2; clear hS2 hfr
      go_wp2_with fail
      refine HONE.out.mono ?_
      rintro e w2 ⟨rfl, hf2, ho2⟩
      have hsz2 : g ≤ w2.heap.size := Nat.le_trans hsz ho2.size
      have HF2 := Lib.hid hf2; clear hf2
      have HO2 := Lib.hid (HO.out.only ho2 hpw)
      have HON2 := Lib.hid (HON.out.trans ho2); clear ho2
      go_wp2_with (at_builtin; go_must (refine wpList_addG rfl 33 3 8 i0 _ Try.underlying33 HI0.out HZ0.out HZ1.out HZ2.out rfl (by decide) encI_len encI_one _ _ rfl g (.slice A i c) L rfl ?c0 (w2.heap.size + 1) _ [x] rfl ?c1 (by simp only [List.length_cons, List.length_nil]; unfold maxLen; omega) (by simp only [List.length_cons, List.length_nil]; omega) ?c2 ?_))
      case c0 => exact HO2.out.alloc _
      case c1 => exact Whole.rd (enc := encI) (k := 1) encI_len (l := [x]) (Whole.fresh w2 3 (flatG encI [x]))
      case c2 => simp; omega
      intro A3 c3 w3 ho3 hg3
      have hfa := (HF2.out.more ((Below.refl _ w2).alloc (Nat.le_refl _) (.cells (flatG encI [x]).toArray 3)))
      have hob := fun k hk => (HO2.out.low (i := k) hk).1
      have HF3 := Lib.hid (hfa.kept (B := g) hg3.out hob hpw)
      have HON3 := Lib.hid (show Only p w w3 from by
        have h1 := HON2.out.alloc (.cells (flatG encI [x]).toArray 3)
        have h2 := hg3.out
        refine ⟨h2.os.trans h1.os, h2.tape.trans h1.tape, h2.output.trans h1.output, Nat.le_trans h1.size h2.size, fun j hj hne => ?_⟩
        refine (h2.block j (Nat.lt_of_lt_of_le hj h1.size) fun e => ?_).trans (h1.block j hj hne)
        have := hob j e.symm
        rw [HG.out] at this
        omega)
      clear hfa hob hg3
      clear hLl
      go_wp2_with fail
      go_roundw
      case rel => exact ⟨i + 1, A3, c3, L ++ [x], by omega, by go_num, rfl, by rw [List.length_append, HLL.out]; rfl, by rw [HL2.out], ho3.out, by rw [HS2.out]; exact HF3.out, HON3.out⟩
      case measure => simp [intOf]; omega
    · obtain rfl : i = N := by omega
      have HF := Lib.hid hfr; clear hfr hLl
      go_wp2_with fail
      go_ret
      exact ⟨A, c, by rw [← HL.out, HLL.out]; rfl, by rw [← HL.out, HLL.out]; exact HO.out, HF.out, HON.out⟩
end Go.Proofs.Ythoheikbpihflaa
namespace Go.Proofs.Ythoheikbpihflaa
open Go.RowKit
attribute [local go_sem] less_eq same_eq le_eq ge_eq gt_eq

/-- numbers laid as a literal -/
theorem RdI.lit (W : World) (l : List Int) : RdI (W.alloc (.cells (l.map (.int .i64)).toArray 3)) (W.heap.size + 1) (.slice (some ⟨W.heap.size, 0, none⟩) l.length l.length) l := by
  have h := Whole.rd (enc := encI) (k := 1) encI_len (l := l) (Whole.fresh W 3 (flatG encI l))
  have e : flatG encI l = l.map (.int .i64) := by
    induction l with
    | nil => rfl
    | cons a r ih => rw [show a :: r = [a] ++ r from rfl, flatG_append, List.map_append, ih (Whole.rd encI_len (Whole.fresh W 3 _))]; rfl
  rw [e] at h
  exact h

set_option maxHeartbeats 1000000 in
set_option maxRecDepth 100000 in
theorem from0_any (l : List Int) (v : Value) (w : World) (B : Nat) (hv : RdI w B v l) (hl : l.length < 4611686018427387904) :
    Calls Try.prog 65 #[v] w fun e w' => e = .returned (.bool (decide (∀ n ∈ l, 0 ≤ n))) ∧ w' = w := by
  obtain ⟨A, c, rfl, hc, hi⟩ := hv.at
  obtain ⟨D, hD⟩ : ∃ D, D = decide (∀ n ∈ l, 0 ≤ n) := ⟨_, rfl⟩
  rw [← hD]
  have HD := Lib.hid hD; clear hD
  have HI := Lib.hid hi; clear hi
  clear hv
  go_enter Try.func65, Try.ntmps65
  go_wp2_with fail
  go_loop [7] (fun iv => ∃ i : Nat, i ≤ l.length ∧ iv = .int .i64 i ∧ Hid (∀ n ∈ l.take i, 0 ≤ n)) (fun iv => l.length - (intOf iv).toNat)
  case atStart => exact ⟨0, Nat.zero_le _, rfl, Lib.hid (by simp)⟩
  case round =>
    obtain ⟨i, hil, rfl, HALL⟩ := hrel
    by_cases hlt : i < l.length
    · obtain ⟨b, o, rfl, hbB, h1⟩ := HI.out i hlt
      have hyes : 0 ≤ l[i] → ∀ n ∈ l.take (i + 1), 0 ≤ n := fun h n hn => by
        rw [List.take_add_one, List.getElem?_eq_getElem hlt, List.mem_append] at hn
        rcases hn with hn | hn
        · exact HALL.out n hn
        · simp only [Option.toList_some, List.mem_singleton] at hn; rw [hn]; exact h
      have hno : ¬ (0 ≤ l[i]) → D = false := fun h => by rw [HD.out]; exact decide_eq_false fun hall => h (hall _ (List.getElem_mem hlt))
      generalize l[i] = z at h1 hyes hno
      have HY := Lib.hid hyes; clear hyes
      have HN := Lib.hid hno; clear hno
      by_cases hz : z < 0
      · go_wp2_with fail
        go_ret
        exact ⟨by rw [HN.out (by omega)]; rfl, rfl⟩
      · go_wp2_with fail
        go_round
        case rel => exact ⟨i + 1, by omega, by go_num, Lib.hid (HY.out (by omega))⟩
        case measure => simp [intOf]; omega
    · have hd : D = true := by
        rw [HD.out]
        have := HALL.out
        rw [List.take_of_length_le (by omega)] at this
        exact decide_eq_true this
      have HD2 := Lib.hid hd; clear hd
      go_wp2_with fail
      go_ret
      exact ⟨by rw [HD2.out]; rfl, rfl⟩

set_option maxHeartbeats 1000000 in
set_option maxRecDepth 100000 in
theorem nodes_any (l : List Int) (v : Value) (w : World) (B : Nat) (hv : RdI w B v l) (hl : l.length < 4611686018427387904) :
    Calls Try.prog 66 #[v] w fun e w' => e = .returned (.bool (decide (∀ n ∈ l, 0 ≤ n ∧ n ≤ 255))) ∧ w' = w := by
  obtain ⟨A, c, rfl, hc, hi⟩ := hv.at
  obtain ⟨D, hD⟩ : ∃ D, D = decide (∀ n ∈ l, 0 ≤ n ∧ n ≤ 255) := ⟨_, rfl⟩
  rw [← hD]
  have HD := Lib.hid hD; clear hD
  have HI := Lib.hid hi; clear hi
  clear hv
  go_enter Try.func66, Try.ntmps66
  go_wp2_with fail
  go_loop [7] (fun iv => ∃ i : Nat, i ≤ l.length ∧ iv = .int .i64 i ∧ Hid (∀ n ∈ l.take i, 0 ≤ n ∧ n ≤ 255)) (fun iv => l.length - (intOf iv).toNat)
  case atStart => exact ⟨0, Nat.zero_le _, rfl, Lib.hid (by simp)⟩
  case round =>
    obtain ⟨i, hil, rfl, HALL⟩ := hrel
    by_cases hlt : i < l.length
    · obtain ⟨b, o, rfl, hbB, h1⟩ := HI.out i hlt
      have hyes : 0 ≤ l[i] ∧ l[i] ≤ 255 → ∀ n ∈ l.take (i + 1), 0 ≤ n ∧ n ≤ 255 := fun h n hn => by
        rw [List.take_add_one, List.getElem?_eq_getElem hlt, List.mem_append] at hn
        rcases hn with hn | hn
        · exact HALL.out n hn
        · simp only [Option.toList_some, List.mem_singleton] at hn; rw [hn]; exact h
      have hno : ¬ (0 ≤ l[i] ∧ l[i] ≤ 255) → D = false := fun h => by rw [HD.out]; exact decide_eq_false fun hall => h (hall _ (List.getElem_mem hlt))
      generalize l[i] = z at h1 hyes hno
      have HY := Lib.hid hyes; clear hyes
      have HN := Lib.hid hno; clear hno
      by_cases hz : z < 0
      · go_wp2_with fail
        go_ret
        exact ⟨by rw [HN.out (by omega)]; rfl, rfl⟩
      · by_cases hz2 : 255 < z
        · go_wp2_with fail
          go_ret
          exact ⟨by rw [HN.out (by omega)]; rfl, rfl⟩
        · go_wp2_with fail
          go_round
          case rel => exact ⟨i + 1, by omega, by go_num, Lib.hid (HY.out (by omega))⟩
          case measure => simp [intOf]; omega
    · have hd : D = true := by
        rw [HD.out]
        have := HALL.out
        rw [List.take_of_length_le (by omega)] at this
        exact decide_eq_true this
      have HD2 := Lib.hid hd; clear hd
      go_wp2_with fail
      go_ret
      exact ⟨by rw [HD2.out]; rfl, rfl⟩

/-- a message as a value -/
def mval (m : Msg) (v : Value) : Value := .agg #[.int .i64 m.kind, .int .i64 m.frm, .int .i64 m.to, .int .i64 m.epoch, .int .i64 m.a, .int .i64 m.b, .int .i64 m.c, v]

theorem allAns_mem_zero {l : List Chg} (h : ∀ c ∈ l, checkAns c = 0) : allAns l = 0 := by
  induction l with
  | nil => rfl
  | cons x r ih => rw [allAns, if_pos (h x (by simp))]; exact ih fun c hc => h c (by simp [hc])

/-- a transaction, a batch, a state as values -/
def tval (t : Txn) (v1 v2 : Value) : Value := .agg #[.int .i64 t.read, v1, v2]
def bval (x : Bat) (v : Value) : Value := .agg #[.int .i64 x.prev, .int .i64 x.version, .int .i64 x.known, v]
def sval (x : Sta) (v : Value) : Value := .agg #[.int .i64 x.gen, .int .i64 x.epoch, .int .i64 x.recd, v]
/-- lengths that a walk needs -/
def fitT (t : Txn) : Prop := t.reads.length < 4611686018427387904 ∧ (∀ s ∈ t.reads, s.1.size < 4611686018427387904 ∧ s.2.size < 4611686018427387904) ∧ t.chgs.length < 4611686018427387904 ∧ ∀ c ∈ t.chgs, smallC c

end Go.Proofs.Ythoheikbpihflaa
namespace Go.Proofs.Ythoheikbpihflaa
open Go.RowKit

/-- a cell of a block that was made and stands -/
theorem box_cell {w W : World} {cs : List Value} {t : TypeId} (h : Below (w.heap.size + 1) (w.alloc (.cells cs.toArray t)) W) (i : Nat) (v : Value) (hv : cs[i]? = some v) : W.cell? ⟨w.heap.size, i, none⟩ = some v :=
  (h.cell (p := ⟨w.heap.size, i, none⟩) (Nat.lt_succ_self _)).trans ((Whole.fresh w t cs).cell i v hv)

def fitB (x : Bat) : Prop := x.chgs.length < 4611686018427387904 ∧ ∀ c ∈ x.chgs, smallC c

set_option maxHeartbeats 2000000 in
set_option maxRecDepth 100000 in
theorem soundS_any (x : Sta) (hl : x.chests.length < 4611686018427387904) (v : Value) (w : World) (hv : RdI w w.heap.size v x.chests) :
    Calls Try.prog 53 #[sval x v] w fun e w' => e = .returned (.bool (decide (soundS x))) ∧ Below w.heap.size w w' := by
  obtain ⟨a, b, c, l⟩ := x
  obtain ⟨R, hR⟩ : ∃ R, R = decide (soundS ⟨a, b, c, l⟩) := ⟨_, rfl⟩
  rw [← hR]
  unfold soundS at hR
  unfold sval
  simp only at hR hl hv ⊢
  have hF := fun W B h => from0_any [a, b, c] (.slice (some ⟨w.heap.size + 1, 0, none⟩) 3 3) W B h (by simp)
  have hi1 := RdI.lit (w.alloc (.cells #[.int .i64 a, .int .i64 b, .int .i64 c, v] 35)) [a, b, c]
  simp only [World.size_alloc, List.map_cons, List.map_nil, List.length_cons, List.length_nil] at hi1
  have hb2 : Below w.heap.size w ((w.alloc (.cells #[.int .i64 a, .int .i64 b, .int .i64 c, v] 35)).alloc (.cells #[.int .i64 a, .int .i64 b, .int .i64 c] 3)) := ((Below.refl _ _).alloc (Nat.le_refl _) _).alloc (by simp) _
  have hA := nodes_any l v _ _ (hv.next hb2) hl
  obtain ⟨D1, hD1⟩ : ∃ D1, D1 = decide (∀ n ∈ [a, b, c], 0 ≤ n) := ⟨_, rfl⟩
  obtain ⟨D2, hD2⟩ : ∃ D2, D2 = decide (∀ n ∈ l, 0 ≤ n ∧ n ≤ 255) := ⟨_, rfl⟩
  rw [← hD1] at hF
  rw [← hD2] at hA
  have e1 : (∀ n ∈ [a, b, c], 0 ≤ n) ↔ 0 ≤ a ∧ 0 ≤ b ∧ 0 ≤ c := by simp
  have hRR : R = (D1 && (decide (l.length ≤ 16) && D2)) := by
    rw [hR, hD1, hD2, ← Bool.decide_and, ← Bool.decide_and]
    exact decide_eq_decide.2 ⟨fun h => ⟨e1.2 h.1, h.2⟩, fun h => ⟨e1.1 h.1, h.2⟩⟩
  have HF := Lib.hid (hF _ _ hi1); clear hF hi1
  have HA := Lib.hid hA; clear hA
  have HB2 := Lib.hid hb2; clear hb2
  obtain ⟨A1, c1, rfl, _, _⟩ := hv.at
  clear hR hD1 hD2 e1 hv
  have HRR := Lib.hid hRR; clear hRR
  go_enter Try.func53, Try.ntmps53
  go_wp2_with fail
  refine HF.out.mono ?_
  rintro e w1 ⟨rfl, rfl⟩
  cases D1 with
  | false =>
    go_wp2_with fail
    go_ret
    exact ⟨by rw [HRR.out]; rfl, HB2.out⟩
  | true =>
    by_cases h16 : l.length ≤ 16
    · have hr : R = D2 := by rw [HRR.out, decide_eq_true h16]; simp
      have HR2 := Lib.hid hr; clear hr
      have h16i : (l.length : Int) ≤ 16 := by omega
      go_wp2_with fail
      refine HA.out.mono ?_
      rintro e w3 ⟨rfl, rfl⟩
      cases D2 with
      | false =>
        go_wp2_with fail
        go_ret
        exact ⟨by rw [HR2.out]; rfl, HB2.out⟩
      | true =>
        go_wp2_with fail
        go_ret
        exact ⟨by rw [HR2.out]; rfl, HB2.out⟩
    · have hr : R = false := by rw [HRR.out, decide_eq_false h16]; simp
      have HR2 := Lib.hid hr; clear hr
      have h16i : ¬ (l.length : Int) ≤ 16 := by omega
      go_wp2_with fail
      go_ret
      exact ⟨by rw [HR2.out]; rfl, HB2.out⟩
end Go.Proofs.Ythoheikbpihflaa
namespace Go.Proofs.Ythoheikbpihflaa
theorem int_of_wf {i : Int} (h : (Lit.int .i64 i).wf = true) : -9223372036854775808 ≤ i ∧ i < 9223372036854775808 := by
  have h1 : IntKind.i64.min = -9223372036854775808 := rfl
  have h2 : IntKind.i64.max = 9223372036854775807 := rfl
  simp only [Lit.wf, Bool.and_eq_true, decide_eq_true_eq] at h
  omega
theorem nat_of_wfu8 {i : Int} (h : (Lit.int .u8 i).wf = true) : ∃ n : Nat, i = (n : Int) ∧ n < 256 := by
  have h1 : IntKind.u8.min = 0 := rfl
  have h2 : IntKind.u8.max = 255 := rfl
  simp only [Lit.wf, Bool.and_eq_true, decide_eq_true_eq] at h
  exact ⟨i.toNat, by omega, by omega⟩
theorem nat_of_wfu16 {i : Int} (h : (Lit.int .u16 i).wf = true) : ∃ n : Nat, i = (n : Int) ∧ n < 65536 := by
  have h1 : IntKind.u16.min = 0 := rfl
  have h2 : IntKind.u16.max = 65535 := rfl
  simp only [Lit.wf, Bool.and_eq_true, decide_eq_true_eq] at h
  exact ⟨i.toNat, by omega, by omega⟩
theorem nat_of_wfu32 {i : Int} (h : (Lit.int .u32 i).wf = true) : ∃ n : Nat, i = (n : Int) ∧ n < 2 ^ 32 := by
  have h1 : IntKind.u32.min = 0 := rfl
  have h2 : IntKind.u32.max = 4294967295 := rfl
  simp only [Lit.wf, Bool.and_eq_true, decide_eq_true_eq] at h
  exact ⟨i.toNat, by omega, by omega⟩
end Go.Proofs.Ythoheikbpihflaa
namespace Go.Proofs.Ythoheikbpihflaa
open Go.ChangeShapes Go.WideShapes Go.ChangeAt Go.RowKit Go.Joins Go.Deep

theorem array8 {α : Type} {cs : Array α} (h : cs.size = 8) : ∃ c0 c1 c2 c3 c4 c5 c6 c7, cs = #[c0, c1, c2, c3, c4, c5, c6, c7] := by
  obtain ⟨l⟩ := cs
  match l, h with
  | [c0, c1, c2, c3, c4, c5, c6, c7], _ => exact ⟨c0, c1, c2, c3, c4, c5, c6, c7, rfl⟩
section
variable {H : Type} {enc : TypeId × Value → H} {P : Program} {w : World} {base : Nat} {spare : Nat → Bool} {held : Bool}
theorem open_agg8 {r : Reach} {b0 : Nat} {t : TypeId} {f0 f1 f2 f3 f4 f5 f6 f7 : Field} {v : Value} {d : DataW H} {p : List MemPlace} (hs : P.underlying t = some (.struct #[f0, f1, f2, f3, f4, f5, f6, f7])) (hone : oneCellFields P #[f0, f1, f2, f3, f4, f5, f6, f7] = true) (hC : P.cellsOf t = 8)
    (hv : Value.okWide P w r b0 t v) (h : DataW.Trod enc P w base spare held t v d p) :
    ∃ (v0 v1 v2 v3 v4 v5 v6 v7 : Value) (y0 y1 y2 y3 y4 y5 y6 y7 : DataW H × List MemPlace) (n : Nat), v = .agg #[v0, v1, v2, v3, v4, v5, v6, v7] ∧ d = .agg [y0.1, y1.1, y2.1, y3.1, y4.1, y5.1, y6.1, y7.1] ∧
      DataW.trod enc P w base spare held n f0.type [v0] = some y0 ∧ DataW.trod enc P w base spare held n f1.type [v1] = some y1 ∧ DataW.trod enc P w base spare held n f2.type [v2] = some y2 ∧ DataW.trod enc P w base spare held n f3.type [v3] = some y3 ∧ DataW.trod enc P w base spare held n f4.type [v4] = some y4 ∧ DataW.trod enc P w base spare held n f5.type [v5] = some y5 ∧ DataW.trod enc P w base spare held n f6.type [v6] = some y6 ∧ DataW.trod enc P w base spare held n f7.type [v7] = some y7 := by
  obtain ⟨cs, rfl, hsz⟩ := okWide_struct hs hv
  obtain ⟨c0, c1, c2, c3, c4, c5, c6, c7, rfl⟩ := array8 (hsz.trans hC)
  obtain ⟨fuel, hf⟩ := h
  obtain ⟨xs, n, _, hx, hl, hlen, hff⟩ := DataW.trod_struct hs hf
  match xs, hlen with
  | [y0, y1, y2, y3, y4, y5, y6, y7], _ =>
    obtain ⟨o0, k0⟩ := hone_of hone 0 f0 rfl
    obtain ⟨o1, k1⟩ := hone_of hone 1 f1 rfl
    obtain ⟨o2, k2⟩ := hone_of hone 2 f2 rfl
    obtain ⟨o3, k3⟩ := hone_of hone 3 f3 rfl
    obtain ⟨o4, k4⟩ := hone_of hone 4 f4 rfl
    obtain ⟨o5, k5⟩ := hone_of hone 5 f5 rfl
    obtain ⟨o6, k6⟩ := hone_of hone 6 f6 rfl
    obtain ⟨o7, k7⟩ := hone_of hone 7 f7 rfl
    have g0 := hff 0 f0 rfl
    have g1 := hff 1 f1 rfl
    have g2 := hff 2 f2 rfl
    have g3 := hff 3 f3 rfl
    have g4 := hff 4 f4 rfl
    have g5 := hff 5 f5 rfl
    have g6 := hff 6 f6 rfl
    have g7 := hff 7 f7 rfl
    simp only [Prod.mk.injEq] at hx
    exact ⟨c0, c1, c2, c3, c4, c5, c6, c7, y0, y1, y2, y3, y4, y5, y6, y7, n, rfl, by simpa using hx.1, by simpa [Value.cells, o0, k0] using g0, by simpa [Value.cells, o1, k1] using g1, by simpa [Value.cells, o2, k2] using g2, by simpa [Value.cells, o3, k3] using g3, by simpa [Value.cells, o4, k4] using g4, by simpa [Value.cells, o5, k5] using g5, by simpa [Value.cells, o6, k6] using g6, by simpa [Value.cells, o7, k7] using g7⟩
theorem slice_of {T e : TypeId} (hT : P.underlying T = some (.slice e)) {n : Nat} {v : Value} {y : DataW H × List MemPlace} (h : DataW.trod enc P w base spare held n T [v] = some y) : (∃ a len cap, v = .slice a len cap) ∧ DataW.Trod enc P w base spare held T v y.1 y.2 := by
  have hs : ∃ a len cap, v = .slice a len cap := by
    rcases open_slice hT h with ⟨hcs, _⟩ | ⟨a, len, cap, _, _, _, _, hcs, _⟩
    · exact ⟨none, 0, 0, by simpa using hcs⟩
    · exact ⟨some a, len, cap, by simpa using hcs⟩
  refine ⟨hs, ?_⟩
  obtain ⟨a, len, cap, rfl⟩ := hs
  exact ⟨n, by simpa [Value.cells] using h⟩
end
set_option maxRecDepth 100000 in
/-- a slice of bytes that came in reads as a list -/
theorem open_bytesF {H : Type} {enc : TypeId × Value → H} {W : World} {v : Value} {d : DataW H} {p : List MemPlace} (hv : ∃ a len cap, v = .slice a len cap) (h : DataW.Trod enc Try.prog W 0 (fun _ => true) true 56 v d p) :
    ∃ l, RdB W W.heap.size v l ∧ SizedB d l := by
  obtain ⟨a0, len, cap, rfl⟩ := hv
  obtain ⟨fuel, hf⟩ := h
  rcases open_ints Try.underlying56 Try.underlying5 (by kernel_rfl) hf with ⟨hcs, hx⟩ | ⟨a, len', cap', zs, hcs, _, hl, hm, hz, hx, hcell, hwz⟩
  · simp only [Value.cells] at hcs
    have e : Value.slice a0 len cap = .slice none 0 0 := by simpa using hcs
    injection e with e1 e2 e3
    subst e1 e2 e3
    simp only [Prod.mk.injEq] at hx
    exact ⟨[], Rd.nil _ _, .inl ⟨hx.1, rfl⟩⟩
  · simp only [Value.cells] at hcs
    have e : Value.slice a0 len cap = .slice (some a) len' cap' := by simpa using hcs
    injection e with e1 e2 e3
    subst e1 e2 e3
    simp only [Prod.mk.injEq] at hx
    obtain ⟨rfl, rfl⟩ := hx
    simp only [if_true] at hz
    have hb : ∀ n ∈ zs, 0 ≤ n ∧ n < 256 := fun n hn => by
      have h := hwz n hn
      have h1 : IntKind.u8.min = 0 := rfl
      have h2 : IntKind.u8.max = 255 := rfl
      simp only [Lit.wf, Bool.and_eq_true, decide_eq_true_eq] at h
      omega
    refine ⟨(zs.take len).map fun n => UInt8.ofNat n.toNat, ?_, .inr ⟨_, _, rfl, by simp [lits]⟩⟩
    have hlen : ((zs.take len).map fun n => UInt8.ofNat n.toNat).length = len := by simp; omega
    refine ⟨some a, cap, by rw [hlen], by rw [hlen]; exact hl, fun i hi => ?_⟩
    have hi' : i < len := by omega
    have hc := hcell i (by omega)
    have hsp : a.spot = none := by
      have h0 := hcell 0 (by omega)
      have e0 : a.add 0 = a := rfl
      rw [e0] at h0
      exact World.cell?_spot h0
    rw [addr_add a i hsp] at hc
    have hblk := World.block_lt_of_cell? _ _ hc
    refine ⟨a.block, a.off, by cases a; simp only at hsp; subst hsp; rfl, hblk, fun j u hu => ?_⟩
    match j, hu with
    | 0, hu =>
      simp only [byteEnc, List.getElem?_cons_zero, Option.some.injEq] at hu
      subst hu
      have hlt : i < zs.length := by omega
      have := hb zs[i] (List.getElem_mem hlt)
      rw [Nat.mul_one, Nat.add_zero, hc]
      simp [List.getD, hlt]
      omega
    | j + 1, hu => simp [byteEnc] at hu
set_option maxRecDepth 100000 in
/-- a slice of ints that came in reads as a list -/
theorem open_intsF {H : Type} {enc : TypeId × Value → H} {W : World} {v : Value} {d : DataW H} {p : List MemPlace} (hv : ∃ a len cap, v = .slice a len cap) (h : DataW.Trod enc Try.prog W 0 (fun _ => true) true 33 v d p) :
    ∃ l, RdI W W.heap.size v l ∧ SizedI d l ∧ ∀ n ∈ l, -9223372036854775808 ≤ n ∧ n < 9223372036854775808 := by
  obtain ⟨a0, len, cap, rfl⟩ := hv
  obtain ⟨fuel, hf⟩ := h
  rcases open_ints Try.underlying33 Try.underlying3 (by kernel_rfl) hf with ⟨hcs, hx⟩ | ⟨a, len', cap', zs, hcs, _, hl, hm, hz, hx, hcell, hwz⟩
  · simp only [Value.cells] at hcs
    have e : Value.slice a0 len cap = .slice none 0 0 := by simpa using hcs
    injection e with e1 e2 e3
    subst e1 e2 e3
    simp only [Prod.mk.injEq] at hx
    exact ⟨[], Rd.nil _ _, .inl ⟨hx.1, rfl⟩, by simp⟩
  · simp only [Value.cells] at hcs
    have e : Value.slice a0 len cap = .slice (some a) len' cap' := by simpa using hcs
    injection e with e1 e2 e3
    subst e1 e2 e3
    simp only [Prod.mk.injEq] at hx
    obtain ⟨rfl, rfl⟩ := hx
    simp only [if_true] at hz
    have hb : ∀ n ∈ zs, -9223372036854775808 ≤ n ∧ n < 9223372036854775808 := fun n hn => by
      have h := hwz n hn
      have h1 : IntKind.i64.min = -9223372036854775808 := rfl
      have h2 : IntKind.i64.max = 9223372036854775807 := rfl
      simp only [Lit.wf, Bool.and_eq_true, decide_eq_true_eq] at h
      omega
    have hlen : (zs.take len).length = len := by simp; omega
    refine ⟨zs.take len, ⟨some a, cap, by rw [hlen], by rw [hlen]; exact hl, fun i hi => ?_⟩, .inr ⟨_, _, rfl, by simp [lits]⟩, fun n hn => hb n (List.mem_of_mem_take hn)⟩
    have hi' : i < len := by omega
    have hc := hcell i (by omega)
    have hsp : a.spot = none := by
      have h0 := hcell 0 (by omega)
      have e0 : a.add 0 = a := rfl
      rw [e0] at h0
      exact World.cell?_spot h0
    rw [addr_add a i hsp] at hc
    have hblk := World.block_lt_of_cell? _ _ hc
    refine ⟨a.block, a.off, by cases a; simp only at hsp; subst hsp; rfl, hblk, fun j u hu => ?_⟩
    match j, hu with
    | 0, hu =>
      simp only [encI, List.getElem?_cons_zero, Option.some.injEq] at hu
      subst hu
      have hlt : i < zs.length := by omega
      rw [Nat.mul_one, Nat.add_zero, hc]
      simp [List.getD, hlt]
    | j + 1, hu => simp [encI] at hu
/-- what is known of the data of a list -/
def SizedL {H α : Type} (Ok : α → DataW H → Prop) (d : DataW H) (l : List α) : Prop := (d = .nil ∧ l = []) ∨ ∃ el sp, d = .slice el sp ∧ el.length = l.length ∧ ∀ i (_ : i < l.length), ∃ d', el[i]? = some d' ∧ Ok l[i] d'
set_option maxRecDepth 100000 in
/-- a slice that came in reads as a list, if each element's cells are known -/
theorem open_rowsF {H α : Type} [Inhabited α] {e2 : α → List Value} {k : Nat} (hk : 0 < k) (he2 : ∀ x, (e2 x).length = k) {T e : TypeId} (hT : Try.prog.underlying T = some (.slice e)) (hc : Try.prog.cellsOf e = k) (Ok : α → DataW H → Prop)
    {enc : TypeId × Value → H} {W : World} (one : ∀ fuel cs x, DataW.trod enc Try.prog W 0 (fun _ => true) true fuel e cs = some x → ∃ s, cs = e2 s ∧ Ok s x.1)
    {v : Value} {d : DataW H} {p : List MemPlace} (hv : ∃ a len cap, v = .slice a len cap) (h : DataW.Trod enc Try.prog W 0 (fun _ => true) true T v d p) :
    ∃ l, Rd e2 k W W.heap.size v l ∧ SizedL Ok d l := by
  obtain ⟨a0, len, cap, rfl⟩ := hv
  obtain ⟨fuel, hf⟩ := h
  rcases open_slice hT hf with ⟨hcs, hx⟩ | ⟨a, len', cap', m, n, D, Pl, hcs, _, hl, _, hm, hx, hi⟩
  · simp only [Value.cells] at hcs
    have e : Value.slice a0 len cap = .slice none 0 0 := by simpa using hcs
    injection e with e1 e2 e3
    subst e1 e2 e3
    simp only [Prod.mk.injEq] at hx
    exact ⟨[], Rd.nil _ _, .inl ⟨hx.1, rfl⟩⟩
  · simp only [Value.cells] at hcs
    have e : Value.slice a0 len cap = .slice (some a) len' cap' := by simpa using hcs
    injection e with e1 e2' e3
    subst e1 e2' e3
    simp only [Prod.mk.injEq] at hx
    obtain ⟨rfl, rfl⟩ := hx
    simp only [if_true] at hm
    subst hm
    have hcell : ∀ i, i < len → ∃ s : α, Ok s (D i) ∧ ∀ j, j < k → W.cell? (a.add (i * k + j)) = (e2 s)[j]? := fun i hi' => by
      obtain ⟨cs', hc', ht⟩ := hi i (Nat.lt_of_lt_of_le hi' hl)
      rw [hc] at hc'
      obtain ⟨s, rfl, hok⟩ := one _ _ _ ht
      obtain ⟨_, hlen, hat⟩ := World.cells?_some hc'
      refine ⟨s, hok, fun j hj => ?_⟩
      have h0 := hat j (by omega)
      rw [Go.Deep.add_add] at h0
      exact h0
    obtain ⟨f, hf⟩ : ∃ f : Nat → α, ∀ i, i < len → Ok (f i) (D i) ∧ ∀ j, j < k → W.cell? (a.add (i * k + j)) = (e2 (f i))[j]? := by
      refine ⟨fun i => if h : i < len then (hcell i h).choose else default, fun i hi' => ?_⟩
      simp only [dif_pos hi']
      exact (hcell i hi').choose_spec
    refine ⟨(List.range len).map f, ⟨some a, m, by simp, by simpa using hl, fun i hs => ?_⟩, .inr ⟨_, _, rfl, by simp, fun i hs => ?_⟩⟩
    · have hlt : i < len := by simpa using hs
      have h0 := (hf i hlt).2 0 hk
      rw [List.getElem?_eq_getElem (by rw [he2]; exact hk)] at h0
      have hblk := World.block_lt_of_cell? _ _ h0
      have hba : (a.add (i * k + 0)).block = a.block := by unfold Addr.add; split <;> rfl
      have hsp : a.spot = none := by
        have h0 := (hf 0 (by omega)).2 0 hk
        rw [List.getElem?_eq_getElem (by rw [he2]; exact hk), Nat.zero_mul] at h0
        exact World.cell?_spot (a := a.add (0 + 0)) h0
      refine ⟨a.block, a.off, by cases a; simp only at hsp; subst hsp; rfl, by omega, fun j u hu => ?_⟩
      have hj : j < k := by
        rcases Nat.lt_or_ge j k with h' | h'
        · exact h'
        · rw [List.getElem?_eq_none (by rw [he2]; exact h')] at hu; cases hu
      have h1 := (hf i hlt).2 j hj
      rw [addr_add a _ hsp] at h1
      simp only [List.getElem_map, List.getElem_range] at hu
      rw [hu] at h1
      rw [← h1]
      congr 2
      omega
    · have hlt : i < len := by simpa using hs
      exact ⟨D i, by simp [hlt], by simpa using (hf i hlt).1⟩

/-- the data of a pair, of a change -/
def PairD {H : Type} (s : K × K) (d : DataW H) : Prop := d = .agg [.lit (.string s.1.data.toList), .lit (.string s.2.data.toList)]
def ChgD {H : Type} (c : Chg) (d : DataW H) : Prop := ∃ y, d = .agg [y, .lit (.string c.key.data.toList), .lit (.string c.val.data.toList)]

section
variable {H : Type} {enc : TypeId × Value → H} {w : World} {base : Nat} {spare : Nat → Bool} {held : Bool}
set_option maxRecDepth 100000 in
theorem chg_of_cells {fuel : Nat} {cs : List Value} {x : DataW H × List MemPlace} (h : DataW.trod enc Try.prog w base spare held fuel 161 cs = some x) : ∃ s : Chg, cs = encC s ∧ ChgD s x.1 := by
  obtain ⟨y0, y1, y2, n, hx, hlen, h0, h1, h2⟩ := trod_struct3 Try.underlying161 h
  rw [show Try.prog.cellsOf 161 = 3 by kernel_rfl] at hlen
  match cs, hlen with
  | [u, v, t], _ =>
    have c9 : Try.prog.cellsOf 9 = 1 := by kernel_rfl
    have c3 : Try.prog.cellsOf 3 = 1 := by kernel_rfl
    simp [c9, c3] at h0 h1 h2
    obtain ⟨m, em, _, _⟩ := DataW.trod_int Try.underlying3 h0
    obtain ⟨a, ea, xa, ha⟩ := DataW.trod_string Try.underlying9 h1
    obtain ⟨b, eb, xb, hb⟩ := DataW.trod_string Try.underlying9 h2
    simp at em ea eb
    exact ⟨⟨m, a, b⟩, by rw [em, ea, eb]; rfl, y0.1, by rw [hx, xa, xb]⟩
end
theorem weights_el {H : Type} {P : Program} {T e : TypeId} (hu : P.underlying T = some (.slice e)) {el sp : List (DataW H)} {i : Nat} {d' : DataW H} (hi : el[i]? = some d') {n : Nat} (hn : n ∈ d'.weights P e) : n ∈ (DataW.slice el sp).weights P T := by
  have key : ∀ (el : List (DataW H)) (i : Nat), el[i]? = some d' → n ∈ DataW.weightsAll P e el := by
    intro el
    induction el with
    | nil => intro i h; simp at h
    | cons x r ih =>
      intro i h
      cases i with
      | zero => simp at h; subst h; simp [DataW.weightsAll, hn]
      | succ i => simp at h; simp [DataW.weightsAll, ih i h]
  simp only [DataW.weights, hu, List.mem_cons, List.mem_append]
  exact .inr (.inl (key el i hi))

theorem weights_all {H : Type} {P : Program} {ts : List TypeId} {ds : List (DataW H)} (h : (DataW.weightsEach P ts ds).all (· ≤ reachBytes) = true) {j : Nat} {t : TypeId} {d : DataW H} (ht : ts[j]? = some t) (hd : ds[j]? = some d) : ∀ n ∈ d.weights P t, n ≤ reachBytes := fun n hn => by
  have := List.all_eq_true.1 h _ (DataW.weights_mem_each ht hd n hn)
  simpa using this
theorem slice_len {H : Type} {P : Program} {T e : TypeId} (hu : P.underlying T = some (.slice e)) {el sp : List (DataW H)} (hw : ∀ n ∈ (DataW.slice el sp).weights P T, n ≤ reachBytes) : (el.length + sp.length) * P.bytesOf e ≤ 140737488351232 := by
  have := hw ((el.length + sp.length) * P.bytesOf e) (by simp [DataW.weights, hu])
  rwa [show reachBytes = 140737488351232 from rfl] at this
set_option maxRecDepth 100000 in
theorem SizedB.len {H : Type} {d : DataW H} {l : List UInt8} (hs : SizedB d l) (hw : ∀ n ∈ d.weights Try.prog 56, n ≤ reachBytes) : l.length ≤ 140737488351232 := by
  rcases hs with ⟨_, rfl⟩ | ⟨el, sp, rfl, he⟩
  · simp
  · have := slice_len Try.underlying56 hw
    rw [show Try.prog.bytesOf 5 = 1 by kernel_rfl] at this
    omega
set_option maxRecDepth 100000 in
theorem SizedI.len {H : Type} {d : DataW H} {l : List Int} (hs : SizedI d l) (hw : ∀ n ∈ d.weights Try.prog 33, n ≤ reachBytes) : l.length ≤ 17592186043904 := by
  rcases hs with ⟨_, rfl⟩ | ⟨el, sp, rfl, he⟩
  · simp
  · have := slice_len Try.underlying33 hw
    rw [show Try.prog.bytesOf 3 = 8 by kernel_rfl] at this
    omega
set_option maxRecDepth 100000 in
theorem SizedL.lenC {H : Type} {d : DataW H} {l : List Chg} (hs : SizedL ChgD d l) (hw : ∀ n ∈ d.weights Try.prog 159, n ≤ reachBytes) : l.length < 4611686018427387904 ∧ ∀ c ∈ l, smallC c := by
  rcases hs with ⟨_, rfl⟩ | ⟨el, sp, rfl, he, hall⟩
  · simp
  · have h1 := slice_len Try.underlying159 hw
    rw [show Try.prog.bytesOf 161 = 40 by kernel_rfl] at h1
    refine ⟨by omega, fun s hs => ?_⟩
    obtain ⟨i, hi, rfl⟩ := List.getElem_of_mem hs
    obtain ⟨d', h2, y, rfl⟩ := hall i hi
    have hm : ∀ n, n ∈ (DataW.agg [y, .lit (.string l[i].key.data.toList), .lit (.string l[i].val.data.toList)]).weights Try.prog 161 → n ≤ reachBytes := fun n hn => hw n (weights_el Try.underlying159 h2 hn)
    have a := hm l[i].key.data.toList.length (by simp [DataW.weights, DataW.weightsEach, Try.underlying161])
    have b := hm l[i].val.data.toList.length (by simp [DataW.weights, DataW.weightsEach, Try.underlying161])
    rw [show reachBytes = 140737488351232 from rfl] at a b
    have e : ∀ k : K, k.data.toList.length = k.size := fun k => by simp
    rw [e] at a b
    exact ⟨by omega, by omega⟩
set_option maxRecDepth 100000 in
theorem open_sta {H : Type} {enc : TypeId × Value → H} {W : World} {base : Nat} {v : Value} {d : DataW H} {p : List MemPlace} (hv : Value.okWide Try.prog W .any base 35 v) (h : DataW.Trod enc Try.prog W 0 (fun _ => true) true 35 v d p) (hw : ∀ n ∈ d.weights Try.prog 35, n ≤ reachBytes) :
    ∃ (s : Sta) (x : Value), v = sval s x ∧ RdI W W.heap.size x s.chests ∧ (s.gen < 9223372036854775808 ∧ s.epoch < 9223372036854775808 ∧ s.recd < 9223372036854775808) ∧ s.chests.length ≤ 17592186043904 := by
  obtain ⟨v0, v1, v2, v3, y0, y1, y2, y3, n, rfl, rfl, _, h0, h1, h2, h3⟩ := open_agg4 Try.underlying35 (by kernel_rfl) (by kernel_rfl) hv h
  obtain ⟨i0, e0, _, g0⟩ := DataW.trod_int Try.underlying3 h0
  obtain ⟨i1, e1, _, g1⟩ := DataW.trod_int Try.underlying3 h1
  obtain ⟨i2, e2, _, g2⟩ := DataW.trod_int Try.underlying3 h2
  simp at e0 e1 e2
  obtain ⟨hs, ht⟩ := slice_of Try.underlying33 h3
  obtain ⟨l, hr, hz, _⟩ := open_intsF hs ht
  refine ⟨⟨i0, i1, i2, l⟩, v3, by rw [e0, e1, e2]; rfl, hr, ?_, hz.len (fun n hn => hw n (by simp only [DataW.weights, Try.underlying35, List.map_cons, List.map_nil, DataW.weightsEach, List.mem_append]; simp only [hn, true_or, or_true]))⟩
  have k0 := int_of_wf g0
  have k1 := int_of_wf g1
  have k2 := int_of_wf g2
  simp only
  omega
end Go.Proofs.Ythoheikbpihflaa

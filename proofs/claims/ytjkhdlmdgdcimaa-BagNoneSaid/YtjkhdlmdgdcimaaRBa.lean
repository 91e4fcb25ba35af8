/- The reference's bag: what each of its calls leaves, told by the bag as a state. -/
import Derived.Test.YtjkhdlmdgdcimaaBg
import Derived.Test.YtjkhdlmdgdcimaaGenN
import Derived.Test.YtjkhdlmdgdcimaaPlanB
namespace Go.Proofs.Ytjkhdlmdgdcimaa
open Go.RowKit

def encL (x : Ltr) : List Value := [.int .i64 x.to, .string (strB x.text), .bool x.sp]
theorem encL_len (x : Ltr) : (encL x).length = 3 := rfl
theorem encL_one (x : Ltr) : ∀ u ∈ encL x, u.oneCell' = true := by
  intro u hu
  simp only [encL, List.mem_cons, List.not_mem_nil, or_false] at hu
  rcases hu with rfl | rfl | rfl <;> rfl
set_option maxRecDepth 100000 in
theorem info_let : (Try.prog.info? 36).map (fun i => (i.zero, i.size, i.bytes)) = some (some (.agg #[.int .i64 0, .string ⟨#[]⟩, .bool false]), 3, 32) := by kernel_rfl
abbrev OwnL (w : World) (base : Nat) (v : Value) (l : List Ltr) : Prop := Own encL 3 36 w base v l
def lval (x : Ltr) : Value := .agg #[.int .i64 x.to, .string (strB x.text), .bool x.sp]

/-- the reference's bag at block r, its letters in row ov -/
def RbAt (w : World) (base r : Nat) (ov : Option Nat) (b : Bg) : Prop :=
  ∃ A c n, Whole w r 31 [.slice A n c, .int .i64 (b.room : Int)] ∧ n = b.l.length ∧ OwnL w base (.slice A n c) b.l ∧ Value.ownBlock (.slice A n c) = ov ∧ base ≤ r ∧ base ≤ w.heap.size ∧ b.Ok
def RbD (r : Nat) (ov : Option Nat) : Nat → Prop := fun i => i = r ∨ some i = ov
section
variable {w w' : World} {base r : Nat} {ov : Option Nat} {b : Bg}
theorem Own.mvG {α : Type} {enc : α → List Value} {k : Nat} {e : TypeId} {D : Nat → Prop} {v : Value} {l : List α} (h : Own enc k e w base v l) (hm : Mv D w w') (hn : ∀ g, v.ownBlock = some g → ¬ D g) : Own enc k e w' base v l := by
  refine ⟨h.1, ?_⟩
  rcases h.2 with h2 | ⟨g, cap, cur, rfl, hb, hh, r⟩
  · exact .inl h2
  · exact .inr ⟨g, cap, cur, rfl, hb, (hm.block g (Array.getElem?_eq_some_iff.1 hh).1 (hn g rfl)).trans hh, r⟩
theorem RbAt.mv {D : Nat → Prop} (h : RbAt w base r ov b) (hm : Mv D w w') (h1 : ¬ D r) (h2 : ∀ g, ov = some g → ¬ D g) : RbAt w' base r ov b := by
  obtain ⟨A, c, n, hb, hn, ho, hv, hp, hs, hk⟩ := h
  exact ⟨A, c, n, hm.whole hb h1, hn, ho.mvG hm (fun g hg => h2 g (hv ▸ hg)), hv, hp, Nat.le_trans hs hm.size, hk⟩
theorem RbAt.low (h : RbAt w base r ov b) : base ≤ r ∧ r < w.heap.size ∧ base ≤ w.heap.size := by
  obtain ⟨A, c, n, hb, hn, ho, hv, hp, hs, hk⟩ := h
  exact ⟨hp, hb.size, hs⟩
theorem RbAt.row (h : RbAt w base r ov b) {g : Nat} (hg : ov = some g) : base ≤ g ∧ g < w.heap.size := by
  obtain ⟨A, c, n, hb, hn, ho, hv, hp, hs, hk⟩ := h
  exact ho.low (hv.trans hg)
theorem RbAt.ok (h : RbAt w base r ov b) : b.Ok := by
  obtain ⟨A, c, n, hb, hn, ho, hv, hp, hs, hk⟩ := h
  exact hk
set_option maxRecDepth 100000 in
theorem RbAt.apart (h : RbAt w base r ov b) {g : Nat} {T : TypeId} {cs : List Value} (hg : Whole w g T cs) (h1 : 31 ≠ T) (h2 : 36 ≠ T) : g ≠ r ∧ ov ≠ some g := by
  obtain ⟨A, c, n, hb, hn, ho, hv, hp, hs, hk⟩ := h
  exact ⟨hg.apart hb (Ne.symm h1), fun e => ho.apart hg h2 (hv.trans e).symm⟩
end
structure RbWent (w w' : World) (base r : Nat) (ov : Option Nat) (b : Bg) (ov' : Option Nat) : Prop where
  now : RbAt w' base r ov' b
  moved : Mv (RbD r ov) w w'
  new : NewRow w ov ov'
theorem RbWent.below {w w' : World} {base r : Nat} {ov ov' : Option Nat} {b b0 : Bg} (h : RbWent w w' base r ov b ov') (h0 : RbAt w base r ov b0) : Below base w w' :=
  h.moved.below h0.low.2.2 (by
    rintro i (rfl | hi)
    · exact h0.low.1
    · exact (h0.row hi.symm).1)

section
variable {ops : Array Oper} {rest : List Oper} {o : Oper} {a : Act} {Q : Exit → Act → World → Prop} {w : World}
set_option maxRecDepth 100000 in
theorem wp_addL {K : Act → World → Prop} (s x : Operand)
    (ho : o.op = .call { callee := .builtin .append, args := #[s, x], argTypes := #[29, 29] })
    (base : Nat) (v : Value) (l : List Ltr) (hs : a.eval s = v) (hown : OwnL w base v l) (B : Nat) (v2 : Value) (p : List Ltr) (hx : a.eval x = v2) (hp : Rd encL 3 w B v2 p)
    (hlen : l.length + p.length ≤ 5000000000000) (hbase : base ≤ w.heap.size)
    (h : ∀ A' c' w', OwnL w' base (.slice A' (l ++ p).length c') (l ++ p) → w.grownBy w' v.ownBlock → NewRow w v.ownBlock (Value.ownBlock (.slice A' (l ++ p).length c')) → K (a.put o.dst (.slice A' (l ++ p).length c')) w') : o.wp Try.prog a w K Q := by
  obtain ⟨i0, hi, hz0, hz1, hz2⟩ := info_parts info_let
  exact wp_addAnyN (enc := encL) (k := 3) 29 36 32 i0 _ Try.underlying29 hi hz0 hz1 hz2 rfl (by decide) encL_len encL_one s x ho base v l hs hown B v2 p hx hp (by unfold maxLen; omega) (by omega) hbase fun A' c' w' h1 h2 h3 => h A' c' w' h1 h2 h3
set_option maxRecDepth 100000 in
theorem wpList_addL (hgd : Region.wanted o (yielded ops a.tmps) = true) (s x : Operand)
    (ho : o.op = .call { callee := .builtin .append, args := #[s, x], argTypes := #[29, 29] })
    (base : Nat) (v : Value) (l : List Ltr) (hs : a.eval s = v) (hown : OwnL w base v l) (B : Nat) (v2 : Value) (p : List Ltr) (hx : a.eval x = v2) (hp : Rd encL 3 w B v2 p)
    (hlen : l.length + p.length ≤ 5000000000000) (hbase : base ≤ w.heap.size)
    (h : ∀ A' c' w', Hid (OwnL w' base (.slice A' (l ++ p).length c') (l ++ p)) → Hid (w.grownBy w' v.ownBlock) → Hid (NewRow w v.ownBlock (Value.ownBlock (.slice A' (l ++ p).length c'))) → wpList Try.prog ops Q rest (a.put o.dst (.slice A' (l ++ p).length c')) w') : wpList Try.prog ops Q (o :: rest) a w := by
  refine BigFrame.wpList_want hgd fun K hK => ?_
  exact wp_addL s x ho base v l hs hown B v2 p hx hp hlen hbase fun A' c' w' h1 h2 h3 => hK _ _ (h A' c' w' (Lib.hid h1) (Lib.hid h2) (Lib.hid h3))
end

theorem RbAt.letter {w : World} {base r : Nat} {ov : Option Nat} {b : Bg} (h : RbAt w base r ov b) : ∃ A c n, Whole w r 31 [.slice A n c, .int .i64 (b.room : Int)] ∧ n = b.l.length ∧ n ≤ c ∧
    ∀ i (_ : i < n) (hi : i < b.l.length), ∃ g, A = some ⟨g, 0, none⟩ ∧ g < w.heap.size ∧ w.cell? ⟨g, i * 3, none⟩ = some (.int .i64 b.l[i].to) ∧ w.cell? ⟨g, i * 3 + 1, none⟩ = some (.string (strB b.l[i].text)) ∧ w.cell? ⟨g, i * 3 + 2, none⟩ = some (.bool b.l[i].sp) := by
  obtain ⟨A, c, n, hb, hn, ho, hv, hp, hs, hk⟩ := h
  obtain ⟨A2, c2, e, hc, hi⟩ := Own.rd encL_len ho
  injection e with e1 e2 e3
  subst e1 e3
  refine ⟨A, c, n, hb, hn, by omega, fun i hi1 hi2 => ?_⟩
  obtain ⟨g, o, hA, hg, h1⟩ := hi i hi2
  have ho0 : o = 0 := by
    rcases ho.form with ⟨e, e0⟩ | ⟨g2, cap, e, _⟩
    · rw [e0] at hi2; simp at hi2
    · rw [hA] at e
      injection e with e _ _
      injection e with e
      injection e
  subst ho0
  simp only [Nat.zero_add] at h1
  exact ⟨g, hA, hg, h1 0 _ rfl, h1 1 _ rfl, h1 2 _ rfl⟩

set_option maxHeartbeats 2000000 in
set_option maxRecDepth 100000 in
theorem rlook_any (base r : Nat) (ov : Option Nat) (b : Bg) (i : Int) (w : World) (h : RbAt w base r ov b) :
    Calls Try.prog 13 #[.pointer (some ⟨r, 0, none⟩), .int .i64 i] w fun e w' => e = .returned (.tuple #[lval (b.look i).1, .int .i64 (b.look i).2]) ∧ Below w.heap.size w w' := by
  obtain ⟨R, hR⟩ : ∃ R, R = b.look i := ⟨_, rfl⟩
  rw [← hR]
  have hlt := h.low.2.1
  obtain ⟨A, c, n, hb, hn, hc, hcell⟩ := h.letter
  have c0 := hb.cell 0 _ rfl
  have HR := Lib.hid hR; clear hR
  have HN := Lib.hid hn; clear hn
  have HC := Lib.hid hcell; clear hcell
  clear hb h
  by_cases hi : b.has i
  · obtain ⟨h0, h1⟩ := id hi
    obtain ⟨k, rfl⟩ : ∃ k : Nat, i = (k : Int) := ⟨i.toNat, by omega⟩
    have hk : k < b.l.length := by omega
    have hkn : k < n := by have := HN.out; omega
    have hr : R = (b.l[k], 0) := by rw [HR.out, Bg.look_at hi]; simp
    have HR2 := Lib.hid hr; clear hr
    obtain ⟨g, rfl, hg, q0, q1, q2⟩ := HC.out k hkn hk
    generalize b.l[k] = x at q0 q1 q2 HR2
    obtain ⟨to, tx, sp⟩ := x
    simp only at q0 q1 q2
    have h2 : ¬ (k : Int) < 0 := by omega
    have h3 : (k : Int) < (n : Int) := by omega
    obtain ⟨S, hS⟩ : ∃ S, S = strB tx := ⟨_, rfl⟩
    rw [← hS] at q1
    have HS := Lib.hid hS; clear hS
    clear hi h0 h1
    go_enter Try.func13, Try.ntmps13
    go_wp2_with fail
    have hW : Whole (w.alloc (.cells #[.int .i64 to, .string S, .bool sp] 36)) w.heap.size 36 [.int .i64 to, .string S, .bool sp] := Whole.fresh w _ [_, _, _]
    have j0 := hW.cell 0 _ rfl
    have j1 := hW.cell 1 _ rfl
    have j2 := hW.cell 2 _ rfl
    exact bodyPost_ret (v := .tuple #[.agg #[.int .i64 to, .string S, .bool sp], .int .i64 0]) (by simp [results, Try.results13, go_sem, j0, j1, j2]) rfl ⟨by rw [HR2.out, HS.out]; rfl, (Below.refl _ w).alloc (Nat.le_refl _) _⟩
  · have hr : R = (Bg.none_, 4) := by rw [HR.out]; unfold Bg.look; rw [if_neg hi]
    have HR2 := Lib.hid hr; clear hr
    by_cases h0 : i < 0
    · go_enter Try.func13, Try.ntmps13
      go_wp2_with fail
      have hW : Whole (w.alloc (.cells #[.int .i64 0, .string ⟨#[]⟩, .bool false] 36)) w.heap.size 36 [.int .i64 0, .string ⟨#[]⟩, .bool false] := Whole.fresh w _ [_, _, _]
      have j0 := hW.cell 0 _ rfl
      have j1 := hW.cell 1 _ rfl
      have j2 := hW.cell 2 _ rfl
      exact bodyPost_ret (v := .tuple #[.agg #[.int .i64 0, .string ⟨#[]⟩, .bool false], .int .i64 4]) (by simp [results, Try.results13, go_sem, j0, j1, j2]) rfl ⟨by rw [HR2.out]; rfl, (Below.refl _ w).alloc (Nat.le_refl _) _⟩
    · have h3 : ¬ i < (n : Int) := by have := HN.out; intro h; exact hi ⟨by omega, by omega⟩
      go_enter Try.func13, Try.ntmps13
      go_wp2_with fail
      have hW : Whole (w.alloc (.cells #[.int .i64 0, .string ⟨#[]⟩, .bool false] 36)) w.heap.size 36 [.int .i64 0, .string ⟨#[]⟩, .bool false] := Whole.fresh w _ [_, _, _]
      have j0 := hW.cell 0 _ rfl
      have j1 := hW.cell 1 _ rfl
      have j2 := hW.cell 2 _ rfl
      exact bodyPost_ret (v := .tuple #[.agg #[.int .i64 0, .string ⟨#[]⟩, .bool false], .int .i64 4]) (by simp [results, Try.results13, go_sem, j0, j1, j2]) rfl ⟨by rw [HR2.out]; rfl, (Below.refl _ w).alloc (Nat.le_refl _) _⟩
end Go.Proofs.Ytjkhdlmdgdcimaa

/- Slices of ints: read, owned, appended to; those that came in. The reference's Marks as a state of the heap; New, Forget, left. Moves inside the row of a slice of pairs, as steps of a walk; what is left of the row. What the small functions of the span layer answer: contracts, each for every argument and every world. An append to a slice of the call's own that says of its block: the old one or a new one. -/
import Derived.Test.YtgppgecglkellaaGreatFaa
import Derived.Test.YtgppgecglkellaaGreatFad
import Derived.Test.YtgppgecglkellaaGreatFac
import Derived.Test.YtgppgecglkellaaGreatFab
namespace Go.Proofs.YtgppgecglkellaaGreat
open Go.ChangeShapes Go.WideShapes Go.ChangeAt Go.RowKit Go.Joins Go.Deep

set_option maxRecDepth 100000 in
theorem info_int : (Tryz.prog.info? 3).map (fun i => (i.zero, i.size, i.bytes)) = some (some (.int .i64 0), 1, 8) := by kernel_rfl
/-- an int's cell -/
def encI (n : Int) : List Value := [.int .i64 n]
set_option maxRecDepth 100000 in
theorem encI_len (n : Int) : (encI n).length = 1 := rfl
set_option maxRecDepth 100000 in
theorem encI_one (n : Int) : ∀ u ∈ encI n, u.oneCell' = true := by simp [encI, Value.oneCell']
abbrev RdI (w : World) (B : Nat) (v : Value) (l : List Int) : Prop := Rd encI 1 w B v l
abbrev OwnI (w : World) (base : Nat) (v : Value) (l : List Int) : Prop := Own encI 1 3 w base v l
set_option maxRecDepth 100000 in
theorem OwnI.rdI {w : World} {base : Nat} {v : Value} {l : List Int} (h : OwnI w base v l) : RdI w w.heap.size v l := Own.rd encI_len h
set_option maxRecDepth 100000 in
theorem RdI.at {w : World} {B : Nat} {v : Value} {l : List Int} (h : RdI w B v l) : ∃ A c, v = .slice A l.length c ∧ l.length ≤ c ∧ ∀ i (_ : i < l.length), ∃ b o, A = some ⟨b, o, none⟩ ∧ b < B ∧ w.cell? ⟨b, o + i, none⟩ = some (.int .i64 l[i]) := by
  obtain ⟨A, c, hv, hc, hi⟩ := h
  refine ⟨A, c, hv, hc, fun i hs => ?_⟩
  obtain ⟨b, o, hA, hB, h1⟩ := hi i hs
  have := h1 0 _ rfl
  simp only [Nat.mul_one, Nat.add_zero] at this
  exact ⟨b, o, hA, hB, this⟩
set_option maxRecDepth 100000 in
theorem RdI.one (w : World) (n : Int) : RdI (w.alloc (.cells #[.int .i64 n] 3)) (w.heap.size + 1) (.slice (some ⟨w.heap.size, 0, none⟩) 1 1) [n] := by
  refine ⟨_, 1, rfl, Nat.le_refl _, fun i hi => ⟨w.heap.size, 0, rfl, Nat.lt_succ_self _, fun j u hu => ?_⟩⟩
  obtain rfl : i = 0 := by simp at hi; omega
  match j, hu with
  | 0, hu =>
    simp only [encI, List.getElem_cons_zero, List.getElem?_cons_zero, Option.some.injEq] at hu
    subst hu
    exact World.cell?_alloc_at _ _ _ _ rfl
  | j + 1, hu => simp [encI] at hu
set_option maxRecDepth 100000 in
theorem wpList_addI {ops : Array Oper} {rest : List Oper} {o : Oper} {a : Act} {Q : Exit → Act → World → Prop} {w : World} (hgd : Region.wanted o (yielded ops a.tmps) = true) (s x : Operand)
    (ho : o.op = .call { callee := .builtin .append, args := #[s, x], argTypes := #[28, 28] })
    (base : Nat) (v : Value) (l : List Int) (hs : a.eval s = v) (hown : OwnI w base v l) (B : Nat) (v2 : Value) (p : List Int) (hx : a.eval x = v2) (hp : RdI w B v2 p)
    (hlen : l.length + p.length ≤ 28147497670000) (hbase : base ≤ w.heap.size) (C : Nat) (w0 : World) (hb : Below C w0 w) (hC : C ≤ base)
    (h : ∀ A' c' w', Hid (OwnI w' base (.slice A' (l ++ p).length c') (l ++ p)) → Hid (Below C w0 w') → Hid (base ≤ w'.heap.size) → wpList Tryz.prog ops Q rest (a.put o.dst (.slice A' (l ++ p).length c')) w') : wpList Tryz.prog ops Q (o :: rest) a w := by
  obtain ⟨i0, hi, hz0, hz1, hz2⟩ := info_parts info_int
  refine BigFrame.wpList_want hgd fun K hK => ?_
  refine wp_addAny (enc := encI) (k := 1) 28 3 8 i0 _ Tryz.underlying28 hi hz0 hz1 hz2 rfl (by decide) encI_len encI_one s x ho base v l hs hown B v2 p hx hp (by unfold maxLen; omega) (by omega) hbase fun A' c' w' h1 h2 => ?_
  exact hK _ _ (h A' c' w' (Lib.hid h1) (Lib.hid (hown.grown hb h2 hC (Nat.le_trans hC hbase))) (Lib.hid (Nat.le_trans hbase h2.size)))

/-- what is known of the data of ints -/
def SizedI {H : Type} (d : DataW H) (l : List Int) : Prop := (d = .nil ∧ l = []) ∨ ∃ el sp, d = .slice el sp ∧ el.length = l.length
set_option maxRecDepth 100000 in
/-- a slice of ints that came in reads as a list -/
theorem open_intsI {H : Type} {enc : TypeId × Value → H} {W : World} {base : Nat} {v : Value} {d : DataW H} {p : List MemPlace} (hv : Value.okWide Tryz.prog W .any base 28 v) (h : DataW.Trod enc Tryz.prog W 0 (fun _ => true) true 28 v d p) :
    ∃ l, RdI W W.heap.size v l ∧ SizedI d l ∧ ∀ n ∈ l, -9223372036854775808 ≤ n ∧ n < 9223372036854775808 := by
  obtain ⟨a0, len, cap, rfl⟩ := okWide_slice Tryz.underlying28 hv
  obtain ⟨fuel, hf⟩ := h
  rcases open_ints Tryz.underlying28 Tryz.underlying3 (by kernel_rfl) hf with ⟨hcs, hx⟩ | ⟨a, len', cap', zs, hcs, _, hl, hm, hz, hx, hcell, hwz⟩
  · simp only [Value.cells] at hcs
    have e : Value.slice a0 len cap = .slice none 0 0 := by simpa using hcs
    injection e with e1 e2 e3
    subst e1 e2 e3
    simp only [Prod.mk.injEq] at hx
    exact ⟨[], Rd.nil _ _, .inl ⟨hx.1, rfl⟩, by simp⟩
  · simp only [Value.cells] at hcs
    have e : Value.slice a0 len cap = .slice (some a) len' cap' := by simpa using hcs
    injection e with e1 e2 e3
    subst e1 e2 e3
    simp only [Prod.mk.injEq] at hx
    obtain ⟨rfl, rfl⟩ := hx
    simp only [if_true] at hz
    have hb : ∀ n ∈ zs, -9223372036854775808 ≤ n ∧ n < 9223372036854775808 := fun n hn => by
      have h := hwz n hn
      have h1 : IntKind.i64.min = -9223372036854775808 := rfl
      have h2 : IntKind.i64.max = 9223372036854775807 := rfl
      simp only [Lit.wf, Bool.and_eq_true, decide_eq_true_eq] at h
      omega
    have hlen : (zs.take len).length = len := by simp; omega
    refine ⟨zs.take len, ⟨some a, cap, by rw [hlen], by rw [hlen]; exact hl, fun i hi => ?_⟩, .inr ⟨_, _, rfl, by simp [lits]⟩, fun n hn => hb n (List.mem_of_mem_take hn)⟩
    have hi' : i < len := by omega
    have hc := hcell i (by omega)
    have hsp : a.spot = none := by
      have h0 := hcell 0 (by omega)
      have e0 : a.add 0 = a := rfl
      rw [e0] at h0
      exact World.cell?_spot h0
    rw [addr_add a i hsp] at hc
    have hblk := World.block_lt_of_cell? _ _ hc
    refine ⟨a.block, a.off, by cases a; simp only at hsp; subst hsp; rfl, hblk, fun j u hu => ?_⟩
    match j, hu with
    | 0, hu =>
      simp only [encI, List.getElem?_cons_zero, Option.some.injEq] at hu
      subst hu
      have hlt : i < zs.length := by omega
      rw [Nat.mul_one, Nat.add_zero, hc]
      simp [List.getD, hlt]
    | j + 1, hu => simp [encI] at hu
set_option maxRecDepth 100000 in
theorem SizedI.reach {H : Type} {ts : List TypeId} {ds : List (DataW H)} (h : (DataW.weightsEach Tryz.prog ts ds).all (· ≤ reachBytes) = true) {j : Nat} {d : DataW H} {l : List Int} (hs : SizedI d l) (ht : ts[j]? = some 28) (hd : ds[j]? = some d) : l.length ≤ 17592186043904 := by
  rcases hs with ⟨_, rfl⟩ | ⟨el, sp, rfl, he⟩
  · simp
  · have := sized_slice h ht hd Tryz.underlying28
    rw [show Tryz.prog.bytesOf 3 = 8 by kernel_rfl, show reachBytes = 140737488351232 from rfl] at this
    omega
end Go.Proofs.YtgppgecglkellaaGreat
namespace Go.Proofs.YtgppgecglkellaaGreat
open Go.RowKit
attribute [local go_sem] less_eq same_eq le_eq ge_eq gt_eq

def encW (x : Wr) : List Value := [.string x.s.1, .string x.s.2, .int .i64 x.v]
theorem encW_len (x : Wr) : (encW x).length = 3 := rfl
theorem encW_one (x : Wr) : ∀ u ∈ encW x, u.oneCell' = true := by
  intro u hu
  simp only [encW, List.mem_cons, List.not_mem_nil, or_false] at hu
  rcases hu with rfl | rfl | rfl <;> rfl
set_option maxRecDepth 100000 in
theorem info_wr : (Tryz.prog.info? 81).map (fun i => (i.zero, i.size, i.bytes)) = some (some (.agg #[.string ⟨#[]⟩, .string ⟨#[]⟩, .int .i64 0]), 3, 40) := by kernel_rfl
abbrev OwnW (w : World) (base : Nat) (v : Value) (l : List Wr) : Prop := Own encW 3 81 w base v l
abbrev RdW (w : World) (B : Nat) (v : Value) (l : List Wr) : Prop := Rd encW 3 w B v l
theorem RdW.at {w : World} {B : Nat} {v : Value} {l : List Wr} (h : RdW w B v l) : ∃ A c, v = .slice A l.length c ∧ l.length ≤ c ∧ ∀ i (_ : i < l.length), ∃ b o, A = some ⟨b, o, none⟩ ∧ b < B ∧
    w.cell? ⟨b, o + i * 3, none⟩ = some (.string l[i].s.1) ∧ w.cell? ⟨b, o + i * 3 + 1, none⟩ = some (.string l[i].s.2) ∧ w.cell? ⟨b, o + i * 3 + 2, none⟩ = some (.int .i64 l[i].v) := by
  obtain ⟨A, c, hv, hc, hi⟩ := h
  refine ⟨A, c, hv, hc, fun i hs => ?_⟩
  obtain ⟨b, o, hA, hB, h1⟩ := hi i hs
  exact ⟨b, o, hA, hB, h1 0 _ rfl, h1 1 _ rfl, h1 2 _ rfl⟩
/-- what is read of the reference's Marks at block r -/
def RmRd (w : World) (r : Nat) (floor most : Int) (L : List Wr) : Prop :=
  ∃ A cap, Whole w r 62 [.slice A L.length cap, .int .i64 floor, .int .i64 most] ∧ RdW w w.heap.size (.slice A L.length cap) L
/-- the reference's Marks at block r, what was written in row ov; no more than n spans -/
structure RmAt (w : World) (base r : Nat) (ov : Option Nat) (n : Nat) (m : Mk) : Prop where
  blk : ∃ A cap L, Whole w r 62 [.slice A (L : List Wr).length cap, .int .i64 m.floor, .int .i64 m.most] ∧ OwnW w base (.slice A L.length cap) L ∧ Value.ownBlock (.slice A L.length cap) = ov ∧ ver L = m.f ∧ L.length ≤ n ∧ ∀ x ∈ L, 1 ≤ x.v
  low : base ≤ r ∧ base ≤ w.heap.size
  ok : m.Ok
def RmD (r : Nat) (ov : Option Nat) : Nat → Prop := fun i => i = r ∨ some i = ov
section
variable {w w' : World} {base r : Nat} {ov : Option Nat} {D : Nat → Prop} {n : Nat} {m : Mk} {floor most : Int} {L : List Wr}
theorem RmRd.below {B : Nat} (h : RmRd w r floor most L) (hb : Below B w w') (hB : w.heap.size ≤ B) : RmRd w' r floor most L := by
  obtain ⟨A, cap, hw, hr⟩ := h
  exact ⟨A, cap, hw.below hb (Nat.lt_of_lt_of_le hw.size hB), (hr.below hb hB).mono (by have := hb.size; omega)⟩
theorem RmAt.rd (h : RmAt w base r ov n m) : ∃ L, RmRd w r m.floor m.most L ∧ ver L = m.f ∧ L.length ≤ n ∧ ∀ x ∈ L, 1 ≤ x.v := by
  obtain ⟨A, cap, L, hw, ho, _, hv, hn, hp⟩ := h.blk
  exact ⟨L, ⟨A, cap, hw, Own.rd encW_len ho⟩, hv, hn, hp⟩
theorem RmAt.size (h : RmAt w base r ov n m) : r < w.heap.size := by
  obtain ⟨A, cap, L, hw, _⟩ := h.blk
  exact hw.size
theorem RmAt.row (h : RmAt w base r ov n m) {g : Nat} (hg : ov = some g) : base ≤ g ∧ g < w.heap.size := by
  obtain ⟨A, cap, L, hw, ho, hv, _⟩ := h.blk
  exact ho.low (hv.trans hg)
theorem Own.mvG {α : Type} {enc : α → List Value} {k : Nat} {e : TypeId} {D : Nat → Prop} {v : Value} {l : List α} (h : Own enc k e w base v l) (hm : Mv D w w') (hn : ∀ g, v.ownBlock = some g → ¬ D g) : Own enc k e w' base v l := by
  refine ⟨h.1, ?_⟩
  rcases h.2 with h2 | ⟨g, cap, cur, rfl, hb, hh, r⟩
  · exact .inl h2
  · exact .inr ⟨g, cap, cur, rfl, hb, (hm.block g (Array.getElem?_eq_some_iff.1 hh).1 (hn g rfl)).trans hh, r⟩
theorem RmAt.mv (h : RmAt w base r ov n m) (hm : Mv D w w') (h1 : ¬ D r) (h2 : ∀ g, ov = some g → ¬ D g) : RmAt w' base r ov n m := by
  obtain ⟨A, cap, L, hw, ho, hv, hf, hn, hp⟩ := h.blk
  exact ⟨⟨A, cap, L, hm.whole hw h1, ho.mvG hm (fun g hg => h2 g (hv ▸ hg)), hv, hf, hn, hp⟩, ⟨h.low.1, Nat.le_trans h.low.2 hm.size⟩, h.ok⟩
theorem RmAt.new (h : RmAt w base r ov n m) (hb : Below w.heap.size w w') : RmAt w' base r ov n m :=
  h.mv (D := fun i => w.heap.size ≤ i) (Mv.of_below hb) (fun e => by have := h.size; omega) (fun g hg e => by have := (h.row hg).2; omega)
theorem RmAt.wide {n' : Nat} (h : RmAt w base r ov n m) (hn : n ≤ n') : RmAt w base r ov n' m := by
  obtain ⟨A, cap, L, hw, ho, hv, hf, h1, hp⟩ := h.blk
  exact ⟨⟨A, cap, L, hw, ho, hv, hf, Nat.le_trans h1 hn, hp⟩, h.low, h.ok⟩
end
structure RmWent (w w' : World) (base r : Nat) (ov : Option Nat) (n : Nat) (m : Mk) (ov' : Option Nat) : Prop where
  now : RmAt w' base r ov' n m
  moved : Mv (RmD r ov) w w'
  new : ∀ g, ov' = some g → ov = some g ∨ w.heap.size ≤ g
theorem RmWent.below {w w' : World} {base r n n' : Nat} {ov ov' : Option Nat} {m m0 : Mk} (h : RmWent w w' base r ov n m ov') (h0 : RmAt w base r ov n' m0) : Below base w w' :=
  h.moved.below h0.low.2 (by
    rintro i (rfl | hi)
    · exact h0.low.1
    · exact (h0.row hi.symm).1)
theorem RmWent.of {w w' : World} {base r n : Nat} {ov : Option Nat} {m : Mk} (h : RmAt w base r ov n m) (hb : Below w.heap.size w w') : RmWent w w' base r ov n m ov := ⟨h.new hb, Mv.of_new hb _, fun _ h => .inl h⟩

set_option maxHeartbeats 1000000 in
theorem rmnew_any (v : Int) (hv : v < 9223372036854775808) (w : World) : Calls Tryz.prog 9 #[.int .i64 v] w fun e w' => ∃ r, e = .returned (.pointer (some ⟨r, 0, none⟩)) ∧ RmAt w' w.heap.size r none 0 (mnew v) ∧ Below w.heap.size w w' := by
  have hok := Mk.Ok.new hv
  obtain ⟨F, hF⟩ : ∃ F : Int, F = if v < 0 then 0 else v := ⟨_, rfl⟩
  have hm : mnew v = ⟨F, 0, fun _ => 0⟩ := by unfold mnew; rw [hF]
  rw [hm] at hok ⊢
  have hfin : RmAt (w.alloc (.cells #[.slice none 0 0, .int .i64 F, .int .i64 0] 62)) w.heap.size w.heap.size none 0 ⟨F, 0, fun _ => 0⟩ :=
    ⟨⟨none, 0, [], Whole.fresh w _ [_, _, _], Own.nil _ _, rfl, by funext k; exact ver_nil k, Nat.le_refl _, by simp⟩, ⟨Nat.le_refl _, by simp⟩, hok⟩
  have HF := Lib.hid hfin
  clear hok hm hfin
  go_enter Tryz.func9, Tryz.ntmps9
  by_cases h : v < 0
  · rw [if_pos h] at hF
    subst hF
    go_wp2_with fail
    go_ret
    exact ⟨_, rfl, HF.out, (Below.refl _ w).alloc (Nat.le_refl _) _⟩
  · rw [if_neg h] at hF
    subst hF
    go_wp2_with fail
    go_ret
    exact ⟨_, rfl, HF.out, (Below.refl _ w).alloc (Nat.le_refl _) _⟩

set_option maxHeartbeats 1000000 in
theorem rmforget_any (base r : Nat) (ov : Option Nat) (n : Nat) (m : Mk) (v : Int) (hv : v < 9223372036854775808) (w : World) (h : RmAt w base r ov n m) :
    Calls Tryz.prog 20 #[.pointer (some ⟨r, 0, none⟩), .int .i64 v] w fun e w' => e = .returned (.int .i64 (ferr m v)) ∧ RmWent w w' base r ov n (fnext m v) ov := by
  have H := Lib.hid h
  obtain ⟨A, cap, L, hw, ho, hov, hf, hn, hp⟩ := h.blk
  have c0 := hw.cell 1 _ rfl
  have f0 := hw.frozen 1
  have hrow : ∀ g, Value.ownBlock (.slice A L.length cap) = some g → g ≠ r := fun g hg e => Own.apart ho hw (by decide) (by rw [hg, e])
  obtain ⟨E, hE⟩ : ∃ E, E = ferr m v := ⟨_, rfl⟩
  obtain ⟨N, hN⟩ : ∃ N, N = fnext m v := ⟨_, rfl⟩
  have hok := h.ok.forget hv
  rw [← hN] at hok
  rw [← hE, ← hN]
  unfold ferr at hE
  unfold fnext at hN
  by_cases hlt : v < m.floor
  · rw [if_pos hlt] at hE hN
    subst hE hN
    clear h hw ho hov hf hn hp hrow hok
    go_enter Tryz.func20, Tryz.ntmps20
    go_wp2_with fail
    go_ret
    exact ⟨rfl, .of H.out (Below.refl _ _)⟩
  · rw [if_neg hlt] at hE hN
    subst hE hN
    have hm : Mv (fun i => i = r) w (w.setCell ⟨r, 1, none⟩ (.int .i64 v)) := (Mv.refl (fun i => i = r) w).setCell (p := ⟨r, 1, none⟩) (fun _ => rfl) _
    have hfin : RmWent w (w.setCell ⟨r, 1, none⟩ (.int .i64 v)) base r ov n ⟨v, m.most, m.f⟩ ov :=
      ⟨⟨⟨A, cap, L, hw.put 1 _, ho.mvG hm hrow, hov, hf, hn, hp⟩, ⟨h.low.1, by simpa using h.low.2⟩, hok⟩, hm.mono (fun _ _ e => .inl e), fun _ h => .inl h⟩
    have HF := Lib.hid hfin
    clear h hw ho hov hf hn hp hrow hok hm hfin
    go_enter Tryz.func20, Tryz.ntmps20
    go_wp2_with fail
    go_ret
    exact ⟨rfl, HF.out⟩

theorem left_iff {L : List Wr} {n : Nat} (hn : n < L.length) (k : K) : Left L n k ↔ has L[n].s k ∧ ¬ mem ((L.drop (n + 1)).map (·.s)) k := by
  unfold Left mem
  constructor
  · rintro ⟨x, hx, h1, h2⟩
    rw [List.getElem?_eq_getElem hn] at hx
    injection hx with hx
    subst hx
    refine ⟨h1, ?_⟩
    rintro ⟨s, hs, hk⟩
    obtain ⟨y, hy, rfl⟩ := List.mem_map.1 hs
    exact h2 y hy hk
  · rintro ⟨h1, h2⟩
    exact ⟨_, List.getElem?_eq_getElem hn, h1, fun y hy hk => h2 ⟨_, List.mem_map.2 ⟨y, hy, rfl⟩, hk⟩⟩
set_option maxHeartbeats 4000000 in
set_option maxRecDepth 100000 in
theorem rmleft_any (r : Nat) (floor most : Int) (L : List Wr) (n : Nat) (hn : n < L.length) (hl : L.length ≤ 90000) (w : World) (h : RmRd w r floor most L) :
    Calls Tryz.prog 53 #[.pointer (some ⟨r, 0, none⟩), .int .i64 n] w fun e w' => ∃ v R, e = .returned v ∧ OwnS w' w.heap.size v R ∧ Below w.heap.size w w' ∧ Fits R (fun k => Left L n k) ∧ R.length ≤ 200000 := by
  obtain ⟨A, cap, hw, hr⟩ := h
  have hrs := hw.size
  obtain ⟨_, _, e, hcc, hi⟩ := hr.at
  injection e with e1 e2 e3
  subst e1 e3
  have HI := Lib.hid hi
  have HW := Lib.hid hw
  have HLI := Lib.hid (left_iff hn)
  clear hi hr hw
  have hw1 : IntKind.i64.wrap ((n : Int) + 1) = ((n + 1 : Nat) : Int) := by rw [IntKind.wrap_i64]; omega
  go_enter Tryz.func53, Tryz.ntmps53
  go_wp2_with fail
  clear hw1
  go_loopw [5, 6] (fun ov iv wr => ∃ (i : Nat) (A' : Option Addr) (c' : Nat), i ≤ L.length ∧ n + 1 ≤ i ∧ iv = .int .i64 (i : Int) ∧ ov = .slice A' ((L.drop (n + 1)).take (i - (n + 1))).length c' ∧ OwnS wr w.heap.size ov (((L.drop (n + 1)).take (i - (n + 1))).map (·.s)) ∧ Below w.heap.size w wr) (fun _ iv _ => L.length - (intOf iv).toNat)
  case atStart =>
    refine ⟨n + 1, some ⟨w.heap.size, 0, none⟩, 0, by omega, Nat.le_refl _, rfl, by simp, ?_, (Below.refl _ w).alloc (Nat.le_refl _) _⟩
    rw [Nat.sub_self, List.take_zero]
    exact Own.empty (enc := cellsS) (k := 2) (e := 52) w w.heap.size (Nat.le_refl _)
  case round =>
    obtain ⟨i, A', c', hil, hni, rfl, rfl, ho, hbw⟩ := hrel
    have hz := hbw.size
    have HBW := Lib.hid hbw
    have HO := Lib.hid ho
    have c0 := (HW.out.below hbw hrs).cell 0 _ rfl
    clear hbw ho
    by_cases hlt : i < L.length
    · obtain ⟨b, o, rfl, hbB, k0, k1, _⟩ := HI.out i hlt
      rw [← HBW.out.cell (p := ⟨b, o + i * 3, none⟩) hbB] at k0
      rw [← HBW.out.cell (p := ⟨b, o + i * 3 + 1, none⟩) hbB] at k1
      have hnext : (L.drop (n + 1)).take (i + 1 - (n + 1)) = (L.drop (n + 1)).take (i - (n + 1)) ++ [L[i]] := by
        rw [show i + 1 - (n + 1) = (i - (n + 1)) + 1 by omega, List.take_add_one, List.getElem?_drop, show n + 1 + (i - (n + 1)) = i by omega, List.getElem?_eq_getElem hlt]
        rfl
      have hkl : ((L.drop (n + 1)).take (i - (n + 1))).length ≤ 90000 := by rw [List.length_take, List.length_drop]; omega
      generalize (L.drop (n + 1)).take (i - (n + 1)) = J at HO hnext hkl ⊢
      generalize L[i] = z at k0 k1 hnext
      obtain ⟨⟨zf, zt⟩, zv⟩ := z
      simp only at k0 k1
      have HN := Lib.hid hnext
      have HKL := Lib.hid hkl
      have h0 : (0 : Int) ≤ (i : Int) := by omega
      have h1 : (i : Int) < (L.length : Int) := by omega
      have h2 : IntKind.i64.wrap ((i : Int) + 1) = ((i + 1 : Nat) : Int) := by rw [IntKind.wrap_i64]; omega
      have HOA := Lib.hid (HO.out.alloc (.cells #[.string zf, .string zt] 52))
      have HZ2 := Lib.hid (show w.heap.size ≤ (wr.alloc (.cells #[.string zf, .string zt] 52)).heap.size by simp; omega)
      have HB2 := Lib.hid (HBW.out.alloc hz (.cells #[.string zf, .string zt] 52))
      clear hnext hkl
      go_wp2_with (at_builtin; refine wpList_addT rfl _ _ rfl w.heap.size (.slice A' J.length c') (J.map (·.s)) rfl HOA.out (wr.heap.size + 1) (.slice (some ⟨wr.heap.size, 0, none⟩) 1 1) [(zf, zt)] rfl (RdS.one wr (zf, zt)) (by have := HKL.out; simp only [List.length_map, List.length_cons, List.length_nil]; omega) HZ2.out w.heap.size w HB2.out (Nat.le_refl _) ?_)
      intro A4 c4 w4 ho4 hb4 hz4
      go_wp2_with fail
      go_roundw
      case rel => exact ⟨i + 1, A4, c4, by omega, by omega, rfl, by rw [HN.out]; simp, by rw [HN.out]; simpa using ho4.out, hb4.out⟩
      case measure => simp [intOf]; omega
    · obtain rfl : i = L.length := by omega
      have hall : (L.drop (n + 1)).take (L.length - (n + 1)) = L.drop (n + 1) := by rw [← List.length_drop]; exact List.take_length
      rw [hall] at HO ⊢
      obtain ⟨b, o, rfl, hbB, k0, k1, _⟩ := HI.out n hn
      rw [← HBW.out.cell (p := ⟨b, o + n * 3, none⟩) hbB] at k0
      rw [← HBW.out.cell (p := ⟨b, o + n * 3 + 1, none⟩) hbB] at k1
      have hcon := rwithout_any L[n].s ((L.drop (n + 1)).map (·.s)) _ wr HO.out.rd (by rw [List.length_map, List.length_drop]; omega)
      generalize L[n] = z at k0 k1 hcon HLI
      obtain ⟨⟨zf, zt⟩, zv⟩ := z
      simp only at k0 k1 hcon HLI
      generalize L.drop (n + 1) = J at HO hcon HLI ⊢
      have HC := Lib.hid hcon
      have h0 : (0 : Int) ≤ (n : Int) := by omega
      have h1 : (n : Int) < (L.length : Int) := by omega
      clear hcon hall
      go_wp2_with (go_at_call 75; refine HC.out.mono ?_; rintro e w5 ⟨v5, R, rfl, ho5, hb5, hf5, hl5⟩)
      have HO5 := Lib.hid ho5
      have HB5 := Lib.hid hb5
      have HF5 := Lib.hid hf5
      have HL5 := Lib.hid hl5
      clear ho5 hb5 hf5 hl5
      go_wp2_with fail
      refine bodyPost_ret (v := v5) ?_ rfl ⟨_, _, rfl, HO5.out.lower hz, HBW.out.trans (HB5.out.mono hz), ⟨HF5.out.1, fun k => by rw [HF5.out.2 k]; exact (HLI.out k).symm⟩, HL5.out⟩
      simp [results, Tryz.results53, go_sem]
end Go.Proofs.YtgppgecglkellaaGreat
namespace Go.Proofs.YtgppgecglkellaaGreat
open Go.RowKit
section
variable {α : Type} {enc : α → List Value} {k : Nat}
theorem flatG_take (hk : ∀ x, (enc x).length = k) : ∀ (l : List α) (i : Nat), flatG enc (l.take i) = (flatG enc l).take (i * k)
  | [], i => by simp [flatG]
  | x :: r, 0 => by simp [flatG]
  | x :: r, i + 1 => by
    rw [List.take_succ_cons, show x :: r.take i = [x] ++ r.take i from rfl, show x :: r = [x] ++ r from rfl, flatG_append, flatG_append, flatG_take hk r i, List.take_append]
    have h1 : (flatG enc [x]).length = k := by simp [flatG, hk]
    rw [List.take_of_length_le (l := flatG enc [x]) (by rw [h1, Nat.add_mul]; omega), h1, show (i + 1) * k - k = i * k by rw [Nat.add_mul]; omega]
theorem flatG_drop (hk : ∀ x, (enc x).length = k) : ∀ (l : List α) (i : Nat), flatG enc (l.drop i) = (flatG enc l).drop (i * k)
  | [], i => by simp [flatG]
  | x :: r, 0 => by simp [flatG]
  | x :: r, i + 1 => by
    rw [List.drop_succ_cons, show x :: r = [x] ++ r from rfl, flatG_append, flatG_drop hk r i, List.drop_append]
    have h1 : (flatG enc [x]).length = k := by simp [flatG, hk]
    rw [show (flatG enc [x]).drop ((i + 1) * k) = [] from List.drop_eq_nil_of_le (by rw [h1, Nat.add_mul]; omega), h1, show (i + 1) * k - k = i * k by rw [Nat.add_mul]; omega, List.nil_append]
end
section
variable {α : Type} (L cs : List α) (off n : Nat)
theorem take_splice_lt (h : n ≤ off) (ho : off ≤ L.length) : (splice L off cs).take n = L.take n := by
  unfold splice
  rw [List.take_append_of_le_length (by simp; omega), List.take_take, Nat.min_eq_left h]
theorem take_splice_end (h : off ≤ L.length) (hn : n = off + cs.length) : (splice L off cs).take n = L.take off ++ cs := by
  unfold splice
  subst hn
  rw [← List.append_assoc, List.take_append_of_le_length (by simp; omega)]
  exact List.take_of_length_le (by simp; omega)
theorem drop_splice_ge (h : off + cs.length ≤ n) (ho : off ≤ L.length) : (splice L off cs).drop n = L.drop n := by
  unfold splice
  rw [← List.append_assoc, List.drop_append, List.drop_eq_nil_of_le (by simp; omega), List.nil_append, List.drop_drop]
  congr 1
  simp; omega
theorem get_splice_ge (j : Nat) (h : off + cs.length ≤ j) (ho : off ≤ L.length) : (splice L off cs)[j]? = L[j]? := by
  have := drop_splice_ge L cs off j h ho
  have h2 := congrArg (fun l => l[0]?) this
  simpa using h2
end
theorem Whole.srcs {w : World} {g : Nat} {t : TypeId} {cur : List Value} (h : Whole w g t cur) (o : Nat) (cs : List Value) (hc : ∀ j v, cs[j]? = some v → cur[o + j]? = some v) : ∀ j v, cs[j]? = some v → w.cell? ((⟨g, o, none⟩ : Addr).add j) = some v :=
  fun j v hj => by rw [Addr.add_lit]; exact h.cell _ _ (hc j v hj)
theorem cells_at {cur A B : List Value} {n : Nat} (h : cur.take n = A ++ B) : ∀ j v, B[j]? = some v → cur[A.length + j]? = some v := by
  intro j v hj
  have hl : A.length + j < n := by
    have h1 := (List.getElem?_eq_some_iff.1 hj).1
    have h2 := congrArg List.length h
    simp at h2
    omega
  have h3 : (cur.take n)[A.length + j]? = some v := by rw [h, List.getElem?_append_right (by omega), Nat.add_sub_cancel_left]; exact hj
  rwa [List.getElem?_take_of_lt hl] at h3
theorem Moved.away {w w' : World} {g : Nat} {t : TypeId} {cur : List Value} (h : Moved w w' g t cur) {b : Nat} {t' : TypeId} {cs : List Value} (hb : Whole w b t' cs) (hne : b ≠ g) : Whole w' b t' cs := hb.grown h.grown (by simpa using hne)

set_option maxRecDepth 100000 in
theorem info_mk : (Tryz.prog.info? 77).map (fun i => (i.zero, i.size, i.bytes)) = some (some (.agg #[.string ⟨#[]⟩, .string ⟨#[]⟩, .int .i64 0]), 3, 40) := by kernel_rfl
theorem info_mkE : ∃ i0, Tryz.prog.info? 77 = some i0 ∧ i0.zero = some (.agg #[.string ⟨#[]⟩, .string ⟨#[]⟩, .int .i64 0]) ∧ i0.size = 3 ∧ i0.bytes = 40 := info_parts info_mk
abbrev OwnMk (w : World) (base : Nat) (v : Value) (l : List Wr) : Prop := Own encW 3 77 w base v l

section
variable {ops : Array Oper} {rest : List Oper} {o : Oper} {a : Act} {Q : Exit → Act → World → Prop} {K1 : Act → World → Prop} {w : World}
theorem wp_copyP (d s : Operand) (ho : o.op = .call { callee := .builtin .copy, args := #[d, s], argTypes := #[68, 68] })
    (g off : Nat) (cur cs : List Value) (dp sp : Option Addr) (dLen dCap sLen sCap : Nat) (hd : a.eval d = .slice dp dLen dCap) (hs : a.eval s = .slice sp sLen sCap) (hg : Whole w g 77 cur) (hn : cs.length = Nat.min sLen dLen * 3)
    (hp : 0 < cs.length → dp = some ⟨g, off, none⟩) (hsrc : Srcs w sp cs) (hfit : off + cs.length ≤ cur.length) (h1 : ∀ v ∈ cs, v.oneCell' = true)
    (h : ∀ w', Hid (Moved w w' g 77 (splice cur off cs)) → K1 (a.put o.dst (goInt (Nat.min sLen dLen))) w') : Oper.wp Tryz.prog o a w K1 Q := by
  obtain ⟨i0, hi, hz0, hz1, hz2⟩ := info_mkE
  obtain ⟨w', hr, hm⟩ := run_copyK (P := Tryz.prog) w 68 68 o.type 77 i0 3 Tryz.underlying68 hi hz1 g off dLen dCap dp sp sLen sCap _ cur hg cs hn hp hsrc hfit h1
  exact wp_call2 .copy (.inl rfl) d s _ _ ho _ _ hd hs hr (h w' (Lib.hid hm))
theorem wpList_copyP (hgd : Region.wanted o (yielded ops a.tmps) = true) (d s : Operand) (ho : o.op = .call { callee := .builtin .copy, args := #[d, s], argTypes := #[68, 68] })
    (g off : Nat) (cur cs : List Value) (dp sp : Option Addr) (dLen dCap sLen sCap : Nat) (hd : a.eval d = .slice dp dLen dCap) (hs : a.eval s = .slice sp sLen sCap) (hg : Whole w g 77 cur) (hn : cs.length = Nat.min sLen dLen * 3)
    (hp : 0 < cs.length → dp = some ⟨g, off, none⟩) (hsrc : Srcs w sp cs) (hfit : off + cs.length ≤ cur.length) (h1 : ∀ v ∈ cs, v.oneCell' = true)
    (h : ∀ w', Hid (Moved w w' g 77 (splice cur off cs)) → wpList Tryz.prog ops Q rest (a.put o.dst (goInt (Nat.min sLen dLen))) w') : wpList Tryz.prog ops Q (o :: rest) a w :=
  BigFrame.wpList_want hgd fun _ hK => wp_copyP d s ho g off cur cs dp sp dLen dCap sLen sCap hd hs hg hn hp hsrc hfit h1 fun w' hm => hK _ _ (h w' hm)
theorem wpList_roomP (hgd : Region.wanted o (yielded ops a.tmps) = true) (d s : Operand) (ho : o.op = .call { callee := .builtin .append, args := #[d, s], argTypes := #[68, 68] })
    (g i cap : Nat) (cur cs : List Value) (sp : Option Addr) (m mc : Nat) (hd : a.eval d = .slice (some ⟨g, 0, none⟩) i cap) (hs : a.eval s = .slice sp m mc) (hg : Whole w g 77 cur) (hn : cs.length = m * 3)
    (hsrc : Srcs w sp cs) (hroom : i + m ≤ cap) (hfit : i * 3 + cs.length ≤ cur.length) (h1 : ∀ v ∈ cs, v.oneCell' = true)
    (h : ∀ w', Hid (Moved w w' g 77 (splice cur (i * 3) cs)) → wpList Tryz.prog ops Q rest (a.put o.dst (.slice (some ⟨g, 0, none⟩) (i + m) cap)) w') : wpList Tryz.prog ops Q (o :: rest) a w := by
  obtain ⟨i0, hi, hz0, hz1, hz2⟩ := info_mkE
  obtain ⟨w', hr, hm⟩ := run_roomK (P := Tryz.prog) w 68 o.type 77 i0 3 Tryz.underlying68 hi hz1 g i cap sp m mc _ cur hg cs hn hsrc hroom hfit h1
  exact BigFrame.wpList_want hgd fun K2 hK => wp_call2 .append (.inr rfl) d s _ _ ho _ _ hd hs hr (hK _ _ (h w' (Lib.hid hm)))
theorem wpList_clearP (hgd : Region.wanted o (yielded ops a.tmps) = true) (d : Operand) (ho : o.op = .call { callee := .builtin .clear, args := #[d], argTypes := #[68] })
    (g off : Nat) (cur : List Value) (dp : Option Addr) (n c : Nat) (hd : a.eval d = .slice dp n c) (hg : Whole w g 77 cur) (hp : 0 < n → dp = some ⟨g, off, none⟩) (hfit : off + n * 3 ≤ cur.length)
    (h : ∀ w' zs, zs.length = n * 3 → Hid (Moved w w' g 77 (splice cur off zs)) → wpList Tryz.prog ops Q rest (a.put o.dst (.tuple #[])) w') : wpList Tryz.prog ops Q (o :: rest) a w := by
  obtain ⟨w', zs, hr, hl, hm⟩ := run_clearK (P := Tryz.prog) w 68 o.type 77 (.agg #[.string ⟨#[]⟩, .string ⟨#[]⟩, .int .i64 0]) 3 Tryz.underlying68 Tryz.zeroValue77 rfl (by intro v hv; simp [Value.cells] at hv; rcases hv with rfl | rfl <;> rfl) g off n c dp _ cur hg hp hfit
  exact BigFrame.wpList_want hgd fun K2 hK => wp_clearK d _ ho _ hd hr (hK _ _ (h w' zs hl (Lib.hid hm)))
theorem wpList_zerosP (hgd : Region.wanted o (yielded ops a.tmps) = true) (d s : Operand) (ho : o.op = .call { callee := .builtin .append, args := #[d, s], argTypes := #[68, 3] })
    (ap : Option Addr) (i cap n : Nat) (olds : List Value) (hd : a.eval d = .slice ap i cap) (hs : a.eval s = .int .i64 n) (hl : olds.length = i * 3) (hsrc : Srcs w ap olds) (h0 : 0 < n) (hg : cap < i + n) (hfit : i + n ≤ 2000000)
    (h : ∀ w' c cur, Hid (Whole w' w.heap.size 77 cur ∧ cur.length = c * 3 ∧ cur.take (i * 3) = olds ∧ i + n ≤ c ∧ c ≤ maxLen ∧ w.grownBy w' none ∧ w'.heap.size = w.heap.size + 1) → i + n ≤ c → wpList Tryz.prog ops Q rest (a.put o.dst (.slice (some ⟨w.heap.size, 0, none⟩) (i + n) c)) w') : wpList Tryz.prog ops Q (o :: rest) a w := by
  obtain ⟨i0, hi, hz0, hz1, hz2⟩ := info_mkE
  obtain ⟨w', c, cur, hr, hm⟩ := run_zerosK (P := Tryz.prog) w 68 3 o.type 77 i0 _ 3 40 .i64 _ Tryz.underlying68 Tryz.underlying3 hi hz0 hz1 (by decide) hz2 rfl ap i cap n olds hl hsrc h0 hg (by unfold maxLen; omega) (by omega)
  exact BigFrame.wpList_want hgd fun K2 hK => wp_call2 .append (.inr rfl) d s _ _ ho _ _ hd hs hr (hK _ _ (h w' c cur (Lib.hid hm) hm.2.2.2.1))
end
theorem encW_one' (l : List Wr) : ∀ v ∈ flatG encW l, v.oneCell' = true := by
  intro u hu
  obtain ⟨y, _, hy⟩ := List.mem_flatMap.1 hu
  exact encW_one y u hy
end Go.Proofs.YtgppgecglkellaaGreat
namespace Go.Proofs.YtgppgecglkellaaGreat
open Go.RowKit
attribute [local go_sem] less_eq same_eq le_eq ge_eq gt_eq

set_option maxHeartbeats 400000 in
theorem empty_any (s : K × K) (w : World) : Calls Tryz.prog 43 #[.agg #[.string s.1, .string s.2]] w fun e w' => e = .returned (.bool (decide (s.2 ≤ s.1))) ∧ Below w.heap.size w w' := by
  go_enter Tryz.func43, Tryz.ntmps43
  go_wp2
  go_ret
  exact ⟨rfl, (Below.refl _ _).alloc (Nat.le_refl _) _⟩

/-- cmp.Compare at texts -/
def cmpKey (a b : K) : Int := if a < b then -1 else if b < a then 1 else 0
set_option maxHeartbeats 400000 in
theorem compare_any (a b : K) (w : World) : Calls Tryz.prog 51 #[.string a, .string b] w fun e w' => e = .returned (.int .i64 (cmpKey a b)) ∧ w' = w := by
  by_cases h1 : a < b
  · go_enter Tryz.func51, Tryz.ntmps51
    go_wp2
    go_ret
    exact ⟨by simp [cmpKey, h1], rfl⟩
  · by_cases h2 : a = b
    · subst h2
      go_enter Tryz.func51, Tryz.ntmps51
      go_wp2
      go_ret
      exact ⟨by simp [cmpKey, h1], rfl⟩
    · have h3 : b < a := by grind
      go_enter Tryz.func51, Tryz.ntmps51
      go_wp2
      go_ret
      exact ⟨by simp [cmpKey, h1, h3], rfl⟩

set_option maxHeartbeats 400000 in
theorem next_any (k : K) (w : World) (hk : k.size < 9223372036854775807) : Calls Tryz.prog 101 #[.string k] w fun e w' => e = .returned (.string (k ++ ⟨#[0]⟩)) ∧ w' = w := by
  go_enter Tryz.func101, Tryz.ntmps101
  go_wp2
  go_ret
  exact ⟨rfl, rfl⟩

set_option maxHeartbeats 400000 in
theorem meet_any (a b : K × K) (w : World) : Calls Tryz.prog 45 #[.agg #[.string a.1, .string a.2], .agg #[.string b.1, .string b.2]] w fun e w' => e = .returned (spv (meet a b)) ∧ Below w.heap.size w w' := by
  have hmax := fun (w : World) (ts : Array TypeId) (t : TypeId) (x y : ByteArray) => (Lib.run_max_strs (P := Tryz.prog) w ts t x y)
  have hmin := fun (w : World) (ts : Array TypeId) (t : TypeId) (x y : ByteArray) => (Lib.run_min_strs (P := Tryz.prog) w ts t x y)
  simp only [maxS_eq, minS_eq] at hmax hmin
  by_cases h : mn a.2 b.2 ≤ mx a.1 b.1
  · have e : meet a b = (⟨#[]⟩, ⟨#[]⟩) := by rw [meet, if_pos h]
    rw [e]
    go_enter Tryz.func45, Tryz.ntmps45
    go_wp2
    refine bodyPost_ret (v := .agg #[.string ⟨#[]⟩, .string ⟨#[]⟩]) (by simp [results, Tryz.results45, go_sem]) rfl ⟨rfl, ?_⟩
    ((repeat' (first | exact Below.refl _ _ | refine Below.alloc ?_ ?_ _ | refine Below.setCell ?_ ?_ _ | refine Below.drew ?_)); all_goals ((try simp only [World.size_alloc]); omega))
  · have e : meet a b = (mx a.1 b.1, mn a.2 b.2) := by rw [meet, if_neg h]
    rw [e]
    go_enter Tryz.func45, Tryz.ntmps45
    go_wp2
    refine bodyPost_ret (v := .agg #[.string (mx a.1 b.1), .string (mn a.2 b.2)]) (by simp [results, Tryz.results45, go_sem]) rfl ⟨rfl, ?_⟩
    ((repeat' (first | exact Below.refl _ _ | refine Below.alloc ?_ ?_ _ | refine Below.setCell ?_ ?_ _ | refine Below.drew ?_)); all_goals ((try simp only [World.size_alloc]); omega))

end Go.Proofs.YtgppgecglkellaaGreat
namespace Go.Proofs.YtgppgecglkellaaGreat
open Go.RowKit

section
variable {α : Type} {enc : α → List Value} {k : Nat} {P : Program}
theorem run_append_new (w : World) (base : Nat) (t ty e : TypeId) (i : TypeInfo) (z : Value) (size bytes : Nat) (ht : P.underlying t = some (.slice e)) (hi : P.info? e = some i) (hz : i.zero = some z)
    (hsize : i.size = size) (hby : i.bytes = bytes) (hzs : z.cells.size = size) (hsz : 0 < size)
    (v : Value) (n : Nat) (xs : List Value) (hown : w.ownsRow base e size v n xs)
    (a : Addr) (m c : Nat) (news : List Value) (hl : news.length = m * size) (hnews : ∀ j u, news[j]? = some u → w.cell? (a.add j) = some u) (h1 : ∀ u ∈ news, u.oneCell' = true)
    (h63 : n + m ≤ maxLen) (hbytes : ((n + m) + (n + m) / 4 + 192) * bytes ≤ 281474976710656) (v' : Value) (w' : World) (hrun : (Builtin.append_ #[t, t] ty #[v, .slice (some a) m c]).run P w = .ok v' w') : NewRow w v.ownBlock v'.ownBlock := by
  subst hsize
  subst hby
  have hsmall : n + m ≤ 9223372036854775807 := by simp only [maxLen] at h63; omega
  rcases hown.2 with ⟨rfl, rfl⟩ | ⟨g, cap, cur, rfl, hbg, hg, hnc, hcm, hcs, htake⟩
  · by_cases hm : m = 0
    · subst hm
      have hn : news = [] := List.eq_nil_of_length_eq_zero (by simpa using hl)
      subst hn
      have hr : (Builtin.append_ #[t, t] ty #[.slice none 0 0, .slice (some a) 0 c]).run P w = .ok (.slice none 0 0) w := by
        simp [Builtin.append_, run_underlying ht, sizeOf, typeInfo, hi, Builtin.lenOf, Builtin.firstCells, loadCells, loadCellsFrom]
      rw [hr] at hrun
      injection hrun with h1 h2
      subst h1
      exact NewRow.refl _ _
    · have hr := run_append_nil (P := P) w t ty e i z ht hi hz a m c news hl hnews (by omega) (by omega) (by have hb := hbytes; simp only [Nat.zero_add] at hb; exact Nat.le_trans (Nat.mul_le_mul_right _ (by omega)) hb)
      rw [hr] at hrun
      injection hrun with h1 h2
      subst h1
      intro g hg
      injection hg with hg
      exact .inr (by simp only at hg; omega)
  · by_cases hroom : n + m ≤ cap
    · have hfit : n * i.size + news.length ≤ cur.size := by rw [hl, hcs, ← Nat.add_mul]; exact Nat.mul_le_mul_right _ hroom
      have hr := run_append_room (P := P) w t ty e i ht hi g n cap cur hg a m c news hl hnews h1 hroom hfit
      rw [hr] at hrun
      injection hrun with h1 h2
      subst h1
      exact fun _ h => .inl h
    · have holds : ∀ j u, xs[j]? = some u → w.cell? ((⟨g, 0, none⟩ : Addr).add j) = some u := hown.cells (g := g) rfl
      have hr := run_append_grow (P := P) w t ty e i z ht hi hz ⟨g, 0, none⟩ n cap xs hown.1 holds a m c news hl hnews (by omega) (by omega) (growslice_fits_wide (by omega) hbytes)
      rw [hr] at hrun
      injection hrun with h1 h2
      subst h1
      intro g2 hg2
      injection hg2 with hg2
      exact .inr (by simp only at hg2; omega)

/-- append to a slice of the call's own; its block is the old one or a new one -/
theorem wp_addAnyN (t e : TypeId) (bytes : Nat) (i0 : TypeInfo) (z : Value) (ht : P.underlying t = some (.slice e)) (hi : P.info? e = some i0) (hz0 : i0.zero = some z) (hz1 : i0.size = k) (hz2 : i0.bytes = bytes) (hzs : z.cells.size = k) (hk0 : 0 < k)
    (hk : ∀ x, (enc x).length = k) (hone : ∀ x, ∀ u ∈ enc x, u.oneCell' = true) {o : Oper} {a : Act} {K : Act → World → Prop} {Q : Exit → Act → World → Prop} {w : World} (s x : Operand)
    (ho : o.op = .call { callee := .builtin .append, args := #[s, x], argTypes := #[t, t] })
    (base : Nat) (v : Value) (l : List α) (hs : a.eval s = v) (hown : Own enc k e w base v l) (B : Nat) (v2 : Value) (p : List α) (hx : a.eval x = v2) (hp : Rd enc k w B v2 p)
    (h63 : l.length + p.length ≤ maxLen) (hbytes : ((l.length + p.length) + (l.length + p.length) / 4 + 192) * bytes ≤ 281474976710656) (hbase : base ≤ w.heap.size)
    (h : ∀ A' c' w', Own enc k e w' base (.slice A' (l ++ p).length c') (l ++ p) → w.grownBy w' v.ownBlock → NewRow w v.ownBlock (Value.ownBlock (.slice A' (l ++ p).length c')) → K (a.put o.dst (.slice A' (l ++ p).length c')) w') : o.wp P a w K Q := by
  obtain ⟨A, c, rfl, hc, hi2⟩ := hp
  have main : ∃ v' w', (Builtin.append_ #[t, t] o.type #[v, .slice A p.length c]).run P w = .ok v' w' ∧ w'.ownsRow base e k v' (l ++ p).length (flatG enc (l ++ p)) ∧ w.grownBy w' v.ownBlock ∧ NewRow w v.ownBlock v'.ownBlock := by
    cases A with
    | none =>
      have hp0 : p = [] := by
        cases p with
        | nil => rfl
        | cons y r =>
          obtain ⟨b, o', hA, _⟩ := hi2 0 (by simp)
          cases hA
      subst hp0
      refine ⟨v, w, ?_, by rw [List.append_nil]; exact hown, ⟨rfl, rfl, rfl, Nat.le_refl _, fun _ _ _ => rfl⟩, NewRow.refl _ _⟩
      rcases hown.2 with ⟨rfl, _⟩ | ⟨g, cap, cur, rfl, _, _, hnc, _⟩
      · simp [Builtin.append_, run_underlying ht, sizeOf, typeInfo, hi, Builtin.lenOf, Builtin.firstCells]
      · simp [Builtin.append_, run_underlying ht, sizeOf, typeInfo, hi, Builtin.lenOf, Builtin.firstCells, hnc, storeCells]
    | some ad =>
      have hcells : ∀ j u, (flatG enc p)[j]? = some u → w.cell? (ad.add j) = some u := by
        intro j u hu
        have hjl : j < p.length * k := by
          rcases Nat.lt_or_ge j (p.length * k) with h' | h'
          · exact h'
          · rw [List.getElem?_eq_none (by rw [flatG_length hk]; exact h')] at hu; cases hu
        have hil : j / k < p.length := by rw [Nat.div_lt_iff_lt_mul hk0]; exact hjl
        obtain ⟨b, o', hA, _, h1⟩ := hi2 (j / k) hil
        have hm : j % k < k := Nat.mod_lt _ hk0
        have e1 : j / k * k + j % k = j := Nat.div_add_mod' j k
        have hg := flatG_get hk p (j / k) hil (j % k) hm
        rw [e1, hu] at hg
        have := h1 (j % k) u hg.symm
        injection hA with hA
        rw [hA]
        have hadd : (⟨b, o', none⟩ : Addr).add j = ⟨b, o' + j, none⟩ := by unfold Addr.add; split <;> simp_all
        rw [hadd, ← this]
        congr 2
        omega
      obtain ⟨v', w', hrun, h2, h3, _⟩ := run_append_own_wide (P := P) w base t o.type e i0 z k bytes ht hi hz0 hz1 hz2 hzs hk0 v l.length (flatG enc l) hown ad p.length c (flatG enc p) (flatG_length hk p) hcells
        (fun u hu => by obtain ⟨y, _, hy⟩ := List.mem_flatMap.1 hu; exact hone y u hy) h63 hbytes hbase
      have h9 := run_append_new (P := P) w base t o.type e i0 z k bytes ht hi hz0 hz1 hz2 hzs hk0 v l.length (flatG enc l) hown ad p.length c (flatG enc p) (flatG_length hk p) hcells
        (fun u hu => by obtain ⟨y, _, hy⟩ := List.mem_flatMap.1 hu; exact hone y u hy) h63 hbytes v' w' hrun
      exact ⟨v', w', hrun, by rw [List.length_append, flatG_append]; exact h2, h3, h9⟩
  obtain ⟨v', w', hrun, h2, h3, h9⟩ := main
  have h4 : Own enc k e w' base v' (l ++ p) := h2
  have hv : ∃ A' c', v' = .slice A' (l ++ p).length c' := by
    rcases h4.form with ⟨hv, h0⟩ | ⟨g, cap, hv, _⟩
    · exact ⟨none, 0, by rw [h0]; exact hv⟩
    · exact ⟨_, _, hv⟩
  obtain ⟨A', c', rfl⟩ := hv
  unfold Oper.wp execOp
  simp only [ho, resolve, invoke, builtin, Sem.run_bind, Sem.run_pure, Result.andThen_ok, List.map_toArray, List.map_cons, List.map_nil, hs, hx, hrun]
  exact h A' c' w' h4 h3 h9

end
end Go.Proofs.YtgppgecglkellaaGreat

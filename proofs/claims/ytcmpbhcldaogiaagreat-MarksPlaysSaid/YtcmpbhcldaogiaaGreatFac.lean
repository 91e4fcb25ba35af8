/- What a slice reads as, and which blocks it does not lie in: for whatever element type. Slices of ints: read, owned, appended to; those that came in. The reference's Marks as a state of the heap; New, Forget, left. Moves inside the row of a slice of pairs, as steps of a walk; what is left of the row. What the small functions of the span layer answer: contracts, each for every argument and every world. An append to a slice of the call's own that says of its block: the old one or a new one. slices.DeleteFunc over marks, with the closure of Forget; slices.BinarySearchFunc with those of beside. Spans that are written at one version, behind what was written: pure. -/
import Derived.Test.YtcmpbhcldaogiaaGreatFab
import Derived.Test.YtcmpbhcldaogiaaGreatFaa
import Derived.Deep.LoopGhost
namespace Go.Proofs.YtcmpbhcldaogiaaGreat
open Go.RowKit

section
variable {α : Type} {enc : α → List Value} {k : Nat} {e : TypeId}
/-- cells below block B, in no block of G -/
def RdG (enc : α → List Value) (k : Nat) (w : World) (B : Nat) (G : Nat → Prop) (v : Value) (l : List α) : Prop :=
  ∃ A c, v = .slice A l.length c ∧ l.length ≤ c ∧ ∀ i (_ : i < l.length), ∃ b o, A = some ⟨b, o, none⟩ ∧ b < B ∧ ¬ G b ∧ ∀ j u, (enc l[i])[j]? = some u → w.cell? ⟨b, o + i * k + j, none⟩ = some u
variable {w w' : World} {B B' : Nat} {G G' : Nat → Prop} {v : Value} {l : List α}
theorem RdG.rd (h : RdG enc k w B G v l) : Rd enc k w B v l := by
  obtain ⟨A, c, rfl, hc, hi⟩ := h
  refine ⟨A, c, rfl, hc, fun i hs => ?_⟩
  obtain ⟨b, o, hA, hb, _, h1⟩ := hi i hs
  exact ⟨b, o, hA, hb, h1⟩
theorem RdG.of (h : Rd enc k w B v l) (hG : ∀ b, b < B → ¬ G b) : RdG enc k w B G v l := by
  obtain ⟨A, c, rfl, hc, hi⟩ := h
  refine ⟨A, c, rfl, hc, fun i hs => ?_⟩
  obtain ⟨b, o, hA, hb, h1⟩ := hi i hs
  exact ⟨b, o, hA, hb, hG b hb, h1⟩
theorem RdG.mv {D : Nat → Prop} (h : RdG enc k w B G v l) (hm : Mv D w w') (hB : B ≤ w.heap.size) (hD : ∀ b, b < B → D b → G b) : RdG enc k w' B G v l := by
  obtain ⟨A, c, rfl, hc, hi⟩ := h
  refine ⟨A, c, rfl, hc, fun i hs => ?_⟩
  obtain ⟨b, o, hA, hb, hg, h1⟩ := hi i hs
  exact ⟨b, o, hA, hb, hg, fun j u hu => by rw [World.cell?_of_block (w := w) (hm.block b (by omega) (fun h => hg (hD b hb h)))]; exact h1 j u hu⟩
theorem RdG.mono (h : RdG enc k w B G v l) (hB : B ≤ B') (hG : ∀ b, b < B → G' b → G b) : RdG enc k w B' G' v l := by
  obtain ⟨A, c, rfl, hc, hi⟩ := h
  refine ⟨A, c, rfl, hc, fun i hs => ?_⟩
  obtain ⟨b, o, hA, hb, hg, h1⟩ := hi i hs
  exact ⟨b, o, hA, by omega, fun h => hg (hG b hb h), h1⟩
theorem RdG.none_ (w : World) (B : Nat) (G : Nat → Prop) (A : Option Addr) (c : Nat) : RdG enc k w B G (.slice A 0 c) [] := ⟨A, c, rfl, Nat.zero_le _, fun i hi => by simp at hi⟩
theorem RdG.or {G1 G2 : Nat → Prop} (h : RdG enc k w B G1 v l) (h2 : RdG enc k w B G2 v l) : RdG enc k w B (fun i => G1 i ∨ G2 i) v l := by
  obtain ⟨A, c, rfl, hc, hi⟩ := h
  obtain ⟨A2, c2, ee, hc2, hi2⟩ := h2
  injection ee with e1 _ e3
  subst e1 e3
  refine ⟨A, c, rfl, hc, fun i hs => ?_⟩
  obtain ⟨b, o, hA, hb, hg, h1⟩ := hi i hs
  obtain ⟨b2, o2, hA2, _, hg2, _⟩ := hi2 i hs
  rw [hA] at hA2
  injection hA2 with hA2
  injection hA2 with e4
  subst e4
  exact ⟨b, o, hA, hb, fun h => h.elim hg hg2, h1⟩
/-- what is owned from base on -/
theorem RdG.own {base : Nat} (hk : ∀ x, (enc x).length = k) (h : Own enc k e w base v l) (hG : ∀ b, base ≤ b → b < w.heap.size → v.ownBlock = some b → ¬ G b) : RdG enc k w w.heap.size G v l := by
  obtain ⟨A, c, hv, hc, hi⟩ := Own.rd hk h
  refine ⟨A, c, hv, hc, fun i hs => ?_⟩
  obtain ⟨b, o, hA, hb, h1⟩ := hi i hs
  refine ⟨b, o, hA, hb, ?_, h1⟩
  rcases h.form with ⟨_, e0⟩ | ⟨g, cap, ee, hg, _, _⟩
  · rw [e0] at hs; simp at hs
  · rw [hv, hA] at ee
    injection ee with ee _ _
    injection ee with ee
    injection ee with ee _ _
    subst ee
    exact hG b hg hb (by rw [hv, hA]; rfl)
/-- those from n on -/
theorem RdG.drop {A : Option Addr} {c m : Nat} (h : RdG enc k w B G (.slice A m c) l) (n c' : Nat) (hn : n ≤ l.length) (hc' : l.length - n ≤ c') (A' : Option Addr) (hA' : n < l.length → A' = A.map (·.add (n * k))) :
    RdG enc k w B G (.slice A' (l.length - n) c') (l.drop n) := by
  obtain ⟨A0, c0, hv, hc, hi⟩ := h
  injection hv with h1 h2 h3
  subst h1 h3
  refine ⟨A', c', by simp, by simpa using hc', fun i hs => ?_⟩
  have hs' : n + i < l.length := by simp at hs; omega
  obtain ⟨b, o, hA, hb, hg, h1⟩ := hi (n + i) hs'
  refine ⟨b, o + n * k, ?_, hb, hg, fun j u hu => ?_⟩
  · rw [hA' (by omega), hA]
    simp only [Option.map_some, Option.some.injEq]
    unfold Addr.add
    split
    · rename_i hz; rw [hz]; rfl
    · rfl
  · have := h1 j u (by simpa using hu)
    rwa [show o + (n + i) * k + j = o + n * k + i * k + j by rw [Nat.add_mul]; omega] at this
end
end Go.Proofs.YtcmpbhcldaogiaaGreat
namespace Go.Proofs.YtcmpbhcldaogiaaGreat
open Go.ChangeShapes Go.WideShapes Go.ChangeAt Go.RowKit Go.Joins Go.Deep

set_option maxRecDepth 100000 in
theorem info_int : (Tryz.prog.info? 3).map (fun i => (i.zero, i.size, i.bytes)) = some (some (.int .i64 0), 1, 8) := by kernel_rfl
/-- an int's cell -/
def encI (n : Int) : List Value := [.int .i64 n]
set_option maxRecDepth 100000 in
theorem encI_len (n : Int) : (encI n).length = 1 := rfl
set_option maxRecDepth 100000 in
theorem encI_one (n : Int) : ∀ u ∈ encI n, u.oneCell' = true := by simp [encI, Value.oneCell']
abbrev RdI (w : World) (B : Nat) (v : Value) (l : List Int) : Prop := Rd encI 1 w B v l
abbrev OwnI (w : World) (base : Nat) (v : Value) (l : List Int) : Prop := Own encI 1 3 w base v l
set_option maxRecDepth 100000 in
theorem OwnI.rdI {w : World} {base : Nat} {v : Value} {l : List Int} (h : OwnI w base v l) : RdI w w.heap.size v l := Own.rd encI_len h
set_option maxRecDepth 100000 in
theorem RdI.at {w : World} {B : Nat} {v : Value} {l : List Int} (h : RdI w B v l) : ∃ A c, v = .slice A l.length c ∧ l.length ≤ c ∧ ∀ i (_ : i < l.length), ∃ b o, A = some ⟨b, o, none⟩ ∧ b < B ∧ w.cell? ⟨b, o + i, none⟩ = some (.int .i64 l[i]) := by
  obtain ⟨A, c, hv, hc, hi⟩ := h
  refine ⟨A, c, hv, hc, fun i hs => ?_⟩
  obtain ⟨b, o, hA, hB, h1⟩ := hi i hs
  have := h1 0 _ rfl
  simp only [Nat.mul_one, Nat.add_zero] at this
  exact ⟨b, o, hA, hB, this⟩
set_option maxRecDepth 100000 in
theorem RdI.one (w : World) (n : Int) : RdI (w.alloc (.cells #[.int .i64 n] 3)) (w.heap.size + 1) (.slice (some ⟨w.heap.size, 0, none⟩) 1 1) [n] := by
  refine ⟨_, 1, rfl, Nat.le_refl _, fun i hi => ⟨w.heap.size, 0, rfl, Nat.lt_succ_self _, fun j u hu => ?_⟩⟩
  obtain rfl : i = 0 := by simp at hi; omega
  match j, hu with
  | 0, hu =>
    simp only [encI, List.getElem_cons_zero, List.getElem?_cons_zero, Option.some.injEq] at hu
    subst hu
    exact World.cell?_alloc_at _ _ _ _ rfl
  | j + 1, hu => simp [encI] at hu
set_option maxRecDepth 100000 in
theorem wpList_addI {ops : Array Oper} {rest : List Oper} {o : Oper} {a : Act} {Q : Exit → Act → World → Prop} {w : World} (hgd : Region.wanted o (yielded ops a.tmps) = true) (s x : Operand)
    (ho : o.op = .call { callee := .builtin .append, args := #[s, x], argTypes := #[33, 33] })
    (base : Nat) (v : Value) (l : List Int) (hs : a.eval s = v) (hown : OwnI w base v l) (B : Nat) (v2 : Value) (p : List Int) (hx : a.eval x = v2) (hp : RdI w B v2 p)
    (hlen : l.length + p.length ≤ 28147497670000) (hbase : base ≤ w.heap.size) (C : Nat) (w0 : World) (hb : Below C w0 w) (hC : C ≤ base)
    (h : ∀ A' c' w', Hid (OwnI w' base (.slice A' (l ++ p).length c') (l ++ p)) → Hid (Below C w0 w') → Hid (base ≤ w'.heap.size) → wpList Tryz.prog ops Q rest (a.put o.dst (.slice A' (l ++ p).length c')) w') : wpList Tryz.prog ops Q (o :: rest) a w := by
  obtain ⟨i0, hi, hz0, hz1, hz2⟩ := info_parts info_int
  refine BigFrame.wpList_want hgd fun K hK => ?_
  refine wp_addAny (enc := encI) (k := 1) 33 3 8 i0 _ Tryz.underlying33 hi hz0 hz1 hz2 rfl (by decide) encI_len encI_one s x ho base v l hs hown B v2 p hx hp (by unfold maxLen; omega) (by omega) hbase fun A' c' w' h1 h2 => ?_
  exact hK _ _ (h A' c' w' (Lib.hid h1) (Lib.hid (hown.grown hb h2 hC (Nat.le_trans hC hbase))) (Lib.hid (Nat.le_trans hbase h2.size)))

/-- what is known of the data of ints -/
def SizedI {H : Type} (d : DataW H) (l : List Int) : Prop := (d = .nil ∧ l = []) ∨ ∃ el sp, d = .slice el sp ∧ el.length = l.length
set_option maxRecDepth 100000 in
/-- a slice of ints that came in reads as a list -/
theorem open_intsI {H : Type} {enc : TypeId × Value → H} {W : World} {base : Nat} {v : Value} {d : DataW H} {p : List MemPlace} (hv : Value.okWide Tryz.prog W .any base 33 v) (h : DataW.Trod enc Tryz.prog W 0 (fun _ => true) true 33 v d p) :
    ∃ l, RdI W W.heap.size v l ∧ SizedI d l ∧ ∀ n ∈ l, -9223372036854775808 ≤ n ∧ n < 9223372036854775808 := by
  obtain ⟨a0, len, cap, rfl⟩ := okWide_slice Tryz.underlying33 hv
  obtain ⟨fuel, hf⟩ := h
  rcases open_ints Tryz.underlying33 Tryz.underlying3 (by kernel_rfl) hf with ⟨hcs, hx⟩ | ⟨a, len', cap', zs, hcs, _, hl, hm, hz, hx, hcell, hwz⟩
  · simp only [Value.cells] at hcs
    have e : Value.slice a0 len cap = .slice none 0 0 := by simpa using hcs
    injection e with e1 e2 e3
    subst e1 e2 e3
    simp only [Prod.mk.injEq] at hx
    exact ⟨[], Rd.nil _ _, .inl ⟨hx.1, rfl⟩, by simp⟩
  · simp only [Value.cells] at hcs
    have e : Value.slice a0 len cap = .slice (some a) len' cap' := by simpa using hcs
    injection e with e1 e2 e3
    subst e1 e2 e3
    simp only [Prod.mk.injEq] at hx
    obtain ⟨rfl, rfl⟩ := hx
    simp only [if_true] at hz
    have hb : ∀ n ∈ zs, -9223372036854775808 ≤ n ∧ n < 9223372036854775808 := fun n hn => by
      have h := hwz n hn
      have h1 : IntKind.i64.min = -9223372036854775808 := rfl
      have h2 : IntKind.i64.max = 9223372036854775807 := rfl
      simp only [Lit.wf, Bool.and_eq_true, decide_eq_true_eq] at h
      omega
    have hlen : (zs.take len).length = len := by simp; omega
    refine ⟨zs.take len, ⟨some a, cap, by rw [hlen], by rw [hlen]; exact hl, fun i hi => ?_⟩, .inr ⟨_, _, rfl, by simp [lits]⟩, fun n hn => hb n (List.mem_of_mem_take hn)⟩
    have hi' : i < len := by omega
    have hc := hcell i (by omega)
    have hsp : a.spot = none := by
      have h0 := hcell 0 (by omega)
      have e0 : a.add 0 = a := rfl
      rw [e0] at h0
      exact World.cell?_spot h0
    rw [addr_add a i hsp] at hc
    have hblk := World.block_lt_of_cell? _ _ hc
    refine ⟨a.block, a.off, by cases a; simp only at hsp; subst hsp; rfl, hblk, fun j u hu => ?_⟩
    match j, hu with
    | 0, hu =>
      simp only [encI, List.getElem?_cons_zero, Option.some.injEq] at hu
      subst hu
      have hlt : i < zs.length := by omega
      rw [Nat.mul_one, Nat.add_zero, hc]
      simp [List.getD, hlt]
    | j + 1, hu => simp [encI] at hu
set_option maxRecDepth 100000 in
theorem SizedI.reach {H : Type} {ts : List TypeId} {ds : List (DataW H)} (h : (DataW.weightsEach Tryz.prog ts ds).all (· ≤ reachBytes) = true) {j : Nat} {d : DataW H} {l : List Int} (hs : SizedI d l) (ht : ts[j]? = some 33) (hd : ds[j]? = some d) : l.length ≤ 17592186043904 := by
  rcases hs with ⟨_, rfl⟩ | ⟨el, sp, rfl, he⟩
  · simp
  · have := sized_slice h ht hd Tryz.underlying33
    rw [show Tryz.prog.bytesOf 3 = 8 by kernel_rfl, show reachBytes = 140737488351232 from rfl] at this
    omega
end Go.Proofs.YtcmpbhcldaogiaaGreat
namespace Go.Proofs.YtcmpbhcldaogiaaGreat
open Go.RowKit
attribute [local go_sem] less_eq same_eq le_eq ge_eq gt_eq

def encW (x : Wr) : List Value := [.string x.s.1, .string x.s.2, .int .i64 x.v]
theorem encW_len (x : Wr) : (encW x).length = 3 := rfl
theorem encW_one (x : Wr) : ∀ u ∈ encW x, u.oneCell' = true := by
  intro u hu
  simp only [encW, List.mem_cons, List.not_mem_nil, or_false] at hu
  rcases hu with rfl | rfl | rfl <;> rfl
set_option maxRecDepth 100000 in
theorem info_wr : (Tryz.prog.info? 62).map (fun i => (i.zero, i.size, i.bytes)) = some (some (.agg #[.string ⟨#[]⟩, .string ⟨#[]⟩, .int .i64 0]), 3, 40) := by kernel_rfl
abbrev OwnW (w : World) (base : Nat) (v : Value) (l : List Wr) : Prop := Own encW 3 62 w base v l
abbrev RdW (w : World) (B : Nat) (v : Value) (l : List Wr) : Prop := Rd encW 3 w B v l
theorem RdW.at {w : World} {B : Nat} {v : Value} {l : List Wr} (h : RdW w B v l) : ∃ A c, v = .slice A l.length c ∧ l.length ≤ c ∧ ∀ i (_ : i < l.length), ∃ b o, A = some ⟨b, o, none⟩ ∧ b < B ∧
    w.cell? ⟨b, o + i * 3, none⟩ = some (.string l[i].s.1) ∧ w.cell? ⟨b, o + i * 3 + 1, none⟩ = some (.string l[i].s.2) ∧ w.cell? ⟨b, o + i * 3 + 2, none⟩ = some (.int .i64 l[i].v) := by
  obtain ⟨A, c, hv, hc, hi⟩ := h
  refine ⟨A, c, hv, hc, fun i hs => ?_⟩
  obtain ⟨b, o, hA, hB, h1⟩ := hi i hs
  exact ⟨b, o, hA, hB, h1 0 _ rfl, h1 1 _ rfl, h1 2 _ rfl⟩
/-- what is read of the reference's Marks at block r -/
def RmRd (w : World) (r : Nat) (floor most : Int) (L : List Wr) : Prop :=
  ∃ A cap, Whole w r 55 [.slice A L.length cap, .int .i64 floor, .int .i64 most] ∧ RdW w w.heap.size (.slice A L.length cap) L
/-- the reference's Marks at block r, what was written in row ov; no more than n spans -/
structure RmAt (w : World) (base r : Nat) (ov : Option Nat) (n : Nat) (m : Mk) : Prop where
  blk : ∃ A cap L, Whole w r 55 [.slice A (L : List Wr).length cap, .int .i64 m.floor, .int .i64 m.most] ∧ OwnW w base (.slice A L.length cap) L ∧ Value.ownBlock (.slice A L.length cap) = ov ∧ ver L = m.f ∧ L.length ≤ n ∧ ∀ x ∈ L, 1 ≤ x.v
  low : base ≤ r ∧ base ≤ w.heap.size
  ok : m.Ok
def RmD (r : Nat) (ov : Option Nat) : Nat → Prop := fun i => i = r ∨ some i = ov
section
variable {w w' : World} {base r : Nat} {ov : Option Nat} {D : Nat → Prop} {n : Nat} {m : Mk} {floor most : Int} {L : List Wr}
theorem RmRd.below {B : Nat} (h : RmRd w r floor most L) (hb : Below B w w') (hB : w.heap.size ≤ B) : RmRd w' r floor most L := by
  obtain ⟨A, cap, hw, hr⟩ := h
  exact ⟨A, cap, hw.below hb (Nat.lt_of_lt_of_le hw.size hB), (hr.below hb hB).mono (by have := hb.size; omega)⟩
theorem RmAt.rd (h : RmAt w base r ov n m) : ∃ L, RmRd w r m.floor m.most L ∧ ver L = m.f ∧ L.length ≤ n ∧ ∀ x ∈ L, 1 ≤ x.v := by
  obtain ⟨A, cap, L, hw, ho, _, hv, hn, hp⟩ := h.blk
  exact ⟨L, ⟨A, cap, hw, Own.rd encW_len ho⟩, hv, hn, hp⟩
theorem RmAt.size (h : RmAt w base r ov n m) : r < w.heap.size := by
  obtain ⟨A, cap, L, hw, _⟩ := h.blk
  exact hw.size
theorem RmAt.row (h : RmAt w base r ov n m) {g : Nat} (hg : ov = some g) : base ≤ g ∧ g < w.heap.size := by
  obtain ⟨A, cap, L, hw, ho, hv, _⟩ := h.blk
  exact ho.low (hv.trans hg)
theorem Own.mvG {α : Type} {enc : α → List Value} {k : Nat} {e : TypeId} {D : Nat → Prop} {v : Value} {l : List α} (h : Own enc k e w base v l) (hm : Mv D w w') (hn : ∀ g, v.ownBlock = some g → ¬ D g) : Own enc k e w' base v l := by
  refine ⟨h.1, ?_⟩
  rcases h.2 with h2 | ⟨g, cap, cur, rfl, hb, hh, r⟩
  · exact .inl h2
  · exact .inr ⟨g, cap, cur, rfl, hb, (hm.block g (Array.getElem?_eq_some_iff.1 hh).1 (hn g rfl)).trans hh, r⟩
theorem RmAt.mv (h : RmAt w base r ov n m) (hm : Mv D w w') (h1 : ¬ D r) (h2 : ∀ g, ov = some g → ¬ D g) : RmAt w' base r ov n m := by
  obtain ⟨A, cap, L, hw, ho, hv, hf, hn, hp⟩ := h.blk
  exact ⟨⟨A, cap, L, hm.whole hw h1, ho.mvG hm (fun g hg => h2 g (hv ▸ hg)), hv, hf, hn, hp⟩, ⟨h.low.1, Nat.le_trans h.low.2 hm.size⟩, h.ok⟩
theorem RmAt.new (h : RmAt w base r ov n m) (hb : Below w.heap.size w w') : RmAt w' base r ov n m :=
  h.mv (D := fun i => w.heap.size ≤ i) (Mv.of_below hb) (fun e => by have := h.size; omega) (fun g hg e => by have := (h.row hg).2; omega)
theorem RmAt.wide {n' : Nat} (h : RmAt w base r ov n m) (hn : n ≤ n') : RmAt w base r ov n' m := by
  obtain ⟨A, cap, L, hw, ho, hv, hf, h1, hp⟩ := h.blk
  exact ⟨⟨A, cap, L, hw, ho, hv, hf, Nat.le_trans h1 hn, hp⟩, h.low, h.ok⟩
end
structure RmWent (w w' : World) (base r : Nat) (ov : Option Nat) (n : Nat) (m : Mk) (ov' : Option Nat) : Prop where
  now : RmAt w' base r ov' n m
  moved : Mv (RmD r ov) w w'
  new : ∀ g, ov' = some g → ov = some g ∨ w.heap.size ≤ g
theorem RmWent.below {w w' : World} {base r n n' : Nat} {ov ov' : Option Nat} {m m0 : Mk} (h : RmWent w w' base r ov n m ov') (h0 : RmAt w base r ov n' m0) : Below base w w' :=
  h.moved.below h0.low.2 (by
    rintro i (rfl | hi)
    · exact h0.low.1
    · exact (h0.row hi.symm).1)
theorem RmWent.of {w w' : World} {base r n : Nat} {ov : Option Nat} {m : Mk} (h : RmAt w base r ov n m) (hb : Below w.heap.size w w') : RmWent w w' base r ov n m ov := ⟨h.new hb, Mv.of_new hb _, fun _ h => .inl h⟩

set_option maxHeartbeats 1000000 in
theorem rmnew_any (v : Int) (hv : v < 9223372036854775808) (w : World) : Calls Tryz.prog 6 #[.int .i64 v] w fun e w' => ∃ r, e = .returned (.pointer (some ⟨r, 0, none⟩)) ∧ RmAt w' w.heap.size r none 0 (mnew v) ∧ Below w.heap.size w w' := by
  have hok := Mk.Ok.new hv
  obtain ⟨F, hF⟩ : ∃ F : Int, F = if v < 0 then 0 else v := ⟨_, rfl⟩
  have hm : mnew v = ⟨F, 0, fun _ => 0⟩ := by unfold mnew; rw [hF]
  rw [hm] at hok ⊢
  have hfin : RmAt (w.alloc (.cells #[.slice none 0 0, .int .i64 F, .int .i64 0] 55)) w.heap.size w.heap.size none 0 ⟨F, 0, fun _ => 0⟩ :=
    ⟨⟨none, 0, [], Whole.fresh w _ [_, _, _], Own.nil _ _, rfl, by funext k; exact ver_nil k, Nat.le_refl _, by simp⟩, ⟨Nat.le_refl _, by simp⟩, hok⟩
  have HF := Lib.hid hfin
  clear hok hm hfin
  go_enter Tryz.func6, Tryz.ntmps6
  by_cases h : v < 0
  · rw [if_pos h] at hF
    subst hF
    go_wp2_with fail
    go_ret
    exact ⟨_, rfl, HF.out, (Below.refl _ w).alloc (Nat.le_refl _) _⟩
  · rw [if_neg h] at hF
    subst hF
    go_wp2_with fail
    go_ret
    exact ⟨_, rfl, HF.out, (Below.refl _ w).alloc (Nat.le_refl _) _⟩

set_option maxHeartbeats 1000000 in
theorem rmforget_any (base r : Nat) (ov : Option Nat) (n : Nat) (m : Mk) (v : Int) (hv : v < 9223372036854775808) (w : World) (h : RmAt w base r ov n m) :
    Calls Tryz.prog 13 #[.pointer (some ⟨r, 0, none⟩), .int .i64 v] w fun e w' => e = .returned (.int .i64 (ferr m v)) ∧ RmWent w w' base r ov n (fnext m v) ov := by
  have H := Lib.hid h
  obtain ⟨A, cap, L, hw, ho, hov, hf, hn, hp⟩ := h.blk
  have c0 := hw.cell 1 _ rfl
  have f0 := hw.frozen 1
  have hrow : ∀ g, Value.ownBlock (.slice A L.length cap) = some g → g ≠ r := fun g hg e => Own.apart ho hw (by decide) (by rw [hg, e])
  obtain ⟨E, hE⟩ : ∃ E, E = ferr m v := ⟨_, rfl⟩
  obtain ⟨N, hN⟩ : ∃ N, N = fnext m v := ⟨_, rfl⟩
  have hok := h.ok.forget hv
  rw [← hN] at hok
  rw [← hE, ← hN]
  unfold ferr at hE
  unfold fnext at hN
  by_cases hlt : v < m.floor
  · rw [if_pos hlt] at hE hN
    subst hE hN
    clear h hw ho hov hf hn hp hrow hok
    go_enter Tryz.func13, Tryz.ntmps13
    go_wp2_with fail
    go_ret
    exact ⟨rfl, .of H.out (Below.refl _ _)⟩
  · rw [if_neg hlt] at hE hN
    subst hE hN
    have hm : Mv (fun i => i = r) w (w.setCell ⟨r, 1, none⟩ (.int .i64 v)) := (Mv.refl (fun i => i = r) w).setCell (p := ⟨r, 1, none⟩) (fun _ => rfl) _
    have hfin : RmWent w (w.setCell ⟨r, 1, none⟩ (.int .i64 v)) base r ov n ⟨v, m.most, m.f⟩ ov :=
      ⟨⟨⟨A, cap, L, hw.put 1 _, ho.mvG hm hrow, hov, hf, hn, hp⟩, ⟨h.low.1, by simpa using h.low.2⟩, hok⟩, hm.mono (fun _ _ e => .inl e), fun _ h => .inl h⟩
    have HF := Lib.hid hfin
    clear h hw ho hov hf hn hp hrow hok hm hfin
    go_enter Tryz.func13, Tryz.ntmps13
    go_wp2_with fail
    go_ret
    exact ⟨rfl, HF.out⟩

theorem left_iff {L : List Wr} {n : Nat} (hn : n < L.length) (k : K) : Left L n k ↔ has L[n].s k ∧ ¬ mem ((L.drop (n + 1)).map (·.s)) k := by
  unfold Left mem
  constructor
  · rintro ⟨x, hx, h1, h2⟩
    rw [List.getElem?_eq_getElem hn] at hx
    injection hx with hx
    subst hx
    refine ⟨h1, ?_⟩
    rintro ⟨s, hs, hk⟩
    obtain ⟨y, hy, rfl⟩ := List.mem_map.1 hs
    exact h2 y hy hk
  · rintro ⟨h1, h2⟩
    exact ⟨_, List.getElem?_eq_getElem hn, h1, fun y hy hk => h2 ⟨_, List.mem_map.2 ⟨y, hy, rfl⟩, hk⟩⟩
set_option maxHeartbeats 4000000 in
set_option maxRecDepth 100000 in
theorem rmleft_any (r : Nat) (floor most : Int) (L : List Wr) (n : Nat) (hn : n < L.length) (hl : L.length ≤ 90000) (w : World) (h : RmRd w r floor most L) :
    Calls Tryz.prog 26 #[.pointer (some ⟨r, 0, none⟩), .int .i64 n] w fun e w' => ∃ v R, e = .returned v ∧ OwnS w' w.heap.size v R ∧ Below w.heap.size w w' ∧ Fits R (fun k => Left L n k) ∧ R.length ≤ 200000 := by
  obtain ⟨A, cap, hw, hr⟩ := h
  have hrs := hw.size
  obtain ⟨_, _, e, hcc, hi⟩ := hr.at
  injection e with e1 e2 e3
  subst e1 e3
  have HI := Lib.hid hi
  have HW := Lib.hid hw
  have HLI := Lib.hid (left_iff hn)
  clear hi hr hw
  have hw1 : IntKind.i64.wrap ((n : Int) + 1) = ((n + 1 : Nat) : Int) := by rw [IntKind.wrap_i64]; omega
  go_enter Tryz.func26, Tryz.ntmps26
  go_wp2_with fail
  clear hw1
  go_loopw [5, 6] (fun ov iv wr => ∃ (i : Nat) (A' : Option Addr) (c' : Nat), i ≤ L.length ∧ n + 1 ≤ i ∧ iv = .int .i64 (i : Int) ∧ ov = .slice A' ((L.drop (n + 1)).take (i - (n + 1))).length c' ∧ OwnS wr w.heap.size ov (((L.drop (n + 1)).take (i - (n + 1))).map (·.s)) ∧ Below w.heap.size w wr) (fun _ iv _ => L.length - (intOf iv).toNat)
  case atStart =>
    refine ⟨n + 1, some ⟨w.heap.size, 0, none⟩, 0, by omega, Nat.le_refl _, rfl, by simp, ?_, (Below.refl _ w).alloc (Nat.le_refl _) _⟩
    rw [Nat.sub_self, List.take_zero]
    exact Own.empty (enc := cellsS) (k := 2) (e := 29) w w.heap.size (Nat.le_refl _)
  case round =>
    obtain ⟨i, A', c', hil, hni, rfl, rfl, ho, hbw⟩ := hrel
    have hz := hbw.size
    have HBW := Lib.hid hbw
    have HO := Lib.hid ho
    have c0 := (HW.out.below hbw hrs).cell 0 _ rfl
    clear hbw ho
    by_cases hlt : i < L.length
    · obtain ⟨b, o, rfl, hbB, k0, k1, _⟩ := HI.out i hlt
      rw [← HBW.out.cell (p := ⟨b, o + i * 3, none⟩) hbB] at k0
      rw [← HBW.out.cell (p := ⟨b, o + i * 3 + 1, none⟩) hbB] at k1
      have hnext : (L.drop (n + 1)).take (i + 1 - (n + 1)) = (L.drop (n + 1)).take (i - (n + 1)) ++ [L[i]] := by
        rw [show i + 1 - (n + 1) = (i - (n + 1)) + 1 by omega, List.take_add_one, List.getElem?_drop, show n + 1 + (i - (n + 1)) = i by omega, List.getElem?_eq_getElem hlt]
        rfl
      have hkl : ((L.drop (n + 1)).take (i - (n + 1))).length ≤ 90000 := by rw [List.length_take, List.length_drop]; omega
      generalize (L.drop (n + 1)).take (i - (n + 1)) = J at HO hnext hkl ⊢
      generalize L[i] = z at k0 k1 hnext
      obtain ⟨⟨zf, zt⟩, zv⟩ := z
      simp only at k0 k1
      have HN := Lib.hid hnext
      have HKL := Lib.hid hkl
      have h0 : (0 : Int) ≤ (i : Int) := by omega
      have h1 : (i : Int) < (L.length : Int) := by omega
      have h2 : IntKind.i64.wrap ((i : Int) + 1) = ((i + 1 : Nat) : Int) := by rw [IntKind.wrap_i64]; omega
      have HOA := Lib.hid (HO.out.alloc (.cells #[.string zf, .string zt] 29))
      have HZ2 := Lib.hid (show w.heap.size ≤ (wr.alloc (.cells #[.string zf, .string zt] 29)).heap.size by simp; omega)
      have HB2 := Lib.hid (HBW.out.alloc hz (.cells #[.string zf, .string zt] 29))
      clear hnext hkl
      go_wp2_with (at_builtin; refine wpList_addT rfl _ _ rfl w.heap.size (.slice A' J.length c') (J.map (·.s)) rfl HOA.out (wr.heap.size + 1) (.slice (some ⟨wr.heap.size, 0, none⟩) 1 1) [(zf, zt)] rfl (RdS.one wr (zf, zt)) (by have := HKL.out; simp only [List.length_map, List.length_cons, List.length_nil]; omega) HZ2.out w.heap.size w HB2.out (Nat.le_refl _) ?_)
      intro A4 c4 w4 ho4 hb4 hz4
      go_wp2_with fail
      go_roundw
      case rel => exact ⟨i + 1, A4, c4, by omega, by omega, rfl, by rw [HN.out]; simp, by rw [HN.out]; simpa using ho4.out, hb4.out⟩
      case measure => simp [intOf]; omega
    · obtain rfl : i = L.length := by omega
      have hall : (L.drop (n + 1)).take (L.length - (n + 1)) = L.drop (n + 1) := by rw [← List.length_drop]; exact List.take_length
      rw [hall] at HO ⊢
      obtain ⟨b, o, rfl, hbB, k0, k1, _⟩ := HI.out n hn
      rw [← HBW.out.cell (p := ⟨b, o + n * 3, none⟩) hbB] at k0
      rw [← HBW.out.cell (p := ⟨b, o + n * 3 + 1, none⟩) hbB] at k1
      have hcon := rwithout_any L[n].s ((L.drop (n + 1)).map (·.s)) _ wr HO.out.rd (by rw [List.length_map, List.length_drop]; omega)
      generalize L[n] = z at k0 k1 hcon HLI
      obtain ⟨⟨zf, zt⟩, zv⟩ := z
      simp only at k0 k1 hcon HLI
      generalize L.drop (n + 1) = J at HO hcon HLI ⊢
      have HC := Lib.hid hcon
      have h0 : (0 : Int) ≤ (n : Int) := by omega
      have h1 : (n : Int) < (L.length : Int) := by omega
      clear hcon hall
      go_wp2_with (go_at_call 40; refine HC.out.mono ?_; rintro e w5 ⟨v5, R, rfl, ho5, hb5, hf5, hl5⟩)
      have HO5 := Lib.hid ho5
      have HB5 := Lib.hid hb5
      have HF5 := Lib.hid hf5
      have HL5 := Lib.hid hl5
      clear ho5 hb5 hf5 hl5
      go_wp2_with fail
      refine bodyPost_ret (v := v5) ?_ rfl ⟨_, _, rfl, HO5.out.lower hz, HBW.out.trans (HB5.out.mono hz), ⟨HF5.out.1, fun k => by rw [HF5.out.2 k]; exact (HLI.out k).symm⟩, HL5.out⟩
      simp [results, Tryz.results26, go_sem]
end Go.Proofs.YtcmpbhcldaogiaaGreat
namespace Go.Proofs.YtcmpbhcldaogiaaGreat
open Go.RowKit
section
variable {α : Type} {enc : α → List Value} {k : Nat}
theorem flatG_take (hk : ∀ x, (enc x).length = k) : ∀ (l : List α) (i : Nat), flatG enc (l.take i) = (flatG enc l).take (i * k)
  | [], i => by simp [flatG]
  | x :: r, 0 => by simp [flatG]
  | x :: r, i + 1 => by
    rw [List.take_succ_cons, show x :: r.take i = [x] ++ r.take i from rfl, show x :: r = [x] ++ r from rfl, flatG_append, flatG_append, flatG_take hk r i, List.take_append]
    have h1 : (flatG enc [x]).length = k := by simp [flatG, hk]
    rw [List.take_of_length_le (l := flatG enc [x]) (by rw [h1, Nat.add_mul]; omega), h1, show (i + 1) * k - k = i * k by rw [Nat.add_mul]; omega]
theorem flatG_drop (hk : ∀ x, (enc x).length = k) : ∀ (l : List α) (i : Nat), flatG enc (l.drop i) = (flatG enc l).drop (i * k)
  | [], i => by simp [flatG]
  | x :: r, 0 => by simp [flatG]
  | x :: r, i + 1 => by
    rw [List.drop_succ_cons, show x :: r = [x] ++ r from rfl, flatG_append, flatG_drop hk r i, List.drop_append]
    have h1 : (flatG enc [x]).length = k := by simp [flatG, hk]
    rw [show (flatG enc [x]).drop ((i + 1) * k) = [] from List.drop_eq_nil_of_le (by rw [h1, Nat.add_mul]; omega), h1, show (i + 1) * k - k = i * k by rw [Nat.add_mul]; omega, List.nil_append]
end
section
variable {α : Type} (L cs : List α) (off n : Nat)
theorem take_splice_lt (h : n ≤ off) (ho : off ≤ L.length) : (splice L off cs).take n = L.take n := by
  unfold splice
  rw [List.take_append_of_le_length (by simp; omega), List.take_take, Nat.min_eq_left h]
theorem take_splice_end (h : off ≤ L.length) (hn : n = off + cs.length) : (splice L off cs).take n = L.take off ++ cs := by
  unfold splice
  subst hn
  rw [← List.append_assoc, List.take_append_of_le_length (by simp; omega)]
  exact List.take_of_length_le (by simp; omega)
theorem drop_splice_ge (h : off + cs.length ≤ n) (ho : off ≤ L.length) : (splice L off cs).drop n = L.drop n := by
  unfold splice
  rw [← List.append_assoc, List.drop_append, List.drop_eq_nil_of_le (by simp; omega), List.nil_append, List.drop_drop]
  congr 1
  simp; omega
theorem get_splice_ge (j : Nat) (h : off + cs.length ≤ j) (ho : off ≤ L.length) : (splice L off cs)[j]? = L[j]? := by
  have := drop_splice_ge L cs off j h ho
  have h2 := congrArg (fun l => l[0]?) this
  simpa using h2
end
theorem Whole.srcs {w : World} {g : Nat} {t : TypeId} {cur : List Value} (h : Whole w g t cur) (o : Nat) (cs : List Value) (hc : ∀ j v, cs[j]? = some v → cur[o + j]? = some v) : ∀ j v, cs[j]? = some v → w.cell? ((⟨g, o, none⟩ : Addr).add j) = some v :=
  fun j v hj => by rw [Addr.add_lit]; exact h.cell _ _ (hc j v hj)
theorem cells_at {cur A B : List Value} {n : Nat} (h : cur.take n = A ++ B) : ∀ j v, B[j]? = some v → cur[A.length + j]? = some v := by
  intro j v hj
  have hl : A.length + j < n := by
    have h1 := (List.getElem?_eq_some_iff.1 hj).1
    have h2 := congrArg List.length h
    simp at h2
    omega
  have h3 : (cur.take n)[A.length + j]? = some v := by rw [h, List.getElem?_append_right (by omega), Nat.add_sub_cancel_left]; exact hj
  rwa [List.getElem?_take_of_lt hl] at h3
theorem Moved.away {w w' : World} {g : Nat} {t : TypeId} {cur : List Value} (h : Moved w w' g t cur) {b : Nat} {t' : TypeId} {cs : List Value} (hb : Whole w b t' cs) (hne : b ≠ g) : Whole w' b t' cs := hb.grown h.grown (by simpa using hne)

set_option maxRecDepth 100000 in
theorem info_mk : (Tryz.prog.info? 67).map (fun i => (i.zero, i.size, i.bytes)) = some (some (.agg #[.string ⟨#[]⟩, .string ⟨#[]⟩, .int .i64 0]), 3, 40) := by kernel_rfl
theorem info_mkE : ∃ i0, Tryz.prog.info? 67 = some i0 ∧ i0.zero = some (.agg #[.string ⟨#[]⟩, .string ⟨#[]⟩, .int .i64 0]) ∧ i0.size = 3 ∧ i0.bytes = 40 := info_parts info_mk
abbrev OwnMk (w : World) (base : Nat) (v : Value) (l : List Wr) : Prop := Own encW 3 67 w base v l

section
variable {ops : Array Oper} {rest : List Oper} {o : Oper} {a : Act} {Q : Exit → Act → World → Prop} {K1 : Act → World → Prop} {w : World}
theorem wp_copyP (d s : Operand) (ho : o.op = .call { callee := .builtin .copy, args := #[d, s], argTypes := #[44, 44] })
    (g off : Nat) (cur cs : List Value) (dp sp : Option Addr) (dLen dCap sLen sCap : Nat) (hd : a.eval d = .slice dp dLen dCap) (hs : a.eval s = .slice sp sLen sCap) (hg : Whole w g 67 cur) (hn : cs.length = Nat.min sLen dLen * 3)
    (hp : 0 < cs.length → dp = some ⟨g, off, none⟩) (hsrc : Srcs w sp cs) (hfit : off + cs.length ≤ cur.length) (h1 : ∀ v ∈ cs, v.oneCell' = true)
    (h : ∀ w', Hid (Moved w w' g 67 (splice cur off cs)) → K1 (a.put o.dst (goInt (Nat.min sLen dLen))) w') : Oper.wp Tryz.prog o a w K1 Q := by
  obtain ⟨i0, hi, hz0, hz1, hz2⟩ := info_mkE
  obtain ⟨w', hr, hm⟩ := run_copyK (P := Tryz.prog) w 44 44 o.type 67 i0 3 Tryz.underlying44 hi hz1 g off dLen dCap dp sp sLen sCap _ cur hg cs hn hp hsrc hfit h1
  exact wp_call2 .copy (.inl rfl) d s _ _ ho _ _ hd hs hr (h w' (Lib.hid hm))
theorem wpList_copyP (hgd : Region.wanted o (yielded ops a.tmps) = true) (d s : Operand) (ho : o.op = .call { callee := .builtin .copy, args := #[d, s], argTypes := #[44, 44] })
    (g off : Nat) (cur cs : List Value) (dp sp : Option Addr) (dLen dCap sLen sCap : Nat) (hd : a.eval d = .slice dp dLen dCap) (hs : a.eval s = .slice sp sLen sCap) (hg : Whole w g 67 cur) (hn : cs.length = Nat.min sLen dLen * 3)
    (hp : 0 < cs.length → dp = some ⟨g, off, none⟩) (hsrc : Srcs w sp cs) (hfit : off + cs.length ≤ cur.length) (h1 : ∀ v ∈ cs, v.oneCell' = true)
    (h : ∀ w', Hid (Moved w w' g 67 (splice cur off cs)) → wpList Tryz.prog ops Q rest (a.put o.dst (goInt (Nat.min sLen dLen))) w') : wpList Tryz.prog ops Q (o :: rest) a w :=
  BigFrame.wpList_want hgd fun K2 hK => wp_copyP d s ho g off cur cs dp sp dLen dCap sLen sCap hd hs hg hn hp hsrc hfit h1 fun w' hm => hK _ _ (h w' hm)
theorem wpList_roomP (hgd : Region.wanted o (yielded ops a.tmps) = true) (d s : Operand) (ho : o.op = .call { callee := .builtin .append, args := #[d, s], argTypes := #[44, 44] })
    (g i cap : Nat) (cur cs : List Value) (sp : Option Addr) (m mc : Nat) (hd : a.eval d = .slice (some ⟨g, 0, none⟩) i cap) (hs : a.eval s = .slice sp m mc) (hg : Whole w g 67 cur) (hn : cs.length = m * 3)
    (hsrc : Srcs w sp cs) (hroom : i + m ≤ cap) (hfit : i * 3 + cs.length ≤ cur.length) (h1 : ∀ v ∈ cs, v.oneCell' = true)
    (h : ∀ w', Hid (Moved w w' g 67 (splice cur (i * 3) cs)) → wpList Tryz.prog ops Q rest (a.put o.dst (.slice (some ⟨g, 0, none⟩) (i + m) cap)) w') : wpList Tryz.prog ops Q (o :: rest) a w := by
  obtain ⟨i0, hi, hz0, hz1, hz2⟩ := info_mkE
  obtain ⟨w', hr, hm⟩ := run_roomK (P := Tryz.prog) w 44 o.type 67 i0 3 Tryz.underlying44 hi hz1 g i cap sp m mc _ cur hg cs hn hsrc hroom hfit h1
  exact BigFrame.wpList_want hgd fun K2 hK => wp_call2 .append (.inr rfl) d s _ _ ho _ _ hd hs hr (hK _ _ (h w' (Lib.hid hm)))
theorem wpList_clearP (hgd : Region.wanted o (yielded ops a.tmps) = true) (d : Operand) (ho : o.op = .call { callee := .builtin .clear, args := #[d], argTypes := #[44] })
    (g off : Nat) (cur : List Value) (dp : Option Addr) (n c : Nat) (hd : a.eval d = .slice dp n c) (hg : Whole w g 67 cur) (hp : 0 < n → dp = some ⟨g, off, none⟩) (hfit : off + n * 3 ≤ cur.length)
    (h : ∀ w' zs, zs.length = n * 3 → Hid (Moved w w' g 67 (splice cur off zs)) → wpList Tryz.prog ops Q rest (a.put o.dst (.tuple #[])) w') : wpList Tryz.prog ops Q (o :: rest) a w := by
  obtain ⟨w', zs, hr, hl, hm⟩ := run_clearK (P := Tryz.prog) w 44 o.type 67 (.agg #[.string ⟨#[]⟩, .string ⟨#[]⟩, .int .i64 0]) 3 Tryz.underlying44 Tryz.zeroValue67 rfl (by intro v hv; simp [Value.cells] at hv; rcases hv with rfl | rfl <;> rfl) g off n c dp _ cur hg hp hfit
  exact BigFrame.wpList_want hgd fun K2 hK => wp_clearK d _ ho _ hd hr (hK _ _ (h w' zs hl (Lib.hid hm)))
theorem wpList_zerosP (hgd : Region.wanted o (yielded ops a.tmps) = true) (d s : Operand) (ho : o.op = .call { callee := .builtin .append, args := #[d, s], argTypes := #[44, 3] })
    (ap : Option Addr) (i cap n : Nat) (olds : List Value) (hd : a.eval d = .slice ap i cap) (hs : a.eval s = .int .i64 n) (hl : olds.length = i * 3) (hsrc : Srcs w ap olds) (h0 : 0 < n) (hg : cap < i + n) (hfit : i + n ≤ 2000000)
    (h : ∀ w' c cur, Hid (Whole w' w.heap.size 67 cur ∧ cur.length = c * 3 ∧ cur.take (i * 3) = olds ∧ i + n ≤ c ∧ c ≤ maxLen ∧ w.grownBy w' none ∧ w'.heap.size = w.heap.size + 1) → i + n ≤ c → wpList Tryz.prog ops Q rest (a.put o.dst (.slice (some ⟨w.heap.size, 0, none⟩) (i + n) c)) w') : wpList Tryz.prog ops Q (o :: rest) a w := by
  obtain ⟨i0, hi, hz0, hz1, hz2⟩ := info_mkE
  obtain ⟨w', c, cur, hr, hm⟩ := run_zerosK (P := Tryz.prog) w 44 3 o.type 67 i0 _ 3 40 .i64 _ Tryz.underlying44 Tryz.underlying3 hi hz0 hz1 (by decide) hz2 rfl ap i cap n olds hl hsrc h0 hg (by unfold maxLen; omega) (by omega)
  exact BigFrame.wpList_want hgd fun K2 hK => wp_call2 .append (.inr rfl) d s _ _ ho _ _ hd hs hr (hK _ _ (h w' c cur (Lib.hid hm) hm.2.2.2.1))
end
theorem encW_one' (l : List Wr) : ∀ v ∈ flatG encW l, v.oneCell' = true := by
  intro u hu
  obtain ⟨y, _, hy⟩ := List.mem_flatMap.1 hu
  exact encW_one y u hy
end Go.Proofs.YtcmpbhcldaogiaaGreat
namespace Go.Proofs.YtcmpbhcldaogiaaGreat
open Go.RowKit
attribute [local go_sem] less_eq same_eq le_eq ge_eq gt_eq

set_option maxHeartbeats 400000 in
theorem empty_any (s : K × K) (w : World) : Calls Tryz.prog 23 #[.agg #[.string s.1, .string s.2]] w fun e w' => e = .returned (.bool (decide (s.2 ≤ s.1))) ∧ Below w.heap.size w w' := by
  go_enter Tryz.func23, Tryz.ntmps23
  go_wp2
  go_ret
  exact ⟨rfl, (Below.refl _ _).alloc (Nat.le_refl _) _⟩

/-- cmp.Compare at texts -/
def cmpKey (a b : K) : Int := if a < b then -1 else if b < a then 1 else 0
set_option maxHeartbeats 400000 in
theorem compare_any (a b : K) (w : World) : Calls Tryz.prog 38 #[.string a, .string b] w fun e w' => e = .returned (.int .i64 (cmpKey a b)) ∧ w' = w := by
  by_cases h1 : a < b
  · go_enter Tryz.func38, Tryz.ntmps38
    go_wp2
    go_ret
    exact ⟨by simp [cmpKey, h1], rfl⟩
  · by_cases h2 : a = b
    · subst h2
      go_enter Tryz.func38, Tryz.ntmps38
      go_wp2
      go_ret
      exact ⟨by simp [cmpKey, h1], rfl⟩
    · have h3 : b < a := by grind
      go_enter Tryz.func38, Tryz.ntmps38
      go_wp2
      go_ret
      exact ⟨by simp [cmpKey, h1, h3], rfl⟩

set_option maxHeartbeats 400000 in
theorem next_any (k : K) (w : World) (hk : k.size < 9223372036854775807) : Calls Tryz.prog 95 #[.string k] w fun e w' => e = .returned (.string (k ++ ⟨#[0]⟩)) ∧ w' = w := by
  go_enter Tryz.func95, Tryz.ntmps95
  go_wp2
  go_ret
  exact ⟨rfl, rfl⟩

set_option maxHeartbeats 400000 in
theorem meet_any (a b : K × K) (w : World) : Calls Tryz.prog 25 #[.agg #[.string a.1, .string a.2], .agg #[.string b.1, .string b.2]] w fun e w' => e = .returned (spv (meet a b)) ∧ Below w.heap.size w w' := by
  have hmax := fun (w : World) (ts : Array TypeId) (t : TypeId) (x y : ByteArray) => (Lib.run_max_strs (P := Tryz.prog) w ts t x y)
  have hmin := fun (w : World) (ts : Array TypeId) (t : TypeId) (x y : ByteArray) => (Lib.run_min_strs (P := Tryz.prog) w ts t x y)
  simp only [maxS_eq, minS_eq] at hmax hmin
  by_cases h : mn a.2 b.2 ≤ mx a.1 b.1
  · have e : meet a b = (⟨#[]⟩, ⟨#[]⟩) := by rw [meet, if_pos h]
    rw [e]
    go_enter Tryz.func25, Tryz.ntmps25
    go_wp2
    refine bodyPost_ret (v := .agg #[.string ⟨#[]⟩, .string ⟨#[]⟩]) (by simp [results, Tryz.results25, go_sem]) rfl ⟨rfl, ?_⟩
    ((repeat' (first | exact Below.refl _ _ | refine Below.alloc ?_ ?_ _ | refine Below.setCell ?_ ?_ _ | refine Below.drew ?_)); all_goals ((try simp only [World.size_alloc]); omega))
  · have e : meet a b = (mx a.1 b.1, mn a.2 b.2) := by rw [meet, if_neg h]
    rw [e]
    go_enter Tryz.func25, Tryz.ntmps25
    go_wp2
    refine bodyPost_ret (v := .agg #[.string (mx a.1 b.1), .string (mn a.2 b.2)]) (by simp [results, Tryz.results25, go_sem]) rfl ⟨rfl, ?_⟩
    ((repeat' (first | exact Below.refl _ _ | refine Below.alloc ?_ ?_ _ | refine Below.setCell ?_ ?_ _ | refine Below.drew ?_)); all_goals ((try simp only [World.size_alloc]); omega))

end Go.Proofs.YtcmpbhcldaogiaaGreat
namespace Go.Proofs.YtcmpbhcldaogiaaGreat
open Go.RowKit

section
variable {α : Type} {enc : α → List Value} {k : Nat} {P : Program}
theorem run_append_new (w : World) (base : Nat) (t ty e : TypeId) (i : TypeInfo) (z : Value) (size bytes : Nat) (ht : P.underlying t = some (.slice e)) (hi : P.info? e = some i) (hz : i.zero = some z)
    (hsize : i.size = size) (hby : i.bytes = bytes) (hzs : z.cells.size = size) (hsz : 0 < size)
    (v : Value) (n : Nat) (xs : List Value) (hown : w.ownsRow base e size v n xs)
    (a : Addr) (m c : Nat) (news : List Value) (hl : news.length = m * size) (hnews : ∀ j u, news[j]? = some u → w.cell? (a.add j) = some u) (h1 : ∀ u ∈ news, u.oneCell' = true)
    (h63 : n + m ≤ maxLen) (hbytes : ((n + m) + (n + m) / 4 + 192) * bytes ≤ 281474976710656) (v' : Value) (w' : World) (hrun : (Builtin.append_ #[t, t] ty #[v, .slice (some a) m c]).run P w = .ok v' w') : NewRow w v.ownBlock v'.ownBlock := by
  subst hsize
  subst hby
  have hsmall : n + m ≤ 9223372036854775807 := by simp only [maxLen] at h63; omega
  rcases hown.2 with ⟨rfl, rfl⟩ | ⟨g, cap, cur, rfl, hbg, hg, hnc, hcm, hcs, htake⟩
  · by_cases hm : m = 0
    · subst hm
      have hn : news = [] := List.eq_nil_of_length_eq_zero (by simpa using hl)
      subst hn
      have hr : (Builtin.append_ #[t, t] ty #[.slice none 0 0, .slice (some a) 0 c]).run P w = .ok (.slice none 0 0) w := by
        simp [Builtin.append_, run_underlying ht, sizeOf, typeInfo, hi, Builtin.lenOf, Builtin.firstCells, loadCells, loadCellsFrom]
      rw [hr] at hrun
      injection hrun with h1 h2
      subst h1
      exact NewRow.refl _ _
    · have hr := run_append_nil (P := P) w t ty e i z ht hi hz a m c news hl hnews (by omega) (by omega) (by have hb := hbytes; simp only [Nat.zero_add] at hb; exact Nat.le_trans (Nat.mul_le_mul_right _ (by omega)) hb)
      rw [hr] at hrun
      injection hrun with h1 h2
      subst h1
      intro g hg
      injection hg with hg
      exact .inr (by simp only at hg; omega)
  · by_cases hroom : n + m ≤ cap
    · have hfit : n * i.size + news.length ≤ cur.size := by rw [hl, hcs, ← Nat.add_mul]; exact Nat.mul_le_mul_right _ hroom
      have hr := run_append_room (P := P) w t ty e i ht hi g n cap cur hg a m c news hl hnews h1 hroom hfit
      rw [hr] at hrun
      injection hrun with h1 h2
      subst h1
      exact fun _ h => .inl h
    · have holds : ∀ j u, xs[j]? = some u → w.cell? ((⟨g, 0, none⟩ : Addr).add j) = some u := hown.cells (g := g) rfl
      have hr := run_append_grow (P := P) w t ty e i z ht hi hz ⟨g, 0, none⟩ n cap xs hown.1 holds a m c news hl hnews (by omega) (by omega) (growslice_fits_wide (by omega) hbytes)
      rw [hr] at hrun
      injection hrun with h1 h2
      subst h1
      intro g2 hg2
      injection hg2 with hg2
      exact .inr (by simp only at hg2; omega)

/-- append to a slice of the call's own; its block is the old one or a new one -/
theorem wp_addAnyN (t e : TypeId) (bytes : Nat) (i0 : TypeInfo) (z : Value) (ht : P.underlying t = some (.slice e)) (hi : P.info? e = some i0) (hz0 : i0.zero = some z) (hz1 : i0.size = k) (hz2 : i0.bytes = bytes) (hzs : z.cells.size = k) (hk0 : 0 < k)
    (hk : ∀ x, (enc x).length = k) (hone : ∀ x, ∀ u ∈ enc x, u.oneCell' = true) {o : Oper} {a : Act} {K : Act → World → Prop} {Q : Exit → Act → World → Prop} {w : World} (s x : Operand)
    (ho : o.op = .call { callee := .builtin .append, args := #[s, x], argTypes := #[t, t] })
    (base : Nat) (v : Value) (l : List α) (hs : a.eval s = v) (hown : Own enc k e w base v l) (B : Nat) (v2 : Value) (p : List α) (hx : a.eval x = v2) (hp : Rd enc k w B v2 p)
    (h63 : l.length + p.length ≤ maxLen) (hbytes : ((l.length + p.length) + (l.length + p.length) / 4 + 192) * bytes ≤ 281474976710656) (hbase : base ≤ w.heap.size)
    (h : ∀ A' c' w', Own enc k e w' base (.slice A' (l ++ p).length c') (l ++ p) → w.grownBy w' v.ownBlock → NewRow w v.ownBlock (Value.ownBlock (.slice A' (l ++ p).length c')) → K (a.put o.dst (.slice A' (l ++ p).length c')) w') : o.wp P a w K Q := by
  obtain ⟨A, c, rfl, hc, hi2⟩ := hp
  have main : ∃ v' w', (Builtin.append_ #[t, t] o.type #[v, .slice A p.length c]).run P w = .ok v' w' ∧ w'.ownsRow base e k v' (l ++ p).length (flatG enc (l ++ p)) ∧ w.grownBy w' v.ownBlock ∧ NewRow w v.ownBlock v'.ownBlock := by
    cases A with
    | none =>
      have hp0 : p = [] := by
        cases p with
        | nil => rfl
        | cons y r =>
          obtain ⟨b, o', hA, _⟩ := hi2 0 (by simp)
          cases hA
      subst hp0
      refine ⟨v, w, ?_, by rw [List.append_nil]; exact hown, ⟨rfl, rfl, rfl, Nat.le_refl _, fun _ _ _ => rfl⟩, NewRow.refl _ _⟩
      rcases hown.2 with ⟨rfl, _⟩ | ⟨g, cap, cur, rfl, _, _, hnc, _⟩
      · simp [Builtin.append_, run_underlying ht, sizeOf, typeInfo, hi, Builtin.lenOf, Builtin.firstCells]
      · simp [Builtin.append_, run_underlying ht, sizeOf, typeInfo, hi, Builtin.lenOf, Builtin.firstCells, hnc, storeCells]
    | some ad =>
      have hcells : ∀ j u, (flatG enc p)[j]? = some u → w.cell? (ad.add j) = some u := by
        intro j u hu
        have hjl : j < p.length * k := by
          rcases Nat.lt_or_ge j (p.length * k) with h' | h'
          · exact h'
          · rw [List.getElem?_eq_none (by rw [flatG_length hk]; exact h')] at hu; cases hu
        have hil : j / k < p.length := by rw [Nat.div_lt_iff_lt_mul hk0]; exact hjl
        obtain ⟨b, o', hA, _, h1⟩ := hi2 (j / k) hil
        have hm : j % k < k := Nat.mod_lt _ hk0
        have e1 : j / k * k + j % k = j := Nat.div_add_mod' j k
        have hg := flatG_get hk p (j / k) hil (j % k) hm
        rw [e1, hu] at hg
        have := h1 (j % k) u hg.symm
        injection hA with hA
        rw [hA]
        have hadd : (⟨b, o', none⟩ : Addr).add j = ⟨b, o' + j, none⟩ := by unfold Addr.add; split <;> simp_all
        rw [hadd, ← this]
        congr 2
        omega
      obtain ⟨v', w', hrun, h2, h3, _⟩ := run_append_own_wide (P := P) w base t o.type e i0 z k bytes ht hi hz0 hz1 hz2 hzs hk0 v l.length (flatG enc l) hown ad p.length c (flatG enc p) (flatG_length hk p) hcells
        (fun u hu => by obtain ⟨y, _, hy⟩ := List.mem_flatMap.1 hu; exact hone y u hy) h63 hbytes hbase
      have h9 := run_append_new (P := P) w base t o.type e i0 z k bytes ht hi hz0 hz1 hz2 hzs hk0 v l.length (flatG enc l) hown ad p.length c (flatG enc p) (flatG_length hk p) hcells
        (fun u hu => by obtain ⟨y, _, hy⟩ := List.mem_flatMap.1 hu; exact hone y u hy) h63 hbytes v' w' hrun
      exact ⟨v', w', hrun, by rw [List.length_append, flatG_append]; exact h2, h3, h9⟩
  obtain ⟨v', w', hrun, h2, h3, h9⟩ := main
  have h4 : Own enc k e w' base v' (l ++ p) := h2
  have hv : ∃ A' c', v' = .slice A' (l ++ p).length c' := by
    rcases h4.form with ⟨hv, h0⟩ | ⟨g, cap, hv, _⟩
    · exact ⟨none, 0, by rw [h0]; exact hv⟩
    · exact ⟨_, _, hv⟩
  obtain ⟨A', c', rfl⟩ := hv
  unfold Oper.wp execOp
  simp only [ho, resolve, invoke, builtin, Sem.run_bind, Sem.run_pure, Result.andThen_ok, List.map_toArray, List.map_cons, List.map_nil, hs, hx, hrun]
  exact h A' c' w' h4 h3 h9

end
end Go.Proofs.YtcmpbhcldaogiaaGreat
namespace Go.Proofs.YtcmpbhcldaogiaaGreat
open Go.RowKit
attribute [local go_sem] less_eq same_eq le_eq ge_eq gt_eq

/-- what Forget keeps -/
def keepB (v : Int) (x : Wr) : Bool := !decide (x.v ≤ v)
theorem grown_same (w : World) (row : Option Nat) : w.grownBy w row := ⟨rfl, rfl, rfl, Nat.le_refl _, fun _ _ _ => rfl⟩
theorem grown_trans' {a b c : World} {row : Option Nat} (h1 : a.grownBy b row) (h2 : b.grownBy c row) : a.grownBy c row :=
  ⟨h2.os.trans h1.os, h2.tape.trans h1.tape, h2.output.trans h1.output, Nat.le_trans h1.size h2.size, fun k hk hn => (h2.block k (Nat.lt_of_lt_of_le hk h1.size) hn).trans (h1.block k hk hn)⟩
theorem grown_cell {w w' : World} {row : Option Nat} (h : w.grownBy w' row) {p : Addr} (hp : p.block < w.heap.size) (hr : row ≠ some p.block) : w'.cell? p = w.cell? p := by
  have := h.block p.block hp (Ne.symm hr)
  unfold World.cell?
  rw [this]

set_option maxHeartbeats 1000000 in
set_option maxRecDepth 100000 in
theorem forgetcl_any (s : Int) (x : Wr) (B : Nat) (w : World) (h0 : w.cell? ⟨B, 0, none⟩ = some (.int .i64 s)) :
    Calls Tryz.prog 29 #[.agg #[.string x.s.1, .string x.s.2, .int .i64 x.v], .pointer (some ⟨B, 0, none⟩)] w fun e w' => e = .returned (.bool (!keepB s x)) ∧ Below w.heap.size w w' := by
  have e : (!keepB s x) = decide (x.v ≤ s) := by simp [keepB]
  rw [e]
  clear e
  have h0' := (World.cell?_alloc_some w ⟨B, 0, none⟩ (.cells #[.string x.s.1, .string x.s.2, .int .i64 x.v] 67) (by rw [h0]; rfl)).trans h0
  clear h0
  go_enter Tryz.func29, Tryz.ntmps29
  go_wp2_with fail
  go_ret
  exact ⟨rfl, (Below.refl _ w).alloc (Nat.le_refl _) _⟩

set_option maxHeartbeats 4000000 in
set_option maxRecDepth 100000 in
theorem index_any (s : Int) (B : Nat) (l : List Wr) (v : Value) (w : World) (hB : B < w.heap.size) (h0 : w.cell? ⟨B, 0, none⟩ = some (.int .i64 s)) (hv : RdW w w.heap.size v l) (hl : l.length < 4611686018427387904) :
    Calls Tryz.prog 41 #[v, .func (.func 29) #[] #[.pointer (some ⟨B, 0, none⟩)]] w fun e w' =>
      ((e = .returned (.int .i64 (-1)) ∧ ∀ t (_ : t < l.length), keepB s l[t] = true) ∨ (∃ i, ∃ hi : i < l.length, e = .returned (.int .i64 (i : Nat)) ∧ keepB s l[i] = false ∧ ∀ t (_ : t < l.length), t < i → keepB s l[t] = true)) ∧ Below w.heap.size w w' := by
  obtain ⟨A, c, rfl, hc, hi⟩ := hv.at
  have HI := Lib.hid hi; clear hi
  clear hv
  obtain ⟨g, hg⟩ : ∃ g, g = w.heap.size := ⟨_, rfl⟩
  have HG := Lib.hid hg
  have hbg : B < g := by omega
  clear hg
  have hcl := fun (x : Wr) W (hW : Below g w W) => forgetcl_any s x B W ((hW.cell (p := ⟨B, 0, none⟩) hbg).trans h0)
  have HCL := Lib.hid hcl; clear hcl h0
  go_enter Tryz.func41, Tryz.ntmps41
  go_wp2_with fail
  go_loopw [8] (fun iv wr => ∃ i : Nat, i ≤ l.length ∧ iv = .int .i64 i ∧ Hid (Below g w wr) ∧ Hid (∀ t (_ : t < l.length), t < i → keepB s l[t] = true)) (fun iv _ => l.length - (intOf iv).toNat)
  case atStart => exact ⟨0, Nat.zero_le _, rfl, Lib.hid (Below.refl _ _), Lib.hid (fun t _ h => absurd h (Nat.not_lt_zero _))⟩
  case round =>
    obtain ⟨i, hil, rfl, HBW, HP⟩ := hrel
    by_cases hlt : i < l.length
    · obtain ⟨b, o, rfl, hbB, k0, k1, k2⟩ := HI.out i hlt
      rw [← HBW.out.cell (p := ⟨b, _, none⟩) (by rw [HG.out]; exact hbB)] at k0
      rw [← HBW.out.cell (p := ⟨b, _, none⟩) (by rw [HG.out]; exact hbB)] at k1
      rw [← HBW.out.cell (p := ⟨b, _, none⟩) (by rw [HG.out]; exact hbB)] at k2
      have hcc := HCL.out l[i] wr HBW.out
      cases hx : keepB s l[i] with
      | true =>
        rw [hx] at hcc
        have hp : ∀ t (_ : t < l.length), t < i + 1 → keepB s l[t] = true := fun t ht h => by
          rcases Nat.lt_or_ge t i with h2 | h2
          · exact HP.out t ht h2
          · have e : t = i := by omega
            subst e; exact hx
        have HP2 := Lib.hid hp; clear hp hx
        generalize l[i] = z at k0 k1 k2 hcc
        obtain ⟨⟨zx, zy⟩, zv⟩ := z
        simp only [Bool.not_true] at k0 k1 k2 hcc
        have HCC := Lib.hid hcc; clear hcc
        go_wp2_with fail
        refine HCC.out.mono ?_
        rintro e w2 ⟨rfl, hb2⟩
        have HB2 := Lib.hid (HBW.out.trans (hb2.mono (by rw [HG.out]; exact HBW.out.size)))
        clear hb2 k0 k1 k2
        go_wp2_with fail
        go_roundw
        case rel => exact ⟨i + 1, by omega, by go_num, HB2, HP2⟩
        case measure => simp [intOf]; omega
      | false =>
        rw [hx] at hcc
        have HX := Lib.hid hx; clear hx
        have HPP := Lib.hid (show keepB s l[i] = false from HX.out)
        generalize l[i] = z at k0 k1 k2 hcc
        obtain ⟨⟨zx, zy⟩, zv⟩ := z
        simp only [Bool.not_false] at k0 k1 k2 hcc
        have HCC := Lib.hid hcc; clear hcc
        go_wp2_with fail
        refine HCC.out.mono ?_
        rintro e w2 ⟨rfl, hb2⟩
        have HB2 := Lib.hid (HBW.out.trans (hb2.mono (by rw [HG.out]; exact HBW.out.size)))
        clear hb2 k0 k1 k2
        go_wp2_with fail
        go_ret
        exact ⟨.inr ⟨i, hlt, rfl, HX.out, HP.out⟩, by have h := HB2.out; rwa [HG.out] at h⟩
    · obtain rfl : i = l.length := by omega
      go_wp2_with fail
      go_ret
      exact ⟨.inl ⟨rfl, fun t ht => HP.out t ht ht⟩, by have h := HBW.out; rwa [HG.out] at h⟩

theorem flatG_set {α : Type} {enc : α → List Value} {k : Nat} (hk : ∀ x, (enc x).length = k) : ∀ (l : List α) (i j : Nat) (u : Value) (x' : α) (hi : i < l.length) (_ : j < k) (_ : (enc l[i]).set j u = enc x'), (flatG enc l).set (i * k + j) u = flatG enc (l.set i x')
  | x :: r, 0, j, u, x', _, hj, hx => by
    simp only [List.getElem_cons_zero] at hx
    simp only [Nat.zero_mul, Nat.zero_add, List.set_cons_zero]
    rw [show flatG enc (x :: r) = enc x ++ flatG enc r by simp [flatG], show flatG enc (x' :: r) = enc x' ++ flatG enc r by simp [flatG], List.set_append_left _ _ (by rw [hk]; exact hj), hx]
  | x :: r, i + 1, j, u, x', hi, hj, hx => by
    have ih := flatG_set hk r i j u x' (by simpa using hi) hj (by simpa using hx)
    simp only [List.set_cons_succ]
    rw [show flatG enc (x :: r) = enc x ++ flatG enc r by simp [flatG], show flatG enc (x :: r.set i x') = enc x ++ flatG enc (r.set i x') by simp [flatG], ← ih, List.set_append_right _ _ (by rw [hk, Nat.add_mul]; omega)]
    congr 2
    rw [hk, Nat.add_mul]; omega
set_option maxRecDepth 100000 in
theorem Own.setAt {α : Type} {enc : α → List Value} {k : Nat} {e : TypeId} {w : World} {base g m c : Nat} {l : List α} (hk : ∀ x, (enc x).length = k) (h : Own enc k e w base (.slice (some ⟨g, 0, none⟩) m c) l) (i j : Nat) (u : Value) (x' : α) (hi : i < l.length) (hj : j < k) (hx : (enc l[i]).set j u = enc x') :
    Own enc k e (w.setCell ⟨g, i * k + j, none⟩ u) base (.slice (some ⟨g, 0, none⟩) m c) (l.set i x') := by
  refine ⟨by rw [flatG_length hk], ?_⟩
  rcases h.2 with ⟨h2, _⟩ | ⟨g2, cap, cur, hv, hb, hh, h1, h2, h3, h4⟩
  · cases h2
  · injection hv with e1 e2 e3
    injection e1 with e1
    injection e1 with e1
    subst e1 e2 e3
    refine .inr ⟨g, c, cur.set! (i * k + j) u, by simp, hb, ?_, by simpa using h1, h2, by simpa using h3, ?_⟩
    · simp [World.setCell, Array.getElem?_modify, hh]
    · rw [List.length_set, ← flatG_set hk l i j u x' hi hj hx, ← h4]
      simp [List.take_set]
theorem Own.stand {α : Type} {enc : α → List Value} {k : Nat} {e : TypeId} {w : World} {base g m c : Nat} {l : List α} (h : Own enc k e w base (.slice (some ⟨g, 0, none⟩) m c) l) (o : Nat) : w.frozen? ⟨g, o, none⟩ = false := by
  rcases h.2 with ⟨h2, _⟩ | ⟨g2, cap, cur, hv, hb, hh, h1, h2, h3, h4⟩
  · cases h2
  · injection hv with e1 e2 e3
    injection e1 with e1
    injection e1 with e1
    subst e1
    simp [World.frozen?, hh]

theorem filter_take_succ {α : Type} (p : α → Bool) (l : List α) (j : Nat) (h : j < l.length) : (l.take (j + 1)).filter p = (l.take j).filter p ++ (if p l[j] = true then [l[j]] else []) := by
  rw [List.take_succ_eq_append_getElem h, List.filter_append]
  congr 1
  by_cases hp : p l[j] = true
  · simp [hp]
  · simp [hp]

set_option maxHeartbeats 8000000 in
set_option maxRecDepth 100000 in
theorem deleteFunc_any (s : Int) (B base : Nat) (l : List Wr) (v : Value) (w : World) (hB : B < w.heap.size) (hBv : v.ownBlock ≠ some B) (h0 : w.cell? ⟨B, 0, none⟩ = some (.int .i64 s)) (ho : OwnMk w base v l) (hbs : base ≤ w.heap.size) (hl : l.length < 4611686018427387904) :
    Calls Tryz.prog 28 #[v, .func (.func 29) #[] #[.pointer (some ⟨B, 0, none⟩)]] w fun e w' =>
      ∃ A c, e = .returned (.slice A (l.filter fun x => keepB s x).length c) ∧ OwnMk w' base (.slice A (l.filter fun x => keepB s x).length c) (l.filter fun x => keepB s x) ∧ w.grownBy w' v.ownBlock ∧ Value.ownBlock (.slice A (l.filter fun x => keepB s x).length c) = v.ownBlock := by
  have hix := index_any s B l v w (by omega) h0 (ho.rd encW_len) hl
  have hcl := fun (x : Wr) W (hW : w.grownBy W v.ownBlock) => forgetcl_any s x B W ((grown_cell hW (p := ⟨B, 0, none⟩) hB hBv).trans h0)
  have HCL := Lib.hid hcl; clear hcl h0 hBv
  have HIX := Lib.hid hix; clear hix
  have HO := Lib.hid ho
  obtain ⟨A, c, rfl, hlc⟩ : ∃ A c, v = .slice A l.length c ∧ l.length ≤ c := by
    obtain ⟨A, c, e1, e2, _⟩ := ho.rd encW_len
    exact ⟨A, c, e1, e2⟩
  have hrow := ho.row
  clear ho
  go_enter Tryz.func28, Tryz.ntmps28
  go_wp2_with fail
  refine HIX.out.mono ?_
  rintro e w1 ⟨⟨rfl, hall⟩ | ⟨i, hi, rfl, hxi, hlo⟩, hb1⟩
  · have hfl : (l.filter fun x => keepB s x) = l := List.filter_eq_self.2 fun x hx => by
      obtain ⟨t, ht, rfl⟩ := List.getElem_of_mem hx
      exact hall t ht
    have HFL := Lib.hid hfl; clear hfl hall
    have HO1 := Lib.hid (HO.out.below hb1 (Nat.le_refl _))
    have HB1 := Lib.hid (grow_below (grown_same w (Value.slice A l.length c).ownBlock) hb1 (Nat.le_refl _)); clear hb1
    go_wp2_with fail
    go_ret
    rw [HFL.out]
    exact ⟨A, c, rfl, HO1.out, HB1.out, rfl⟩
  · obtain ⟨g, cap, cur, hv, hbg, hg, hcc, hcm, hcl, hct⟩ := hrow.resolve_left (fun h => by rw [h.2] at hi; simp at hi)
    injection hv with e1 _ e3
    subst e1 e3
    have hft : (l.take (i + 1)).filter (fun x => keepB s x) = l.take i := by
      rw [filter_take_succ _ l i hi, hxi]
      simp only [Bool.false_eq_true, if_false, List.append_nil]
      exact List.filter_eq_self.2 fun x hx => by
        rw [List.mem_take_iff_getElem] at hx
        obtain ⟨t, ht, rfl⟩ := hx
        exact hlo t (by omega) (by omega)
    have HO1 := Lib.hid (HO.out.below hb1 (Nat.le_refl _))
    have HB1 := Lib.hid (grow_below (grown_same w (some g)) hb1 (Nat.le_refl _))
    have hi1 : (i : Int) + 1 ≤ (l.length : Int) := by omega
    have hw1 : IntKind.i64.wrap ((i : Int) + 1) = ((i + 1 : Nat) : Int) := by rw [wrap_small _ (by omega) (by omega)]; omega
    have hine : ((i : Int) == -1) = false := by simp
    have HFT := Lib.hid hft; clear hft
    clear hb1 hxi hlo hg hcl hct cur HIX HO hrow hcc
    go_wp2_with fail
    go_loopw [5, 6] (fun iv jv wr => ∃ (a j : Nat) (R : List Wr), a < j ∧ j ≤ l.length ∧ iv = .int .i64 a ∧ jv = .int .i64 j ∧ Hid (R.length = l.length) ∧ Hid (OwnMk wr base (.slice (some ⟨g, 0, none⟩) l.length c) R) ∧ Hid (R.take a = (l.take j).filter (fun x => keepB s x)) ∧ Hid (∀ t (_ : t < l.length), j ≤ t → R[t]? = l[t]?) ∧ Hid (w.grownBy wr (some g))) (fun _ jv _ => l.length - (intOf jv).toNat)
    case atStart => exact ⟨i, i + 1, l, by omega, by omega, rfl, by go_num, Lib.hid rfl, HO1, Lib.hid HFT.out.symm, Lib.hid (fun _ _ _ => rfl), HB1⟩
    case round =>
      obtain ⟨a, j, R, haj, hjl, rfl, rfl, HRL, HR, HT, HD, HB⟩ := hrel
      have hRl := HRL.out
      have hbw : base ≤ wr.heap.size := Nat.le_trans hbs HB.out.size
      clear hw1 hine hi1 HFT HO1 HB1
      by_cases hlt : j < l.length
      · have hRj : R[j]? = some l[j] := by rw [HD.out j hlt (Nat.le_refl _), List.getElem?_eq_getElem hlt]
        obtain ⟨hj2, hj3⟩ := List.getElem?_eq_some_iff.1 hRj
        obtain ⟨A2, c2, ev, _, hcells⟩ := RdW.at (HR.out.rd encW_len)
        obtain ⟨b2, o2, eA, _, k0, k1, k2⟩ := hcells j hj2
        injection ev with ev1 ev2 ev3
        rw [← ev1] at eA
        injection eA with eA
        injection eA with eb eo ep
        subst eb eo
        clear ev1 ev2 ev3 ep
        rw [hj3] at k0 k1 k2
        clear hcells hRj
        simp only [Nat.zero_add] at k0 k1 k2
        have hcc := HCL.out l[j] (wr.alloc (.cells #[.string l[j].s.1, .string l[j].s.2, .int .i64 l[j].v] 67)) (grow_alloc HB.out _)
        have hfs := filter_take_succ (fun x : Wr => keepB s x) l j hlt
        have hng : wr.heap.size ≠ g := by have := (HR.out.low (i := g) rfl).2; omega
        have hD2 : ∀ t (_ : t < l.length), j + 1 ≤ t → R[t]? = l[t]? := fun t ht h => HD.out t ht (by omega)
        cases hx : keepB s l[j] with
        | true =>
          rw [hx] at hcc hfs
          have hset : ∀ W, OwnMk W base (.slice (some ⟨g, 0, none⟩) l.length c) R → OwnMk (((W.setCell ⟨g, a * 3, none⟩ (.string l[j].s.1)).setCell ⟨g, a * 3 + 1, none⟩ (.string l[j].s.2)).setCell ⟨g, a * 3 + 2, none⟩ (.int .i64 l[j].v)) base (.slice (some ⟨g, 0, none⟩) l.length c) (R.set a l[j]) := fun W hW => by
            have ha : a < R.length := by omega
            have h1 := hW.setAt encW_len a 0 (.string l[j].s.1) ⟨(l[j].s.1, (R[a]'ha).s.2), (R[a]'ha).v⟩ ha (by omega) rfl
            have h2 := h1.setAt encW_len a 1 (.string l[j].s.2) ⟨(l[j].s.1, l[j].s.2), (R[a]'ha).v⟩ (by simpa using ha) (by omega) (by rw [List.getElem_set_self]; rfl)
            rw [List.set_set] at h2
            have h3 := h2.setAt encW_len a 2 (.int .i64 l[j].v) l[j] (by simpa using ha) (by omega) (by rw [List.getElem_set_self]; rfl)
            rw [List.set_set] at h3
            exact h3
          have hcell2 : ∀ W, OwnMk W base (.slice (some ⟨g, 0, none⟩) l.length c) R → (∃ u, W.cell? ⟨g, a * 3, none⟩ = some u) ∧ (∃ u, (W.setCell ⟨g, a * 3, none⟩ (.string l[j].s.1)).cell? ⟨g, a * 3 + 1, none⟩ = some u) ∧ (∃ u, ((W.setCell ⟨g, a * 3, none⟩ (.string l[j].s.1)).setCell ⟨g, a * 3 + 1, none⟩ (.string l[j].s.2)).cell? ⟨g, a * 3 + 2, none⟩ = some u) := fun W hW => by
            have ha : a < R.length := by omega
            obtain ⟨A3, c3, ev3, _, hc3⟩ := RdW.at (hW.rd encW_len)
            obtain ⟨b3, o3, eA3, _, m0, m1, m2⟩ := hc3 a ha
            injection ev3 with ev31 ev32 ev33
            rw [← ev31] at eA3
            injection eA3 with eA3
            injection eA3 with eb3 eo3 _
            subst eb3 eo3
            simp only [Nat.zero_add] at m0 m1 m2
            exact ⟨⟨_, m0⟩, ⟨_, (World.cell?_setCell_other W ⟨g, a * 3, none⟩ ⟨g, a * 3 + 1, none⟩ _ (by simp)).trans m1⟩, ⟨_, (World.cell?_setCell_other _ ⟨g, a * 3 + 1, none⟩ ⟨g, a * 3 + 2, none⟩ _ (by simp)).trans ((World.cell?_setCell_other W ⟨g, a * 3, none⟩ ⟨g, a * 3 + 2, none⟩ _ (by simp)).trans m2)⟩⟩
          have hT2 : (R.set a l[j]).take (a + 1) = (l.take (j + 1)).filter (fun x => keepB s x) := by
            rw [hfs, ← HT.out, List.take_add_one, List.getElem?_set_self (by omega), List.take_set_of_le (Nat.le_refl _)]
            simp
          have hD3 : ∀ t (_ : t < l.length), j + 1 ≤ t → (R.set a l[j])[t]? = l[t]? := fun t ht h => by rw [List.getElem?_set_ne (by omega)]; exact hD2 t ht h
          have hRl2 : (R.set a l[j]).length = l.length := by rw [List.length_set]; exact hRl
          generalize R.set a l[j] = R2 at hset hT2 hD3 hRl2
          have HRL2 := Lib.hid hRl2; clear hRl2 hRl
          clear hx hfs hj3 hj2 hD2
          generalize l[j] = z at k0 k1 k2 hcc hset hcell2
          obtain ⟨⟨zx, zy⟩, zv⟩ := z
          simp only [Bool.not_true] at k0 k1 k2 hcc hset hcell2
          have HCC := Lib.hid hcc; clear hcc
          have HSET := Lib.hid hset; clear hset
          have HC2 := Lib.hid hcell2; clear hcell2
          have HT2 := Lib.hid hT2; clear hT2
          have HD3 := Lib.hid hD3; clear hD3
          have hj5 : (j : Int) < (l.length : Int) := by omega
          go_wp2_with fail
          refine HCC.out.mono ?_
          rintro e w2 ⟨rfl, hb2⟩
          have hR2 : OwnMk w2 base (.slice (some ⟨g, 0, none⟩) l.length c) R := (HR.out.alloc _).below hb2 (Nat.le_refl _)
          have hv2 : Whole w2 wr.heap.size 67 [.string zx, .string zy, .int .i64 zv] := (Whole.fresh wr 67 [.string zx, .string zy, .int .i64 zv]).below hb2 (by simp)
          have hBw2 : w.grownBy w2 (some g) := grow_below (grow_alloc HB.out _) hb2 (by have := HB.out.size; simp; omega)
          obtain ⟨⟨u0, m0⟩, ⟨u1, m1⟩, ⟨u2, m2⟩⟩ := HC2.out w2 hR2
          have z0 := hR2.stand (a * 3)
          have z1 : (w2.setCell ⟨g, a * 3, none⟩ (.string zx)).frozen? ⟨g, a * 3 + 1, none⟩ = false := by rw [World.frozen?_setCell]; exact hR2.stand (a * 3 + 1)
          have z2 : ((w2.setCell ⟨g, a * 3, none⟩ (.string zx)).setCell ⟨g, a * 3 + 1, none⟩ (.string zy)).frozen? ⟨g, a * 3 + 2, none⟩ = false := by rw [World.frozen?_setCell, World.frozen?_setCell]; exact hR2.stand (a * 3 + 2)
          have n0 := hv2.cell 0 _ rfl
          have n1 := hv2.cell 1 _ rfl
          have n2 := hv2.cell 2 _ rfl
          have HR3 := Lib.hid (HSET.out w2 hR2)
          have HB3 := Lib.hid (grow_set (grow_set (grow_set hBw2 (a * 3) (.string zx)) (a * 3 + 1) (.string zy)) (a * 3 + 2) (.int .i64 zv))
          have ha5 : (a : Int) < (l.length : Int) := by omega
          clear hb2 hR2 hv2 hBw2 k0 k1 k2 hng
          go_wp2_with fail
          go_roundw
          case rel => exact ⟨a + 1, j + 1, R2, by omega, by omega, by go_num, by go_num, HRL2, HR3, HT2, HD3, HB3⟩
          case measure => simp [intOf]; omega
        | false =>
          rw [hx] at hcc hfs
          simp only [Bool.false_eq_true, if_false, List.append_nil] at hfs
          have HT2 := Lib.hid (show R.take a = (l.take (j + 1)).filter (fun x => keepB s x) by rw [hfs]; exact HT.out)
          have HD3 := Lib.hid hD2; clear hD2 hfs hx hj3 hj2 hRl
          generalize l[j] = z at k0 k1 k2 hcc
          obtain ⟨⟨zx, zy⟩, zv⟩ := z
          simp only [Bool.not_false] at k0 k1 k2 hcc
          have HCC := Lib.hid hcc; clear hcc
          have hj5 : (j : Int) < (l.length : Int) := by omega
          go_wp2_with fail
          refine HCC.out.mono ?_
          rintro e w2 ⟨rfl, hb2⟩
          have HR3 := Lib.hid (show OwnMk w2 base (.slice (some ⟨g, 0, none⟩) l.length c) R from (HR.out.alloc _).below hb2 (Nat.le_refl _))
          have HB3 := Lib.hid (show w.grownBy w2 (some g) from grow_below (grow_alloc HB.out _) hb2 (by have := HB.out.size; simp; omega))
          clear hb2 k0 k1 k2 hng
          go_wp2_with fail
          go_roundw
          case rel => exact ⟨a, j + 1, R, by omega, by omega, rfl, by go_num, HRL, HR3, HT2, HD3, HB3⟩
          case measure => simp [intOf]; omega
      · obtain rfl : j = l.length := by omega
        rw [List.take_length] at HT
        obtain ⟨g', cap', cur, ev, _, hg, _, hcm', hcl, hct⟩ := HR.out.row.resolve_left (fun h => by rw [h.2] at hRl; simp at hRl; omega)
        injection ev with ev1 ev2 ev3
        injection ev1 with ev1
        injection ev1 with ev1
        subst ev1 ev3
        clear ev2
        rw [hRl] at hct
        have HG := Lib.hid hg; clear hg
        have HCL2 := Lib.hid hcl; clear hcl
        have HCT := Lib.hid hct; clear hct
        have ha1 : (a : Int) ≤ (l.length : Int) := by omega
        have ha2 : (a : Int) ≤ (c : Int) := by omega
        have ha3 : ¬ c = a := by omega
        have hfl : (l.filter fun x => keepB s x).length = a := by rw [← HT.out, List.length_take]; omega
        have HFL := Lib.hid hfl; clear hfl
        unfold maxLen at hcm
        clear hRl
        go_wp2_with (with_reducible show wpList _ _ _ (⟨none, _, _, _, _, _⟩ :: _) _ _; go_must (refine wpList_clearP rfl _ rfl g (a * 3) cur _ _ _ rfl HG.out (fun _ => rfl) ?d1 ?_))
        case d1 => rw [HCL2.out]; omega
        intro w2 zs hz hm2
        have HZ := Lib.hid hz; clear hz
        go_wp2_with fail
        go_ret
        refine ⟨some ⟨g, 0, none⟩, c, by rw [HFL.out]; rfl, ?_, grown_trans' HB.out hm2.out.grown, rfl⟩
        rw [HFL.out]
        have hown := Own.ofRow (e := 67) encW_len (l.filter fun x => keepB s x) hbg hm2.out.whole (cap := c) (by rw [HFL.out]; omega) (by unfold maxLen; omega) (by rw [length_splice _ _ _ (by rw [HZ.out, HCL2.out]; omega), HCL2.out]) (by
          rw [HFL.out, take_splice_lt cur _ _ _ (Nat.le_refl _) (by rw [HCL2.out]; omega), ← HT.out, flatG_take encW_len, ← HCT.out, List.take_take, Nat.min_eq_left (by omega)])
        rw [HFL.out] at hown
        exact hown
theorem cmp_neg (a b : K) : (cmpKey a b < 0) ↔ a < b := by
  unfold cmpKey
  by_cases h1 : a < b
  · simp [h1]
  · by_cases h2 : b < a <;> simp [h1, h2]

theorem cmp_zero (a b : K) : (cmpKey a b = 0) ↔ a = b := by
  unfold cmpKey
  by_cases h1 : a < b
  · simp [h1]; grind
  · by_cases h2 : b < a
    · simp [h1, h2]; grind
    · simp [h1, h2]; grind

set_option maxHeartbeats 1000000 in
set_option maxRecDepth 100000 in
theorem besidecl1_any (x : Wr) (k : K) (w : World) : Calls Tryz.prog 37 #[.agg #[.string x.s.1, .string x.s.2, .int .i64 x.v], .string k] w fun e w' => e = .returned (.int .i64 (cmpKey x.s.2 k)) ∧ Below w.heap.size w w' := by
  have hcon := fun W' => compare_any x.s.2 k W'
  generalize cmpKey x.s.2 k = r at hcon ⊢
  go_enter Tryz.func37, Tryz.ntmps37
  go_wp2_with (go_at_call 38; refine (hcon _).mono ?_; rintro e w' ⟨rfl, rfl⟩)
  go_ret
  exact ⟨rfl, (Below.refl _ _).alloc (Nat.le_refl _) _⟩

set_option maxHeartbeats 1000000 in
set_option maxRecDepth 100000 in
theorem besidecl2_any (x : Wr) (k : K) (w : World) : Calls Tryz.prog 39 #[.agg #[.string x.s.1, .string x.s.2, .int .i64 x.v], .string k] w fun e w' => e = .returned (.int .i64 (cmpKey x.s.1 k)) ∧ Below w.heap.size w w' := by
  have hcon := fun W' => compare_any x.s.1 k W'
  generalize cmpKey x.s.1 k = r at hcon ⊢
  go_enter Tryz.func39, Tryz.ntmps39
  go_wp2_with (go_at_call 38; refine (hcon _).mono ?_; rintro e w' ⟨rfl, rfl⟩)
  go_ret
  exact ⟨rfl, (Below.refl _ _).alloc (Nat.le_refl _) _⟩

set_option maxHeartbeats 4000000 in
set_option maxRecDepth 100000 in
theorem bsearch1_any (l : List Wr) (hr : l.Pairwise fun x y => x.s.2 < y.s.2) (k : K) (v : Value) (w : World) (hv : RdW w w.heap.size v l) (hl : l.length < 4611686018427387904) :
    Calls Tryz.prog 36 #[v, .string k, .func (.func 37) #[] #[]] w fun e w' => ∃ i : Nat, i ≤ l.length ∧ (∀ t (_ : t < l.length), t < i → l[t].s.2 < k) ∧ (∀ t (_ : t < l.length), i ≤ t → ¬ l[t].s.2 < k) ∧ ∃ b, e = .returned (.tuple #[.int .i64 (i : Nat), .bool b]) ∧ (b = true ↔ ∃ h : i < l.length, l[i].s.2 = k) ∧ Below w.heap.size w w' := by
  obtain ⟨A, c, rfl, hc, hi⟩ := hv.at
  have HI := Lib.hid hi; clear hi
  have HR := Lib.hid hr; clear hr
  clear hv
  obtain ⟨g, hg⟩ : ∃ g, g = w.heap.size := ⟨_, rfl⟩
  have HG := Lib.hid hg; clear hg
  have hcl := fun (x : Wr) (W : World) => besidecl1_any x k W
  have HC := Lib.hid hcl; clear hcl
  go_enter Tryz.func36, Tryz.ntmps36
  go_wp2_with fail
  go_loopg [9, 10] l.length (fun kx s9 s10 wr => ∃ lo hi : Nat, s9 = .int .i64 lo ∧ s10 = .int .i64 hi ∧ lo ≤ hi ∧ hi ≤ l.length ∧ hi - lo ≤ kx ∧ Hid (Below g w wr) ∧
    Hid ((∀ t (_ : t < l.length), t < lo → l[t].s.2 < k) ∧ (∀ t (_ : t < l.length), hi ≤ t → ¬ l[t].s.2 < k)))
  case atStart => exact ⟨0, l.length, rfl, rfl, Nat.zero_le _, Nat.le_refl _, by omega, Lib.hid (Below.refl _ _), Lib.hid ⟨fun t _ ht => absurd ht (Nat.not_lt_zero _), fun t h1 h2 => by omega⟩⟩
  case round =>
    obtain ⟨lo, hi, rfl, rfl, hlh, hin, hgk, HB, HM⟩ := hrel
    by_cases hlt : lo < hi
    · have hh : (lo + hi) / 2 < l.length := by omega
      obtain ⟨b, o, rfl, hbB, k0, k1, k2⟩ := HI.out ((lo + hi) / 2) hh
      rw [← HB.out.cell (p := ⟨b, _, none⟩) (by rw [HG.out]; exact hbB)] at k0
      rw [← HB.out.cell (p := ⟨b, _, none⟩) (by rw [HG.out]; exact hbB)] at k1
      rw [← HB.out.cell (p := ⟨b, _, none⟩) (by rw [HG.out]; exact hbB)] at k2
      have hmid : ∀ t (_ : t < l.length), (t < (lo + hi) / 2 → l[t].s.2 < l[(lo + hi) / 2].s.2) ∧ ((lo + hi) / 2 < t → l[(lo + hi) / 2].s.2 < l[t].s.2) := fun t ht => ⟨fun h => List.pairwise_iff_getElem.1 HR.out t _ ht hh h, fun h => List.pairwise_iff_getElem.1 HR.out _ t hh ht h⟩
      have HMID := Lib.hid hmid; clear hmid
      have hcc := HC.out l[(lo + hi) / 2]
      have hneg := cmp_neg l[(lo + hi) / 2].s.2 k
      by_cases hx : l[(lo + hi) / 2].s.2 < k
      · have hlo : ∀ t (_ : t < l.length), t < (lo + hi) / 2 + 1 → l[t].s.2 < k := fun t ht h => by
          rcases Nat.lt_or_ge t ((lo + hi) / 2) with h1 | h1
          · have := (HMID.out t ht).1 h1; grind
          · have e : t = (lo + hi) / 2 := by omega
            subst e; exact hx
        have HLO := Lib.hid hlo; clear hlo
        have hneg2 := hneg.2 hx
        clear hneg hx HMID
        generalize cmpKey l[(lo + hi) / 2].s.2 k = r at hcc hneg2
        generalize l[(lo + hi) / 2] = z at k0 k1 k2 hcc
        have HCC := Lib.hid hcc; clear hcc
        go_wp2_with fail
        refine (HCC.out _).mono ?_
        rintro e w2 ⟨rfl, hbn⟩
        have HB2 := Lib.hid (show Below g w w2 from HB.out.trans (hbn.mono (by rw [HG.out]; exact HB.out.size))); clear hbn
        clear k0 k1 k2
        go_wp2_with fail
        go_roundg (hi - ((lo + hi) / 2 + 1))
        case measure => omega
        case rel => exact ⟨(lo + hi) / 2 + 1, hi, by rw [show ((lo : Int) + (hi : Int)) / 2 + 1 = (((lo + hi) / 2 + 1 : Nat) : Int) by omega], rfl, by omega, hin, Nat.le_refl _, HB2, Lib.hid ⟨HLO.out, HM.out.2⟩⟩
      · have hhi : ∀ t (_ : t < l.length), (lo + hi) / 2 ≤ t → ¬ l[t].s.2 < k := fun t ht h => by
          rcases Nat.lt_or_ge ((lo + hi) / 2) t with h1 | h1
          · have := (HMID.out t ht).2 h1; grind
          · have e : t = (lo + hi) / 2 := by omega
            subst e; exact hx
        have HHI := Lib.hid hhi; clear hhi
        have hneg2 : ¬ cmpKey l[(lo + hi) / 2].s.2 k < 0 := fun h => hx (hneg.1 h)
        clear hneg hx HMID
        generalize cmpKey l[(lo + hi) / 2].s.2 k = r at hcc hneg2
        generalize l[(lo + hi) / 2] = z at k0 k1 k2 hcc
        have HCC := Lib.hid hcc; clear hcc
        go_wp2_with fail
        refine (HCC.out _).mono ?_
        rintro e w2 ⟨rfl, hbn⟩
        have HB2 := Lib.hid (show Below g w w2 from HB.out.trans (hbn.mono (by rw [HG.out]; exact HB.out.size))); clear hbn
        clear k0 k1 k2
        go_wp2_with fail
        go_roundg ((lo + hi) / 2 - lo)
        case measure => omega
        case rel => exact ⟨lo, (lo + hi) / 2, rfl, by rw [show ((lo : Int) + (hi : Int)) / 2 = (((lo + hi) / 2 : Nat) : Int) by omega], by omega, by omega, Nat.le_refl _, HB2, Lib.hid ⟨HM.out.1, HHI.out⟩⟩
    · obtain rfl : hi = lo := by omega
      by_cases hn : hi < l.length
      · obtain ⟨b, o, rfl, hbB, k0, k1, k2⟩ := HI.out hi hn
        rw [← HB.out.cell (p := ⟨b, _, none⟩) (by rw [HG.out]; exact hbB)] at k0
        rw [← HB.out.cell (p := ⟨b, _, none⟩) (by rw [HG.out]; exact hbB)] at k1
        rw [← HB.out.cell (p := ⟨b, _, none⟩) (by rw [HG.out]; exact hbB)] at k2
        have hcc := HC.out l[hi]
        have hiff : (cmpKey (l[hi].s.2) k = 0) ↔ ∃ h : hi < l.length, l[hi].s.2 = k := (cmp_zero _ _).trans ⟨fun h => ⟨hn, h⟩, fun ⟨_, h⟩ => h⟩
        generalize cmpKey (l[hi].s.2) k = r at hcc hiff
        generalize l[hi] = z at k0 k1 k2 hcc
        have HCC := Lib.hid hcc; clear hcc
        have HIF := Lib.hid hiff; clear hiff
        go_wp2_with fail
        refine (HCC.out _).mono ?_
        rintro e w2 ⟨rfl, hbn⟩
        have HB2 := Lib.hid (show Below g w w2 from HB.out.trans (hbn.mono (by rw [HG.out]; exact HB.out.size))); clear hbn
        clear k0 k1 k2
        go_wp2_with fail
        go_ret2
        exact ⟨hi, hin, HM.out.1, HM.out.2, _, rfl, by simpa using HIF.out, by have h := HB2.out; rwa [HG.out] at h⟩
      · go_wp2_with fail
        go_ret2
        exact ⟨hi, hin, HM.out.1, HM.out.2, _, rfl, ⟨fun h => by simp at h, fun ⟨h, _⟩ => absurd h hn⟩, by have h := HB.out; rwa [HG.out] at h⟩
set_option maxHeartbeats 4000000 in
set_option maxRecDepth 100000 in
theorem bsearch2_any (l : List Wr) (hr : l.Pairwise fun x y => x.s.1 < y.s.1) (k : K) (v : Value) (w : World) (hv : RdW w w.heap.size v l) (hl : l.length < 4611686018427387904) :
    Calls Tryz.prog 36 #[v, .string k, .func (.func 39) #[] #[]] w fun e w' => ∃ i : Nat, i ≤ l.length ∧ (∀ t (_ : t < l.length), t < i → l[t].s.1 < k) ∧ (∀ t (_ : t < l.length), i ≤ t → ¬ l[t].s.1 < k) ∧ ∃ b, e = .returned (.tuple #[.int .i64 (i : Nat), .bool b]) ∧ (b = true ↔ ∃ h : i < l.length, l[i].s.1 = k) ∧ Below w.heap.size w w' := by
  obtain ⟨A, c, rfl, hc, hi⟩ := hv.at
  have HI := Lib.hid hi; clear hi
  have HR := Lib.hid hr; clear hr
  clear hv
  obtain ⟨g, hg⟩ : ∃ g, g = w.heap.size := ⟨_, rfl⟩
  have HG := Lib.hid hg; clear hg
  have hcl := fun (x : Wr) (W : World) => besidecl2_any x k W
  have HC := Lib.hid hcl; clear hcl
  go_enter Tryz.func36, Tryz.ntmps36
  go_wp2_with fail
  go_loopg [9, 10] l.length (fun kx s9 s10 wr => ∃ lo hi : Nat, s9 = .int .i64 lo ∧ s10 = .int .i64 hi ∧ lo ≤ hi ∧ hi ≤ l.length ∧ hi - lo ≤ kx ∧ Hid (Below g w wr) ∧
    Hid ((∀ t (_ : t < l.length), t < lo → l[t].s.1 < k) ∧ (∀ t (_ : t < l.length), hi ≤ t → ¬ l[t].s.1 < k)))
  case atStart => exact ⟨0, l.length, rfl, rfl, Nat.zero_le _, Nat.le_refl _, by omega, Lib.hid (Below.refl _ _), Lib.hid ⟨fun t _ ht => absurd ht (Nat.not_lt_zero _), fun t h1 h2 => by omega⟩⟩
  case round =>
    obtain ⟨lo, hi, rfl, rfl, hlh, hin, hgk, HB, HM⟩ := hrel
    by_cases hlt : lo < hi
    · have hh : (lo + hi) / 2 < l.length := by omega
      obtain ⟨b, o, rfl, hbB, k0, k1, k2⟩ := HI.out ((lo + hi) / 2) hh
      rw [← HB.out.cell (p := ⟨b, _, none⟩) (by rw [HG.out]; exact hbB)] at k0
      rw [← HB.out.cell (p := ⟨b, _, none⟩) (by rw [HG.out]; exact hbB)] at k1
      rw [← HB.out.cell (p := ⟨b, _, none⟩) (by rw [HG.out]; exact hbB)] at k2
      have hmid : ∀ t (_ : t < l.length), (t < (lo + hi) / 2 → l[t].s.1 < l[(lo + hi) / 2].s.1) ∧ ((lo + hi) / 2 < t → l[(lo + hi) / 2].s.1 < l[t].s.1) := fun t ht => ⟨fun h => List.pairwise_iff_getElem.1 HR.out t _ ht hh h, fun h => List.pairwise_iff_getElem.1 HR.out _ t hh ht h⟩
      have HMID := Lib.hid hmid; clear hmid
      have hcc := HC.out l[(lo + hi) / 2]
      have hneg := cmp_neg l[(lo + hi) / 2].s.1 k
      by_cases hx : l[(lo + hi) / 2].s.1 < k
      · have hlo : ∀ t (_ : t < l.length), t < (lo + hi) / 2 + 1 → l[t].s.1 < k := fun t ht h => by
          rcases Nat.lt_or_ge t ((lo + hi) / 2) with h1 | h1
          · have := (HMID.out t ht).1 h1; grind
          · have e : t = (lo + hi) / 2 := by omega
            subst e; exact hx
        have HLO := Lib.hid hlo; clear hlo
        have hneg2 := hneg.2 hx
        clear hneg hx HMID
        generalize cmpKey l[(lo + hi) / 2].s.1 k = r at hcc hneg2
        generalize l[(lo + hi) / 2] = z at k0 k1 k2 hcc
        have HCC := Lib.hid hcc; clear hcc
        go_wp2_with fail
        refine (HCC.out _).mono ?_
        rintro e w2 ⟨rfl, hbn⟩
        have HB2 := Lib.hid (show Below g w w2 from HB.out.trans (hbn.mono (by rw [HG.out]; exact HB.out.size))); clear hbn
        clear k0 k1 k2
        go_wp2_with fail
        go_roundg (hi - ((lo + hi) / 2 + 1))
        case measure => omega
        case rel => exact ⟨(lo + hi) / 2 + 1, hi, by rw [show ((lo : Int) + (hi : Int)) / 2 + 1 = (((lo + hi) / 2 + 1 : Nat) : Int) by omega], rfl, by omega, hin, Nat.le_refl _, HB2, Lib.hid ⟨HLO.out, HM.out.2⟩⟩
      · have hhi : ∀ t (_ : t < l.length), (lo + hi) / 2 ≤ t → ¬ l[t].s.1 < k := fun t ht h => by
          rcases Nat.lt_or_ge ((lo + hi) / 2) t with h1 | h1
          · have := (HMID.out t ht).2 h1; grind
          · have e : t = (lo + hi) / 2 := by omega
            subst e; exact hx
        have HHI := Lib.hid hhi; clear hhi
        have hneg2 : ¬ cmpKey l[(lo + hi) / 2].s.1 k < 0 := fun h => hx (hneg.1 h)
        clear hneg hx HMID
        generalize cmpKey l[(lo + hi) / 2].s.1 k = r at hcc hneg2
        generalize l[(lo + hi) / 2] = z at k0 k1 k2 hcc
        have HCC := Lib.hid hcc; clear hcc
        go_wp2_with fail
        refine (HCC.out _).mono ?_
        rintro e w2 ⟨rfl, hbn⟩
        have HB2 := Lib.hid (show Below g w w2 from HB.out.trans (hbn.mono (by rw [HG.out]; exact HB.out.size))); clear hbn
        clear k0 k1 k2
        go_wp2_with fail
        go_roundg ((lo + hi) / 2 - lo)
        case measure => omega
        case rel => exact ⟨lo, (lo + hi) / 2, rfl, by rw [show ((lo : Int) + (hi : Int)) / 2 = (((lo + hi) / 2 : Nat) : Int) by omega], by omega, by omega, Nat.le_refl _, HB2, Lib.hid ⟨HM.out.1, HHI.out⟩⟩
    · obtain rfl : hi = lo := by omega
      by_cases hn : hi < l.length
      · obtain ⟨b, o, rfl, hbB, k0, k1, k2⟩ := HI.out hi hn
        rw [← HB.out.cell (p := ⟨b, _, none⟩) (by rw [HG.out]; exact hbB)] at k0
        rw [← HB.out.cell (p := ⟨b, _, none⟩) (by rw [HG.out]; exact hbB)] at k1
        rw [← HB.out.cell (p := ⟨b, _, none⟩) (by rw [HG.out]; exact hbB)] at k2
        have hcc := HC.out l[hi]
        have hiff : (cmpKey (l[hi].s.1) k = 0) ↔ ∃ h : hi < l.length, l[hi].s.1 = k := (cmp_zero _ _).trans ⟨fun h => ⟨hn, h⟩, fun ⟨_, h⟩ => h⟩
        generalize cmpKey (l[hi].s.1) k = r at hcc hiff
        generalize l[hi] = z at k0 k1 k2 hcc
        have HCC := Lib.hid hcc; clear hcc
        have HIF := Lib.hid hiff; clear hiff
        go_wp2_with fail
        refine (HCC.out _).mono ?_
        rintro e w2 ⟨rfl, hbn⟩
        have HB2 := Lib.hid (show Below g w w2 from HB.out.trans (hbn.mono (by rw [HG.out]; exact HB.out.size))); clear hbn
        clear k0 k1 k2
        go_wp2_with fail
        go_ret2
        exact ⟨hi, hin, HM.out.1, HM.out.2, _, rfl, by simpa using HIF.out, by have h := HB2.out; rwa [HG.out] at h⟩
      · go_wp2_with fail
        go_ret2
        exact ⟨hi, hin, HM.out.1, HM.out.2, _, rfl, ⟨fun h => by simp at h, fun ⟨h, _⟩ => absurd h hn⟩, by have h := HB.out; rwa [HG.out] at h⟩
end Go.Proofs.YtcmpbhcldaogiaaGreat
namespace Go.Proofs.YtcmpbhcldaogiaaGreat

theorem ver_in : ∀ (R : List (K × K)) (L : List Wr) (v : Int) (k : K), mem R k → ver (L ++ R.map fun s => ⟨s, v⟩) k = v
  | [], L, v, k, h => absurd h (mem_nil k)
  | s :: R, L, v, k, h => by
    rw [List.map_cons, show L ++ (⟨s, v⟩ : Wr) :: R.map (fun s => ⟨s, v⟩) = (L ++ [⟨s, v⟩]) ++ R.map (fun s => ⟨s, v⟩) by simp]
    by_cases hr : mem R k
    · exact ver_in R _ v k hr
    · rw [ver_pass _ _ _ (fun y hy hk => by
        obtain ⟨u, hu, rfl⟩ := List.mem_map.1 hy
        exact hr ⟨u, hu, hk⟩), ver_snoc]
      rcases (mem_cons s R k).1 h with h1 | h1
      · rw [if_pos h1]
      · exact absurd h1 hr
theorem ver_out (R : List (K × K)) (L : List Wr) (v : Int) (k : K) (h : ¬ mem R k) : ver (L ++ R.map fun s => ⟨s, v⟩) k = ver L k :=
  ver_pass _ _ _ fun y hy hk => by
    obtain ⟨u, hu, rfl⟩ := List.mem_map.1 hy
    exact h ⟨u, hu, hk⟩
theorem normal_pair {R : List (K × K)} (h : Normal R) : R.Pairwise fun s t => s.2 < t.1 := by
  induction R with
  | nil => exact .nil
  | cons s r ih => exact .cons (fun t ht => h.2.1 t ht) (ih h.2.2)
theorem fits_nil {R : List (K × K)} {P : K → Prop} (h : Fits R P) : R = [] ↔ ¬ ∃ k, P k := by
  constructor
  · rintro rfl ⟨k, hk⟩
    exact mem_nil k ((h.2 k).2 hk)
  · intro hn
    cases R with
    | nil => rfl
    | cons s r => exact absurd ⟨s.1, (h.2 _).1 ⟨s, by simp, Std.IsPreorder.le_refl _, h.1.1⟩⟩ hn
open Classical in
/-- the keys of spans, as if they were written at 1 -/
noncomputable def asOne (P : K → Prop) (k : K) : Int := if P k then 1 else 0
theorem fits_pieces {R : List (K × K)} {P : K → Prop} (h : Fits R P) : Pieces (asOne P) 0 (R.map fun s => ⟨s, 1⟩) := by
  refine ⟨fun x hx => ?_, fun k hk => ?_, fun x hx k hk => ?_, ?_⟩
  · obtain ⟨s, hs, rfl⟩ := List.mem_map.1 hx
    exact ⟨h.1.ne s hs, by simp⟩
  · unfold asOne at hk
    split at hk
    · rename_i hp
      obtain ⟨s, hs, h1⟩ := (h.2 k).2 hp
      exact ⟨_, List.mem_map.2 ⟨s, hs, rfl⟩, h1⟩
    · omega
  · obtain ⟨s, hs, rfl⟩ := List.mem_map.1 hx
    unfold asOne
    rw [if_pos ((h.2 k).1 ⟨s, hs, hk⟩)]
  · rw [List.pairwise_map]
    refine (normal_pair h.1).imp ?_
    intro s t hst k h1 h2
    unfold has at h1 h2
    grind
theorem fits_len {R l : List (K × K)} (h : Fits R (fun k => mem l k)) : R.length ≤ l.length := by
  have hp := fits_pieces h
  have hnd : (R.map (·.1)).Nodup := by
    rw [List.nodup_iff_pairwise_ne, List.pairwise_map]
    refine (normal_pair h.1).imp_of_mem ?_
    intro s t hs ht hst e
    have := h.1.ne s hs
    grind
  have hsub : ∀ k ∈ R.map (·.1), k ∈ l.map (·.1) := fun k hk => by
    obtain ⟨s, hs, rfl⟩ := List.mem_map.1 hk
    have hst : isStart (asOne (fun k => mem l k)) 0 s.1 := by
      refine (hp.start s.1).2 ⟨⟨s, 1⟩, List.mem_map.2 ⟨s, hs, rfl⟩, rfl, fun y hy hye => ?_⟩
      obtain ⟨t, ht, rfl⟩ := List.mem_map.1 hy
      have e1 : t.2 = s.1 := hye.1
      have t1 := h.1.ne t ht
      have s1 := h.1.ne s hs
      by_cases e : s = t
      · subst e; grind
      · obtain ⟨i, hi, rfl⟩ := List.mem_iff_getElem.1 hs
        obtain ⟨j, hj, rfl⟩ := List.mem_iff_getElem.1 ht
        have hq := List.pairwise_iff_getElem.1 (normal_pair h.1)
        rcases Nat.lt_trichotomy i j with hij | hij | hij
        · have := hq i j hi hj hij; grind
        · subst hij; exact e rfl
        · have := hq j i hj hi hij; grind
    obtain ⟨h1, h2⟩ := hst
    have hm : mem l s.1 := (h.2 _).1 ⟨s, hs, Std.IsPreorder.le_refl _, h.1.ne s hs⟩
    obtain ⟨u, hu, huk⟩ := hm
    by_cases hlt : u.1 < s.1
    · exfalso
      obtain ⟨x, hx1, hx2, hx3⟩ := h2 u.1 hlt
      refine hx3 ?_
      unfold asOne
      rw [if_pos (show mem l x from ⟨u, hu, hx1, by unfold has at huk; grind⟩), if_pos (show mem l s.1 from ⟨u, hu, huk⟩)]
    · refine List.mem_map.2 ⟨u, hu, ?_⟩
      unfold has at huk
      grind
  have := nodup_len _ _ hnd hsub
  simpa using this
theorem wrote_f {m : Mk} {L R : List (_)} {t : Txn} {v : Int} (hL : ver L = m.f) (h : Fits R (keysOf t)) : (wrote m v t).f = ver (L ++ R.map fun s => ⟨s, v⟩) ∧ (wrote m v t).most = if R = [] then m.most else v := by
  unfold wrote
  constructor
  · funext k
    simp only
    by_cases hk : keysOf t k
    · rw [if_pos hk, ver_in R L v k ((h.2 k).2 hk)]
    · rw [if_neg hk, ver_out R L v k (fun hm => hk ((h.2 k).1 hm)), hL]
  · simp only
    by_cases he : ∃ k, keysOf t k
    · rw [if_pos he, if_neg (fun e => (fits_nil h).1 e he)]
    · rw [if_neg he, if_pos ((fits_nil h).2 he)]
end Go.Proofs.YtcmpbhcldaogiaaGreat

/- Two programs' marks side by side; changes alone as transactions. -/
import Derived.Test.YtcmpbhcldaogiaaSpl
namespace Go.Proofs.Ytcmpbhcldaogiaa
open Go.RowKit

structure Duo (w : World) (ba bb q q2 : Nat) (G G2 : Nat → Prop) (n n2 : Nat) (m m2 : Mk) : Prop where
  a : MkAt w ba q G n m
  b : MkAt w bb q2 G2 n2 m2
  off : ∀ i, G i → ¬ G2 i
section
variable {w w' : World} {ba bb q q2 n n2 n1 : Nat} {G G2 G' D : Nat → Prop} {m m2 m1 : Mk}
theorem Duo.mv (h : Duo w ba bb q q2 G G2 n n2 m m2) (hm : Mv D w w') (h1 : ∀ i, G i → ¬ D i) (h2 : ∀ i, G2 i → ¬ D i) : Duo w' ba bb q q2 G G2 n n2 m m2 := ⟨h.a.mv hm h1, h.b.mv hm h2, h.off⟩
theorem Duo.new (h : Duo w ba bb q q2 G G2 n n2 m m2) (hb : Below w.heap.size w w') : Duo w' ba bb q q2 G G2 n n2 m m2 := h.mv (Mv.of_new hb (fun _ => False)) (fun _ _ h => h) (fun _ _ h => h)
theorem Duo.progA (h : Duo w ba bb q q2 G G2 n n2 m m2) (hk : MkAt w' ba q G' n1 m1) (hn : ∀ i, G' i → G i ∨ w.heap.size ≤ i) (hm : Mv G w w') : Duo w' ba bb q q2 G' G2 n1 n2 m1 m2 :=
  ⟨hk, h.b.mv hm (fun i hi hg => h.off i hg hi), fun i hi hg => by
    rcases hn i hi with k | k
    · exact h.off i k hg
    · have := (h.b.low.2 i hg).2; omega⟩
theorem Duo.progB (h : Duo w ba bb q q2 G G2 n n2 m m2) (hk : MkAt w' bb q2 G' n1 m1) (hn : ∀ i, G' i → G2 i ∨ w.heap.size ≤ i) (hm : Mv G2 w w') : Duo w' ba bb q q2 G G' n n1 m m1 :=
  ⟨h.a.mv hm h.off, hk, fun i hi hg => by
    rcases hn i hg with k | k
    · exact h.off i hi k
    · have := (h.a.low.2 i hi).2; omega⟩
end
/-- changes alone, as a transaction -/
structure BTx where
  c : List Chg
  A : Option Addr
  k : Nat
def BTx.v (x : BTx) : Value := .slice x.A x.c.length x.k
def BTx.tx (x : BTx) : TxV := ⟨⟨0, [], x.c⟩, .slice none 0 0, x.v⟩
def encBT (x : BTx) : List Value := [.int .i64 0, .slice none 0 0, x.v]
theorem encBT_len (x : BTx) : (encBT x).length = 3 := rfl
theorem encBT_one (x : BTx) : ∀ u ∈ encBT x, u.oneCell' = true := by
  intro u hu
  simp only [encBT, List.mem_cons, List.not_mem_nil, or_false] at hu
  rcases hu with rfl | rfl | rfl <;> rfl
set_option maxRecDepth 100000 in
theorem info_txn : (Try.prog.info? 32).map (fun i => (i.zero, i.size, i.bytes)) = some (some (.agg #[.int .i64 0, .slice none 0 0, .slice none 0 0]), 3, 56) := by kernel_rfl
abbrev OwnBT (w : World) (base : Nat) (v : Value) (l : List BTx) : Prop := Own encBT 3 32 w base v l
structure BTxOk (w : World) (x : BTx) : Prop where
  rd : RdC w w.heap.size x.v x.c
  small : ∀ c ∈ x.c, smallC c
  len : x.c.length < 4611686018427387904
theorem RdG.bt {w : World} {B : Nat} {G : Nat → Prop} {v : Value} {l : List BTx} (h : RdG encBT 3 w B G v l) : RdG encTx 3 w B G v (l.map BTx.tx) := by
  obtain ⟨A, c, rfl, hc, hi⟩ := h
  refine ⟨A, c, by simp, by simpa using hc, fun i hs => ?_⟩
  obtain ⟨b, o, hA, hB, hg, h1⟩ := hi i (by simpa using hs)
  refine ⟨b, o, hA, hB, hg, fun j u hu => h1 j u ?_⟩
  rw [List.getElem_map] at hu
  exact hu
theorem RdTx.bt {w w' : World} {base : Nat} {G : Nat → Prop} {v : Value} {l : List BTx} (h : OwnBT w' base v l) (hb : Below w.heap.size w w') (hp : ∀ x ∈ l, BTxOk w x) (hG : ∀ b, base ≤ b → ¬ G b) (hG2 : ∀ b, b < w.heap.size → ¬ G b) : RdTx w' w'.heap.size G v (l.map BTx.tx) := by
  refine ⟨(RdG.own encBT_len h (fun b h1 _ _ => hG b h1)).bt, fun x hx => ?_⟩
  obtain ⟨y, hy, rfl⟩ := List.mem_map.1 hx
  exact ⟨RdG.none_ _ _ _ _ _, (RdG.of ((hp y hy).rd.below hb (Nat.le_refl _)) hG2).mono hb.size (fun _ _ h => h)⟩
theorem BTxOk.fit {w : World} {x : BTx} (h : BTxOk w x) : fitT x.tx.t := ⟨by simp [BTx.tx], by simp [BTx.tx], h.len, h.small⟩
section
variable {ops : Array Oper} {rest : List Oper} {o : Oper} {a : Act} {Q : Exit → Act → World → Prop} {w : World}
set_option maxRecDepth 100000 in
theorem wpList_addBT (hgd : Region.wanted o (yielded ops a.tmps) = true) (s x : Operand)
    (ho : o.op = .call { callee := .builtin .append, args := #[s, x], argTypes := #[40, 40] })
    (base : Nat) (v : Value) (l : List BTx) (hs : a.eval s = v) (hown : OwnBT w base v l) (B : Nat) (v2 : Value) (p : List BTx) (hx : a.eval x = v2) (hp : Rd encBT 3 w B v2 p)
    (hlen : l.length + p.length ≤ 1000000000000) (hbase : base ≤ w.heap.size)
    (h : ∀ A' c' w', Hid (OwnBT w' base (.slice A' (l ++ p).length c') (l ++ p)) → Hid (w.grownBy w' v.ownBlock) → wpList Try.prog ops Q rest (a.put o.dst (.slice A' (l ++ p).length c')) w') : wpList Try.prog ops Q (o :: rest) a w := by
  obtain ⟨i0, hi, hz0, hz1, hz2⟩ := info_parts info_txn
  refine BigFrame.wpList_want hgd fun K hK => ?_
  refine wp_addAny (enc := encBT) (k := 3) 40 32 56 i0 _ Try.underlying40 hi hz0 hz1 hz2 rfl (by decide) encBT_len encBT_one s x ho base v l hs hown B v2 p hx hp (by unfold maxLen; omega) (by omega) hbase fun A' c' w' h1 h2 => ?_
  exact hK _ _ (h A' c' w' (Lib.hid h1) (Lib.hid h2))
/-- an append of spans that says whether the block is a new one -/
theorem wpList_addTn (hgd : Region.wanted o (yielded ops a.tmps) = true) (s x : Operand)
    (ho : o.op = .call { callee := .builtin .append, args := #[s, x], argTypes := #[29, 29] })
    (base : Nat) (v : Value) (l : List (K × K)) (hs : a.eval s = v) (hown : OwnS w base v l) (B : Nat) (v2 : Value) (p : List (K × K)) (hx : a.eval x = v2) (hp : Rd cellsS 2 w B v2 p)
    (hlen : l.length + p.length ≤ 1000000000000) (hbase : base ≤ w.heap.size)
    (h : ∀ A' c' w', Hid (OwnS w' base (.slice A' (l ++ p).length c') (l ++ p)) → Hid (w.grownBy w' v.ownBlock) → Hid (NewRow w v.ownBlock (Value.ownBlock (.slice A' (l ++ p).length c'))) → wpList Try.prog ops Q rest (a.put o.dst (.slice A' (l ++ p).length c')) w') : wpList Try.prog ops Q (o :: rest) a w := by
  obtain ⟨i0, hi, hz0, hz1, hz2⟩ := info_parts info_spans
  refine BigFrame.wpList_want hgd fun K hK => ?_
  refine wp_addAnyN (enc := cellsS) (k := 2) 29 24 32 i0 _ Try.underlying29 hi hz0 hz1 hz2 rfl (by decide) cellsS_len cellsS_one s x ho base v l hs hown B v2 p hx hp (by unfold maxLen; omega) (by omega) hbase fun A' c' w' h1 h2 h3 => ?_
  exact hK _ _ (h A' c' w' (Lib.hid h1) (Lib.hid h2) (Lib.hid h3))
end
set_option maxRecDepth 100000 in
theorem RdBT.one (w : World) (x : BTx) : Rd encBT 3 (w.alloc (.cells #[.int .i64 0, .slice none 0 0, .slice x.A x.c.length x.k] 32)) (w.heap.size + 1) (.slice (some ⟨w.heap.size, 0, none⟩) 1 1) [x] := by
  have hW : Whole (w.alloc (.cells #[.int .i64 0, .slice none 0 0, .slice x.A x.c.length x.k] 32)) w.heap.size 32 (flatG encBT [x]) := Whole.fresh w _ [_, _, _]
  exact ((Whole.rdg (G := fun _ => False) encBT_len hW (Nat.le_refl 1) hW.size (fun h => h)).rd).mono (by simp)
/-- two transactions in blocks gl and gh, each with a slice of its own -/
structure SplSt (w : World) (z gl gh : Nat) (read : Int) (a2 : Value) (L H : List (K × K)) (vl vh : Value) : Prop where
  hl : Whole w gl 32 [.int .i64 read, vl, a2]
  ol : OwnS w z vl L
  hh : Whole w gh 32 [.int .i64 read, vh, a2]
  oh : OwnS w z vh H
  ap : ∀ g, vl.ownBlock = some g → vh.ownBlock ≠ some g
  ne : gl ≠ gh
  lo : z ≤ gl ∧ z ≤ gh
section
variable {w w' wf w4 : World} {z gl gh : Nat} {read : Int} {a2 vl vh v' : Value} {L H X : List (K × K)} {D : Nat → Prop}
theorem SplSt.swap (h : SplSt w z gl gh read a2 L H vl vh) : SplSt w z gh gl read a2 H L vh vl := ⟨h.hh, h.oh, h.hl, h.ol, fun g h1 h2 => h.ap g h2 h1, fun e => h.ne e.symm, h.lo.2, h.lo.1⟩
theorem SplSt.mv (h : SplSt w z gl gh read a2 L H vl vh) (hm : Mv D w w') (hD : ∀ i, z ≤ i → i < w.heap.size → ¬ D i) : SplSt w' z gl gh read a2 L H vl vh :=
  ⟨hm.whole h.hl (hD _ h.lo.1 h.hl.size), Own.mvG h.ol hm (fun g hg => hD g (Own.low h.ol hg).1 (Own.low h.ol hg).2), hm.whole h.hh (hD _ h.lo.2 h.hh.size), Own.mvG h.oh hm (fun g hg => hD g (Own.low h.oh hg).1 (Own.low h.oh hg).2), h.ap, h.ne, h.lo⟩
theorem SplSt.new (h : SplSt w z gl gh read a2 L H vl vh) (hb : Below w.heap.size w w') : SplSt w' z gl gh read a2 L H vl vh := h.mv (D := fun _ => False) (Mv.of_new hb _) (fun _ _ _ h => h)
/-- more behind the first one's -/
theorem SplSt.low (h : SplSt w z gl gh read a2 L H vl vh) (hF : Below w.heap.size w wf) (ho : OwnS w4 z v' X) (hg : wf.grownBy w4 vl.ownBlock) (hn : NewRow wf vl.ownBlock v'.ownBlock) : SplSt (w4.setCell ⟨gl, 1, none⟩ v') z gl gh read a2 X H v' vh := by
  have h1 := h.new hF
  have hlw : ∀ g, vl.ownBlock = some g → g ≠ gl ∧ g ≠ gh := fun g hg' => ⟨fun e => Own.apart h1.ol h1.hl (by decide) (by rw [hg', e]), fun e => Own.apart h1.ol h1.hh (by decide) (by rw [hg', e])⟩
  have hl4 : Whole w4 gl 32 [.int .i64 read, vl, a2] := h1.hl.grown hg (fun e => (hlw gl e.symm).1 rfl)
  have hh4 : Whole w4 gh 32 [.int .i64 read, vh, a2] := h1.hh.grown hg (fun e => (hlw gh e.symm).2 rfl)
  have oh4 : OwnS w4 z vh H := Own.mvG h1.oh (Mv.of_grown hg) (fun g hg' e => h.ap g e.symm hg')
  refine ⟨hl4.put 1 _, Own.put ho hl4 (by decide) 1 _, hh4.away (fun e => h.ne e.symm) _, Own.put oh4 hl4 (by decide) 1 _, fun g h2 h3 => ?_, h.ne, h.lo⟩
  rcases hn g h2 with h5 | h5
  · exact h.ap g h5 h3
  · have := (Own.low h.oh h3).2
    have := hF.size
    omega
/-- the first one's block just ahead of the store -/
theorem SplSt.mid (h : SplSt w z gl gh read a2 L H vl vh) (hF : Below w.heap.size w wf) (hg : wf.grownBy w4 vl.ownBlock) : Whole w4 gl 32 [.int .i64 read, vl, a2] := by
  have h1 := h.new hF
  exact h1.hl.grown hg (fun e => Own.apart h1.ol h1.hl (by decide) e)
/-- a block that is none of them stays -/
theorem SplSt.keeps {g : Nat} {T : TypeId} {cs : List Value} (_h : SplSt w z gl gh read a2 L H vl vh) (hF : Below w.heap.size w wf) (hg : wf.grownBy w4 vl.ownBlock) (hW : Whole w g T cs) (hn : vl.ownBlock ≠ some g) (hne : g ≠ gl) : Whole (w4.setCell ⟨gl, 1, none⟩ v') g T cs :=
  ((hW.below hF hW.size).grown hg (fun e => hn e.symm)).away hne _
theorem SplSt.below {w7 : World} (h : SplSt w z gl gh read a2 L H vl vh) (hF : Below w.heap.size w wf) (hg : wf.grownBy w4 vl.ownBlock) (hb : Below z w7 w) : Below z w7 (w4.setCell ⟨gl, 1, none⟩ v') :=
  (((hb.trans (hF.mono (by have := h.lo.1; have := h.hl.size; omega))).grown hg (by have := h.lo.1; have := h.hl.size; have := hF.size; omega) (fun j hj => (Own.low h.ol hj).1)).setCell (p := ⟨gl, 1, none⟩) h.lo.1 v')
end
end Go.Proofs.Ytcmpbhcldaogiaa

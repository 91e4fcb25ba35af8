/- A region whose operations may come in more than one order, walked along a tree of orders that is laid down beforehand. What the program's Add and Reset leave. What the program's Reset leaves; no book. Pairs and changes held against each other: what the reference's Pairs and Same answer. (For seats with a past.) Chg, RAll, RSame and Pro have the most of it. Frames as plain data: what is laid, what is read; the one undoes the other. -/
import Derived.Test.YtbifnogocmgddaaGreatFab
import Derived.Test.YtbifnogocmgddaaGreatFal
import Derived.Test.YtbifnogocmgddaaGreatFag
import Derived.Test.YtbifnogocmgddaaGreatFac
import Derived.Test.YtbifnogocmgddaaGreatFae
import Derived.Test.YtbifnogocmgddaaGreatFaa
import Derived.Test.YtbifnogocmgddaaGreatFai
import Derived.Test.YtbifnogocmgddaaGreatFaj
import Derived.Laws.StructEq
namespace Go.Proofs.YtbifnogocmgddaaGreat
open Go.RowKit

/-- take i: number i yields the same whenever it comes up; step i: it comes up alone; fork: one of two comes up -/
inductive PT
  | done
  | take (i : Nat) (n : PT)
  | step (i : Nat) (n : PT)
  | fork (i : Nat) (n : PT) (j : Nat) (m : PT)
  | fork3 (i : Nat) (n : PT) (j : Nat) (m : PT) (k : Nat) (q : PT)
def PT.depth : PT → Nat
  | .done => 0
  | .take _ n => n.depth + 1
  | .step _ n => n.depth + 1
  | .fork _ n _ m => max n.depth m.depth + 1
  | .fork3 _ n _ m _ q => max n.depth (max m.depth q.depth) + 1
def ptOk (ops : Array Oper) : PT → Array Bool → Bool
  | .done, listed => (Region.ready .any ops listed).isEmpty
  | .take i n, listed => Region.free .any ops listed i && (Region.ready .any ops listed).contains i && ptOk ops n (listed.setIfInBounds i true)
  | .step i n, listed => Region.ready .any ops listed == [i] && ptOk ops n (listed.setIfInBounds i true)
  | .fork i n j m, listed => Region.ready .any ops listed == [i, j] && (ptOk ops n (listed.setIfInBounds i true) && ptOk ops m (listed.setIfInBounds j true))
  | .fork3 i n j m k q, listed => Region.ready .any ops listed == [i, j, k] && (ptOk ops n (listed.setIfInBounds i true) && (ptOk ops m (listed.setIfInBounds j true) && ptOk ops q (listed.setIfInBounds k true)))
section
variable {P : Program} {ops : Array Oper} {Q : Exit → Act → World → Prop} {S : World → Prop}
def PlanT (P : Program) (ops : Array Oper) (S : World → Prop) (Q : Exit → Act → World → Prop) : PT → Act → World → Prop
  | .done, a, w => Q .normal a w
  | .take i n, a, w => ∃ o v, ops[i]? = some o ∧ YieldsIf P ops S o v a ∧ PlanT P ops S Q n (a.put o.dst v) w
  | .step i n, a, w => wpOp P ops Q i (fun a' w' => S w' ∧ PlanT P ops S Q n a' w') a w
  | .fork i n j m, a, w => wpOp P ops Q i (fun a' w' => S w' ∧ PlanT P ops S Q n a' w') a w ∧ wpOp P ops Q j (fun a' w' => S w' ∧ PlanT P ops S Q m a' w') a w
  | .fork3 i n j m k q, a, w => wpOp P ops Q i (fun a' w' => S w' ∧ PlanT P ops S Q n a' w') a w ∧ wpOp P ops Q j (fun a' w' => S w' ∧ PlanT P ops S Q m a' w') a w ∧ wpOp P ops Q k (fun a' w' => S w' ∧ PlanT P ops S Q q a' w') a w

theorem PlanT.any (hs : Region.noSelect ops = true) (hQ : ∀ c a d v w, Q (.panic c) (Act.put a d v) w → Q (.panic c) a w) : ∀ (plan : PT) (fuel : Nat) (listed : Array Bool) (a : Act) (w : World),
    plan.depth ≤ fuel → ptOk ops plan listed = true → S w → PlanT P ops S Q plan a w → wpAnyH P .any ops Q S fuel listed a w
  | .done, fuel, listed, a, w, _, hp, _, h => wpAnyH_done (by simpa [ptOk] using hp) h fuel
  | .take i r, fuel + 1, listed, a, w, hf, hp, hS, h => by
    obtain ⟨o, v, ho, hy, hr⟩ := h
    simp only [ptOk, Bool.and_eq_true] at hp
    exact wpAnyH_take ho hs hp.1.1 hp.1.2 (fun c a w => hQ c a _ _ w) hy hS (PlanT.any hs hQ r fuel _ _ _ (by simpa [PT.depth] using hf) hp.2 hS hr)
  | .step i r, fuel + 1, listed, a, w, hf, hp, _, h => by
    simp only [ptOk, Bool.and_eq_true, beq_iff_eq] at hp
    refine wpAnyH_all hp.1 (by simp) fun j hj => ?_
    obtain rfl : j = i := by simpa using hj
    exact wpOp_mono (fun a' w' h' => ⟨h'.1, PlanT.any hs hQ r fuel _ _ _ (by simpa [PT.depth] using hf) hp.2 h'.1 h'.2⟩) h
  | .fork i r j m, fuel + 1, listed, a, w, hf, hp, _, h => by
    simp only [ptOk, Bool.and_eq_true, beq_iff_eq] at hp
    simp only [PT.depth] at hf
    refine wpAnyH_all hp.1 (by simp) fun k hk => ?_
    rcases (by simpa using hk : k = i ∨ k = j) with rfl | rfl
    · exact wpOp_mono (fun a' w' h' => ⟨h'.1, PlanT.any hs hQ r fuel _ _ _ (by omega) hp.2.1 h'.1 h'.2⟩) h.1
    · exact wpOp_mono (fun a' w' h' => ⟨h'.1, PlanT.any hs hQ m fuel _ _ _ (by omega) hp.2.2 h'.1 h'.2⟩) h.2
  | .fork3 i r j m l q, fuel + 1, listed, a, w, hf, hp, _, h => by
    simp only [ptOk, Bool.and_eq_true, beq_iff_eq] at hp
    simp only [PT.depth] at hf
    refine wpAnyH_all hp.1 (by simp) fun k hk => ?_
    rcases (by simpa using hk : k = i ∨ k = j ∨ k = l) with rfl | rfl | rfl
    · exact wpOp_mono (fun a' w' h' => ⟨h'.1, PlanT.any hs hQ r fuel _ _ _ (by omega) hp.2.1 h'.1 h'.2⟩) h.1
    · exact wpOp_mono (fun a' w' h' => ⟨h'.1, PlanT.any hs hQ m fuel _ _ _ (by omega) hp.2.2.1 h'.1 h'.2⟩) h.2.1
    · exact wpOp_mono (fun a' w' h' => ⟨h'.1, PlanT.any hs hQ q fuel _ _ _ (by omega) hp.2.2.2 h'.1 h'.2⟩) h.2.2
  | .take _ _, 0, _, _, _, hf, _, _, _ => by simp [PT.depth] at hf
  | .step _ _, 0, _, _, _, hf, _, _, _ => by simp [PT.depth] at hf
  | .fork _ _ _ _, 0, _, _, _, hf, _, _, _ => by simp [PT.depth] at hf
  | .fork3 _ _ _ _ _ _, 0, _, _, _, hf, _, _, _ => by simp [PT.depth] at hf

theorem wp_region_planT (S : World → Prop) (plan : PT) {id : Nat} {a : Act} {w : World} (hm : P.follows .mixedOrders = true) (hs : (Region.noSelect ops && ptOk ops plan (Array.replicate ops.size false) && decide (plan.depth ≤ ops.size)) = true)
    (hQ : ∀ c a d v w, Q (.panic c) (Act.put a d v) w → Q (.panic c) a w) (hS : S w.drew) (h : PlanT P ops S Q plan a w.drew) : (Code.region id ops true).wp P Q a w := by
  simp only [Bool.and_eq_true, decide_eq_true_eq] at hs
  exact wp_region_held hm (PlanT.any hs.1.1 hQ plan _ _ _ _ hs.2 hs.1.2 hS h)

theorem PlanT.takeI {i : Nat} {o : Oper} {v : Value} {r : PT} {a : Act} {w : World} (hi : ops.toList[i]? = some o) (hw : Region.wanted o (yielded ops a.tmps) = true)
    (hy : ∀ W, S W → (execOp a.eval o).run P W = .ok (.value v) W) (h : PlanT P ops S Q r (a.put o.dst v) w) : PlanT P ops S Q (.take i r) a w :=
  ⟨o, v, by simpa using hi, .inl ⟨hw, hy⟩, h⟩
theorem PlanT.skip {i : Nat} {o : Oper} {r : PT} {a : Act} {w : World} (hi : ops.toList[i]? = some o) (hw : Region.wanted o (yielded ops a.tmps) = false)
    (h : PlanT P ops S Q r (a.put o.dst undef) w) : PlanT P ops S Q (.take i r) a w :=
  ⟨o, undef, by simpa using hi, .inr ⟨hw, rfl⟩, h⟩
theorem wpOp_stepT {i : Nat} {o : Oper} {r : PT} {a : Act} {w : World} (hi : ops.toList[i]? = some o) (hw : Region.wanted o (yielded ops a.tmps) = true)
    (h : ∀ K : Act → World → Prop, Shut (∀ a w, S w → PlanT P ops S Q r a w → K a w) → Oper.wp P o a w K Q) : wpOp P ops Q i (fun a' w' => S w' ∧ PlanT P ops S Q r a' w') a w := by
  refine wpOp_step (o := o) (by simpa using hi) fun K' hK => ?_
  rw [if_pos hw]
  exact h K' fun a w h1 h2 => hK a w ⟨h1, h2⟩
end
end Go.Proofs.YtbifnogocmgddaaGreat
namespace Go.Proofs.YtbifnogocmgddaaGreat
open Go.RowKit

theorem Bks.add_put (b : Bks) (list : List (List UInt8)) : b.add list = if (b.put Tp.addS list).1 = 0 then (0, { (b.put Tp.addS list).2 with l := b.l ++ list }) else b.put Tp.addS list := by
  unfold Bks.add Bks.put Tp.addS
  by_cases h1 : b.dead = true
  · rw [if_pos h1, if_pos h1]; simp
  · rw [if_neg h1, if_neg h1]
    by_cases h2 : fits list
    · simp only [h2, not_true, if_false]
      by_cases h3 : (b.t.add (lay list)).1 = 0
      · simp only [h3, ne_eq, not_true, if_false]
        by_cases h4 : (b.t.add (lay list)).2.sync.1 = 0
        · simp [h4]
        · simp only [h4, not_false_eq_true, if_true, if_false]
      · simp only [h3, ne_eq, not_false_eq_true, if_true, if_false]
    · simp [h2]
theorem Bks.reset_put (b : Bks) (list : List (List UInt8)) : b.reset list = if (b.put Tp.repl list).1 = 0 then (0, { (b.put Tp.repl list).2 with l := list }) else b.put Tp.repl list := by
  unfold Bks.reset Bks.put
  by_cases h1 : b.dead = true
  · rw [if_pos h1, if_pos h1]; simp
  · rw [if_neg h1, if_neg h1]
    by_cases h2 : fits list
    · simp only [h2, not_true, if_false]
      by_cases h3 : (b.t.repl (lay list)).1 = 0
      · simp [h3]
      · simp only [h3, ne_eq, not_false_eq_true, if_true, if_false]
    · simp [h2]

section
variable {ops : Array Oper} {rest : List Oper} {o : Oper} {a : Act} {Q : Exit → Act → World → Prop} {w : World}
set_option maxRecDepth 100000 in
/-- rows appended in a region that draws; their block is the old one or a new one -/
theorem wp_addRN {K : Act → World → Prop} (s x : Operand)
    (ho : o.op = .call { callee := .builtin .append, args := #[s, x], argTypes := #[60, 60] })
    (base : Nat) (v : Value) (l : List Row) (hs : a.eval s = v) (hown : OwnR w base v l) (B : Nat) (v2 : Value) (p : List Row) (hx : a.eval x = v2) (hp : Rd encR 1 w B v2 p)
    (hlen : l.length + p.length ≤ 9000000000000) (hbase : base ≤ w.heap.size)
    (h : ∀ A' c' w', OwnR w' base (.slice A' (l ++ p).length c') (l ++ p) → w.grownBy w' v.ownBlock → NewRow w v.ownBlock (Value.ownBlock (.slice A' (l ++ p).length c')) → K (a.put o.dst (.slice A' (l ++ p).length c')) w') : o.wp Tryz.prog a w K Q := by
  obtain ⟨i0, hi, hz0, hz1, hz2⟩ := info_parts info_row
  exact wp_addAnyN (enc := encR) (k := 1) 60 51 24 i0 _ Tryz.underlying60 hi hz0 hz1 hz2 rfl (by decide) encR_len encR_one s x ho base v l hs hown B v2 p hx hp (by unfold maxLen; omega) (by omega) hbase fun A' c' w' h1 h2 h3 => h A' c' w' h1 h2 h3
end

set_option maxRecDepth 100000 in
/-- the book behind a new list of records -/
theorem BkAt.relist {w w3 w4 : World} {base q p : Nat} {G : Nat → Prop} {b : Bks} (hk : BkAt w base q p G b) (h3 : Below w.heap.size w w3) {A A4 : Option Addr} {c n c4 n4 : Nat} {rows0 rows4 : List Row} {vp : Value}
    (hq : Whole w q 84 [vp, .slice A n c, .bool b.dead]) (ho : OwnR w3 base (.slice A n c) rows0) (hm : Mv (fun i => some i = Value.ownBlock (.slice A n c)) w3 w4) (hn : n4 = rows4.length) (ho4 : OwnR w4 base (.slice A4 n4 c4) rows4)
    (hnew : ∀ g, Value.ownBlock (.slice A4 n4 c4) = some g → Value.ownBlock (.slice A n c) = some g ∨ w.heap.size ≤ g) (hh : HoldRs w4 base rows4) (hlen : ∀ r ∈ rows4, r.l.length ≤ 140737488351232)
    (hc : ∀ r ∈ rows4, ∀ g, r.v.ownBlock = some g → (w.heap.size ≤ g ∨ (G g ∧ ∀ ov, TapeAt w base p ov b.t → ov ≠ some g))) :
    ∃ G', BkAt (w4.setCell ⟨q, 1, none⟩ (.slice A4 n4 c4)) base q p G' { b with l := texts rows4 } ∧ (∀ i, G' i → G i ∨ w.heap.size ≤ i) ∧ Mv G w (w4.setCell ⟨q, 1, none⟩ (.slice A4 n4 c4)) := by
  obtain ⟨ov, A', c', n', rows, h1, h2, h3', h4, h5, h6, h7, h8, h9, h10, h11, h12, h13, h14, h15⟩ := hk
  have he : (Value.slice A' n' c') = .slice A n c ∧ vp = .pointer (some ⟨p, 0, none⟩) := by
    have e1 := h1.cell 1 _ rfl
    have e0 := h1.cell 0 _ rfl
    rw [hq.cell 1 _ rfl] at e1
    rw [hq.cell 0 _ rfl] at e0
    injection e1 with e1
    injection e0 with e0
    exact ⟨e1.symm, e0⟩
  obtain ⟨he1, rfl⟩ := he
  injection he1 with g1 g2 g3
  subst g1 g2 g3
  clear h3' h4 h5 h6 h8 h2 h13
  obtain ⟨k1, k2⟩ := h7.apart h1 (by decide) (by decide)
  have hz3 := h3.size
  have hz4 := hm.size
  have hw3 := Mv.of_new h3 (fun _ => False)
  have hq3 : Whole w3 q 84 _ := hw3.whole h1 (fun h => h)
  have hq4 : Whole w4 q 84 _ := hm.whole hq3 (fun h => OwnR.off ho hq3 (by decide) h.symm)
  have ht3 : TapeAt w3 base p ov b.t := h7.mv hw3 (fun h => h) (fun _ _ h => h)
  have ht4 : TapeAt w4 base p ov b.t := by
    refine ht3.mv hm ?_ ?_
    · obtain ⟨A2, c2, hb2, ho2, hv2, _⟩ := ht3
      exact fun h => OwnR.off ho hb2 (by decide) h.symm
    · intro g hg hd
      obtain ⟨A2, c2, hb2, ho2, hv2, _⟩ := ht3
      exact ho2.ne_rows ho g (hv2.trans hg) hd.symm
  obtain ⟨w5, hw5⟩ : ∃ w5, w5 = w4.setCell ⟨q, 1, none⟩ (.slice A4 n4 c4) := ⟨_, rfl⟩
  rw [← hw5]
  have hm5 : Mv (fun i => i = q) w4 w5 := by rw [hw5]; exact (Mv.refl (fun i => i = q) w4).setCell (p := ⟨q, 1, none⟩) (fun _ => rfl) _
  have hz5 : w5.heap.size = w4.heap.size := by rw [hw5]; simp
  refine ⟨fun i => G i ∨ (w.heap.size ≤ i ∧ i < w5.heap.size), ⟨ov, A4, c4, n4, rows4, by rw [hw5]; exact hq4.put 1 _, hn, OwnR.mv ho4 hm5 (fun g hg e => OwnR.off ho4 hq4 (by decide) (e ▸ hg)), hh.mv hm5 (fun r hr g hg e => (hh r hr).apart hq4 (by decide) (e ▸ hg)), rfl, hlen, ht4.mv hm5 (fun e => k1 e.symm) (fun g hg e => k2 (e ▸ hg)), ?_, .inl h9, .inl h10, fun g hg => .inl (h11 g hg), ?_, ?_, by omega, ?_⟩, ?_, ?_⟩
  · intro r hr g hg e
    rcases hc r hr g hg with h | ⟨_, h⟩
    · have := (h7.row e).2; omega
    · exact h ov h7 e
  · intro g hg
    rcases hnew g hg with h | h
    · exact .inl (h12 g h)
    · exact .inr ⟨h, by have := (ho4.low hg).2; omega⟩
  · intro r hr g hg
    rcases hc r hr g hg with h | ⟨h, _⟩
    · exact .inr ⟨h, by have := ((hh r hr).low hg).2; omega⟩
    · exact .inl h
  · rintro i (h | h)
    · have := h15 i h; exact ⟨this.1, by omega⟩
    · exact ⟨by omega, h.2⟩
  · rintro i (h | h)
    · exact .inl h
    · exact .inr h.1
  · refine ((Mv.of_new h3 G).trans hm ?_).trans hm5 ?_
    · intro i hi hd
      exact h12 i hd.symm
    · rintro i hi rfl
      exact h9

end Go.Proofs.YtbifnogocmgddaaGreat
namespace Go.Proofs.YtbifnogocmgddaaGreat
open Go.RowKit

set_option maxHeartbeats 8000000 in
set_option maxRecDepth 100000 in
theorem breset_any (base q p : Nat) (G : Nat → Prop) (b : Bks) (rows : List Row) (v : Value) (w : World) (h : BkAt w base q p G b) (hv : RdRs w w.heap.size G v rows) (hl : rows.length ≤ 1000) (hr : ∀ r ∈ rows, r.l.length ≤ 140737488351232) :
    Calls Tryz.prog 32 #[.pointer (some ⟨q, 0, none⟩), v] w fun e w' => e = .returned (.int .i64 (b.reset (texts rows)).1) ∧ ∃ G', BkAt w' base q p G' (b.reset (texts rows)).2 ∧ (∀ i, G' i → G i ∨ w.heap.size ≤ i) ∧ Mv G w w' := by
  have hmf : ∀ (fn : Fn) (first cap : Array Value) (w : World), (Instr.makeFunc fn first cap).run Tryz.prog w = .ok (.func fn first cap) w := fun _ _ _ _ => rfl
  obtain ⟨R, hR⟩ : ∃ R, R = b.reset (texts rows) := ⟨_, rfl⟩
  rw [← hR]
  rw [Bks.reset_put] at hR
  obtain ⟨w1, hw1⟩ : ∃ w1, w1 = w.alloc (.cells #[.pointer (some ⟨q, 0, none⟩)] 55) := ⟨_, rfl⟩
  have hbx : Whole w1 w.heap.size 55 [.pointer (some ⟨q, 0, none⟩)] := by rw [hw1]; exact Whole.fresh w 55 [_]
  have hB1 : Below w.heap.size w w1 := by rw [hw1]; exact (Below.refl _ w).alloc (Nat.le_refl _) _
  have hm1 : Mv (fun _ => False) w w1 := Mv.of_new hB1 _
  have hs1 : w1.heap.size = w.heap.size + 1 := by rw [hw1]; simp
  have hv1 := hv.mv hm1 (Nat.le_refl _) (fun _ _ h => h.elim)
  have hgG : ¬ G w.heap.size := fun h2 => by have := (h.low.2 _ h2).2; omega
  have hlay := layR_any base q p w.heap.size G b rows v w1 (h.mv hm1 (fun _ _ h => h)) (hv1.mono (by omega) (fun _ _ h => h)) hl hr hbx hgG
  obtain ⟨⟨r, b2⟩, hP⟩ : ∃ P, P = b.put Tp.repl (texts rows) := ⟨_, rfl⟩
  have hb2l : b2.l = b.l := by
    have : (b.put Tp.repl (texts rows)).2.l = b.l := by unfold Bks.put; split; rfl; split <;> rfl
    rw [← hP] at this
    exact this
  have hb2d : r = 0 → b.dead = false := by
    intro h0
    have : (b.put Tp.repl (texts rows)).1 = 0 := by rw [← hP]; exact h0
    unfold Bks.put at this
    cases hd : b.dead with
    | false => rfl
    | true => rw [if_pos hd] at this; cases this
  rw [← hP] at hR hlay
  simp only at hR hlay
  have HR := Lib.hid hR
  have HLAY := Lib.hid hlay
  have HV1 := Lib.hid hv1
  have HBX := Lib.hid hbx
  have HB1 := Lib.hid hB1
  have HW1 := Lib.hid hw1
  have HGG := Lib.hid hgG
  have HLOW := Lib.hid h.low
  have HQS := Lib.hid (h.low.2 q h.at.1).2
  have HRL := Lib.hid hr
  have HB2L := Lib.hid hb2l
  have HB2D := Lib.hid hb2d
  clear hR hlay hv1 hbx hB1 hw1 hgG hP hv hm1 hr  hb2l hb2d h
  go_enter Tryz.func32, Tryz.ntmps32
  go_wp2_with fail
  rw [← HW1.out]
  refine HLAY.out.mono ?_
  rintro e w2 ⟨rfl, G2, hk2, hG2, hmv2⟩
  have hx2 : Whole w2 w.heap.size 55 [.pointer (some ⟨q, 0, none⟩)] := hmv2.whole HBX.out HGG.out
  have HMV := Lib.hid ((Mv.of_new HB1.out G).trans hmv2 (fun _ _ h => h))
  have HG2 := Lib.hid (show ∀ i, G2 i → G i ∨ w.heap.size ≤ i from fun i hi => by rcases hG2 i hi with h | h; exact .inl h; exact .inr (by omega))
  have hs2 := hmv2.size
  have hv2 : RdRs w2 w.heap.size G v rows := HV1.out.mv hmv2 (by omega) (fun _ _ h => h)
  have HX2 := Lib.hid hx2
  have HV2 := Lib.hid hv2
  have HK2 := Lib.hid hk2
  clear hx2 hv2 hmv2 hG2 HLAY hk2
  by_cases hz : r = 0
  · subst hz
    have hr := HR.out
    rw [if_pos rfl] at hr
    have HR2 := Lib.hid hr
    clear hr
    go_wp2_with fail
    -- what stands in the book
    have hkd : BkAt w2.drew base q p G2 b2 := HK2.out.mv ((Mv.refl (fun _ => False) w2).drew) (fun _ _ h => h)
    have hxd : Whole w2.drew w.heap.size 55 [.pointer (some ⟨q, 0, none⟩)] := HX2.out.drew
    have hvd : RdRs w2.drew w.heap.size G v rows := HV2.out.mv ((Mv.refl (fun _ => False) w2).drew) (by omega) (fun _ _ h => h.elim)
    have hMd : Mv G w w2.drew := HMV.out.drew
    have hsd : w.heap.size + 1 ≤ w2.drew.heap.size := by show _ ≤ w2.heap.size; omega
    obtain ⟨ov, A, c, n, rows0, h1, hn0, h3, h4, h5, h6, h7, h8, h9, h10, h11, h12, h13, h14, h15⟩ := id hkd
    have hqs : q < w.heap.size := by
      rcases HG2.out q h9 with h | h
      · exact (HLOW.out.2 q h).2
      · exact absurd h (by have := HQS.out; omega)
    have HLOWB := Lib.hid h14
    have HF := Lib.hid (bfresh_any rows G v w2.drew (hvd.mono (by omega) (fun _ _ h => h)) (by omega) HRL.out)
    clear hn0 h9 h10 h11 h12 h14 h15
    refine wp_region_plan (S := fun W => Whole W w.heap.size 55 [.pointer (some ⟨q, 0, none⟩)]) [(true, 0), (true, 1), (false, 2), (true, 3), (true, 4), (false, 5)] (by kernel_rfl) (by kernel_rfl) (fun _ _ d _ _ h => by cases d <;> exact h) hxd ?_
    (refine Plan.take (v := ?_) rfl rfl ?_ ?_; rotate_left; (focus (intro W hW; have k0 := hW.cell 0 _ rfl; go_simp; (try with_reducible rfl); done)); (try simp only [Act.put, List.setIfInBounds_toArray, List.set_cons_zero, List.set_cons_succ]))
    (refine Plan.take (v := ?_) rfl rfl ?_ ?_; rotate_left; (focus (intro W hW; have k0 := hW.cell 0 _ rfl; go_simp; (try with_reducible rfl); done)); (try simp only [Act.put, List.setIfInBounds_toArray, List.set_cons_zero, List.set_cons_succ]))
    refine Plan.step rfl rfl (fun Kk hKk => ?_)
    go_simp
    go_at_call 38
    refine HF.out.mono ?_
    rintro e wf ⟨A1, c1, n1, rfl, rows1, hn1, ho1, hh1, ht1, hbf⟩
    have hmf2 := Mv.of_new hbf (fun _ => False)
    have HXF := Lib.hid (hmf2.whole hxd (fun h => h))
    have HQF := Lib.hid (hmf2.whole h1 (fun h => h))
    have HOF := Lib.hid (OwnR.mv h3 hmf2 (fun _ _ h => h))
    have HHF := Lib.hid (h4.mv hmf2 (fun _ _ _ _ h => h))
    have HN1 := Lib.hid hn1
    have HO1 := Lib.hid ho1
    have HH1 := Lib.hid hh1
    have HT1 := Lib.hid ht1
    have HBF := Lib.hid hbf
    have hbfs := hbf.size
    have HL1 := Lib.hid (show rows1.length = rows.length by have h2 := congrArg List.length ht1; simpa only [texts, List.length_map] using h2)
    refine hKk.out _ _ HXF.out ?_
    clear hKk Kk hn1 ho1 hh1 ht1 hbf hmf2
    (try simp only [Act.put, List.setIfInBounds_toArray, List.set_cons_zero, List.set_cons_succ])
    (refine Plan.take (v := ?_) rfl rfl ?_ ?_; rotate_left; (focus (intro W hW; have k0 := hW.cell 0 _ rfl; go_simp; (try with_reducible rfl); done)); (try simp only [Act.put, List.setIfInBounds_toArray, List.set_cons_zero, List.set_cons_succ]))
    (refine Plan.take (v := ?_) rfl rfl ?_ ?_; rotate_left; (focus (intro W hW; have k0 := hW.cell 0 _ rfl; go_simp; (try with_reducible rfl); done)); (try simp only [Act.put, List.setIfInBounds_toArray, List.set_cons_zero, List.set_cons_succ]))
    refine Plan.step rfl rfl (fun Kk hKk => ?_)
    have q1 := HQF.out.cell 1 _ rfl
    have q1f := HQF.out.frozen 1
    go_simp
    refine hKk.out _ _ (HXF.out.away (p := ⟨q, 1, none⟩) (fun h => by have : w.heap.size = q := h; omega) _) ?_
    clear hKk Kk q1 q1f
    (try simp only [Act.put, List.setIfInBounds_toArray, List.set_cons_zero, List.set_cons_succ])
    simp only [Plan]
    obtain ⟨G5, hk5, hG5, hm5⟩ := BkAt.relist hkd HBF.out h1 HOF.out (Mv.refl _ wf) HN1.out (HO1.out.lower HLOWB.out) (fun g hg => .inr (HO1.out.low hg).1) (HH1.out.lower HLOWB.out)
      (fun r hr => by
        have : r.l ∈ texts rows := by rw [← HT1.out]; exact List.mem_map.2 ⟨r, hr, rfl⟩
        obtain ⟨r2, hr2, he2⟩ := List.mem_map.1 this
        rw [← he2]; exact HRL.out r2 hr2)
      (fun r hr g hg => .inl ((HH1.out r hr).low hg).1)
    rw [HT1.out] at hk5
    have HK5 := Lib.hid hk5
    have HG5 := Lib.hid hG5
    have HM5 := Lib.hid (hMd.trans hm5 (fun i hi h => by rcases HG2.out i h with h | h; exact h; omega))
    clear hk5 hG5 hm5 h1 h3 h4 h5 h6 h7 h8 h13 hkd hxd hvd hMd
    go_wp2_with fail
    go_ret
    exact ⟨by rw [HR2.out]; rfl, G5, by rw [HR2.out]; exact HK5.out, fun i hi => by
      rcases HG5.out i hi with h | h
      · exact HG2.out i h
      · exact .inr (by omega), HM5.out⟩
  · have hr := HR.out
    rw [if_neg hz] at hr
    have HR2 := Lib.hid hr
    have hz2 : (r == 0) = false := by simpa using hz
    clear hr
    go_wp2_with fail
    go_ret
    exact ⟨by rw [HR2.out]; rfl, G2, by rw [HR2.out]; exact HK2.out, HG2.out, HMV.out⟩

set_option maxHeartbeats 1000000 in
set_option maxRecDepth 100000 in
theorem laynil_any (v f : Value) (w : World) : Calls Tryz.prog 59 #[.pointer none, v, f] w fun e w' => e = .returned (.int .i64 1) ∧ Below w.heap.size w w' := by
  have hmf : ∀ (fn : Fn) (first cap : Array Value) (w : World), (Instr.makeFunc fn first cap).run Tryz.prog w = .ok (.func fn first cap) w := fun _ _ _ _ => rfl
  go_enter_defers Tryz.func59, Tryz.ntmps59
  go_wp2_with fail
  obtain ⟨w3, hw3⟩ : ∃ w3, w3 = (w.alloc (.cells #[.pointer none] 55)).alloc (.cells #[.int .i64 1] 24) := ⟨_, rfl⟩
  rw [← hw3]
  have hB3 : Below w.heap.size w w3 := by rw [hw3]; exact ((Below.refl _ w).alloc (Nat.le_refl _) _).alloc (by simp) _
  have he3 : Whole w3 (w.heap.size + 1) 24 [.int .i64 1] := by
    have := Whole.fresh (w.alloc (.cells #[.pointer none] 55)) 24 [.int .i64 1]
    rw [hw3]; simpa using this
  have k0 := he3.cell 0 _ rfl
  refine ⟨.int .i64 1, by simp [results, Tryz.results59, go_sem, k0], rfl, hB3⟩

set_option maxHeartbeats 1000000 in
set_option maxRecDepth 100000 in
theorem bnone_reset (v : Value) (w : World) : Calls Tryz.prog 32 #[.pointer none, v] w fun e w' => e = .returned (.int .i64 1) ∧ Below w.heap.size w w' := by
  have hmf : ∀ (fn : Fn) (first cap : Array Value) (w : World), (Instr.makeFunc fn first cap).run Tryz.prog w = .ok (.func fn first cap) w := fun _ _ _ _ => rfl
  have HL := Lib.hid (fun (f : Value) => laynil_any v f (w.alloc (.cells #[.pointer none] 55)))
  go_enter Tryz.func32, Tryz.ntmps32
  go_wp2_with fail
  refine (HL.out _).mono ?_
  rintro e w1 ⟨rfl, hb⟩
  have HB := Lib.hid (((Below.refl _ w).alloc (Nat.le_refl _) _).trans (hb.mono (by simp)))
  clear hb HL
  go_wp2_with fail
  go_ret
  exact ⟨rfl, HB.out⟩
end Go.Proofs.YtbifnogocmgddaaGreat
namespace Go.Proofs.YtbifnogocmgddaaGreat
open Go.RowKit
attribute [local go_sem] less_eq same_eq le_eq ge_eq gt_eq

theorem pair_guard : Tryz.prog.eqGuardType Tryz.prog.depth 69 = false := by kernel_rfl
set_option maxRecDepth 100000 in
theorem eql_pair (a b c d : K) (W : World) : (binOp .eql 69 (.agg #[.string a, .string b]) (.agg #[.string c, .string d])).run Tryz.prog W = .ok (.bool (decide (a = c) && decide (b = d))) W := by
  have hS : Tryz.prog.underlying 69 = some (.struct (Tryz.prog.fieldsOf 69)) := by kernel_rfl
  have hp : Tryz.prog.stoodInHeld 69 = false := by kernel_rfl
  have u0 := Tryz.underlying9
  have ag0 := Tryz.isAgg9
  have sz0 := Tryz.sizeOf9
  rw [run_eql_struct, show (10000 : Nat) = 9999 + 1 from rfl, run_equalIn_agg W 9999 69 _ _ hS hp]
  simp only [Program.fieldsOf, Tryz.underlying69]
  go_simp
  by_cases h1 : a = c <;> by_cases h2 : b = d <;> simp [h1, h2]
set_option maxRecDepth 100000 in
theorem neq_pair (a b c d : K) (W : World) : (binOp .neq 69 (.agg #[.string a, .string b]) (.agg #[.string c, .string d])).run Tryz.prog W = .ok (.bool (!(decide (a = c) && decide (b = d)))) W := by
  have h := eql_pair a b c d W
  rw [run_eql_struct] at h
  rw [run_neq_struct]
  cases hr : (Op.equalIn 10000 69 (.agg #[.string a, .string b]) (.agg #[.string c, .string d])).run Tryz.prog W with
  | ok x w' => rw [hr] at h; simp only [Result.andThen] at h ⊢; injection h with h1 h2; subst h2; injection h1 with h1; rw [h1]
  | halt x w' => rw [hr] at h; simp [Result.andThen] at h
theorem chg_guard : Tryz.prog.eqGuardType Tryz.prog.depth 67 = false := by kernel_rfl
set_option maxRecDepth 100000 in
theorem eql_chg (k m : Int) (a b c d : K) (W : World) : (binOp .eql 67 (.agg #[.int .i64 k, .string a, .string b]) (.agg #[.int .i64 m, .string c, .string d])).run Tryz.prog W = .ok (.bool (decide (k = m) && decide (a = c) && decide (b = d))) W := by
  have hS : Tryz.prog.underlying 67 = some (.struct (Tryz.prog.fieldsOf 67)) := by kernel_rfl
  have hp : Tryz.prog.stoodInHeld 67 = false := by kernel_rfl
  have u0 := Tryz.underlying3
  have ag0 := Tryz.isAgg3
  have sz0 := Tryz.sizeOf3
  have u1 := Tryz.underlying9
  have ag1 := Tryz.isAgg9
  have sz1 := Tryz.sizeOf9
  rw [run_eql_struct, show (10000 : Nat) = 9999 + 1 from rfl, run_equalIn_agg W 9999 67 _ _ hS hp]
  simp only [Program.fieldsOf, Tryz.underlying67]
  go_simp
  by_cases h0 : k = m <;> by_cases h1 : a = c <;> by_cases h2 : b = d <;> simp [h0, h1, h2]
set_option maxRecDepth 100000 in
theorem neq_chg (k m : Int) (a b c d : K) (W : World) : (binOp .neq 67 (.agg #[.int .i64 k, .string a, .string b]) (.agg #[.int .i64 m, .string c, .string d])).run Tryz.prog W = .ok (.bool (!(decide (k = m) && decide (a = c) && decide (b = d)))) W := by
  have h := eql_chg k m a b c d W
  rw [run_eql_struct] at h
  rw [run_neq_struct]
  cases hr : (Op.equalIn 10000 67 (.agg #[.int .i64 k, .string a, .string b]) (.agg #[.int .i64 m, .string c, .string d])).run Tryz.prog W with
  | ok x w' => rw [hr] at h; simp only [Result.andThen] at h ⊢; injection h with h1 h2; subst h2; injection h1 with h1; rw [h1]
  | halt x w' => rw [hr] at h; simp [Result.andThen] at h

set_option maxHeartbeats 2000000 in
set_option maxRecDepth 100000 in
theorem pairs_any (a b : List (K × K)) (va vb : Value) (w : World) (hva : RdP w w.heap.size va a) (hvb : RdP w w.heap.size vb b) (hla : a.length < 4611686018427387904) (hlb : b.length < 4611686018427387904) :
    Calls Tryz.prog 13 #[va, vb] w fun e w' => e = .returned (.bool (decide (a = b))) ∧ Below w.heap.size w w' := by
  obtain ⟨A1, c1, rfl, hc1, hia⟩ := hva.at
  obtain ⟨A2, c2, rfl, hc2, hib⟩ := hvb.at
  obtain ⟨D, hD⟩ : ∃ D, D = decide (a = b) := ⟨_, rfl⟩
  rw [← hD]
  have HD := Lib.hid hD; clear hD
  clear hva hvb
  by_cases hlen : a.length = b.length
  · have HA := Lib.hid hia; clear hia
    have HB := Lib.hid hib; clear hib
    have HL := Lib.hid hlen
    rw [← hlen]
    rw [← hlen] at hlb hc2
    clear hlen
    obtain ⟨g, hg⟩ : ∃ g, g = w.heap.size := ⟨_, rfl⟩
    have HG := Lib.hid hg; clear hg
    go_enter Tryz.func13, Tryz.ntmps13
    go_wp2_with fail
    go_loopw [5] (fun iv wr => ∃ j : Nat, j ≤ a.length ∧ iv = .int .i64 j ∧ Below g w wr ∧ ∀ k (h1 : k < a.length) (h2 : k < b.length), k < j → a[k] = b[k]) (fun iv _ => a.length - (intOf iv).toNat)
    case atStart => exact ⟨0, Nat.zero_le _, rfl, Below.refl _ _, fun k _ _ h => by omega⟩
    case round =>
      obtain ⟨j, hj, rfl, hbw, hall⟩ := hrel
      have HBW := Lib.hid hbw; clear hbw
      have HALL := Lib.hid hall; clear hall
      by_cases hlt : j < a.length
      · have hlt2 : j < b.length := by rw [← HL.out]; exact hlt
        obtain ⟨b1, o1, rfl, hb1, x0, x1⟩ := HA.out j hlt
        obtain ⟨b2, o2, rfl, hb2, y0, y1⟩ := HB.out j hlt2
        have hbd : Below w.heap.size w wr.drew := by have h := HBW.out.drew; rwa [HG.out] at h
        have hx2 : ∀ W, Below wr.drew.heap.size wr.drew W → W.cell? ⟨b1, o1 + j * 2, none⟩ = some (.string a[j].1) ∧ W.cell? ⟨b1, o1 + j * 2 + 1, none⟩ = some (.string a[j].2) := fun W hW => ⟨((hbd.trans (hW.mono hbd.size)).cell (p := ⟨_, _, none⟩) hb1).trans x0, ((hbd.trans (hW.mono hbd.size)).cell (p := ⟨_, _, none⟩) hb1).trans x1⟩
        have hy2 : ∀ W, Below wr.drew.heap.size wr.drew W → W.cell? ⟨b2, o2 + j * 2, none⟩ = some (.string b[j].1) ∧ W.cell? ⟨b2, o2 + j * 2 + 1, none⟩ = some (.string b[j].2) := fun W hW => ⟨((hbd.trans (hW.mono hbd.size)).cell (p := ⟨_, _, none⟩) hb2).trans y0, ((hbd.trans (hW.mono hbd.size)).cell (p := ⟨_, _, none⟩) hb2).trans y1⟩
        have hne : a[j] ≠ b[j] → D = false := fun h => by rw [HD.out]; exact decide_eq_false fun e => h (by subst e; rfl)
        have heq : a[j] = b[j] → ∀ k (h1 : k < a.length) (h2 : k < b.length), k < j + 1 → a[k] = b[k] := fun h k h1 h2 hk => by
          rcases Nat.lt_or_ge k j with h' | h'
          · exact HALL.out k h1 h2 h'
          · obtain rfl : k = j := by omega
            exact h
        clear x0 x1 y0 y1
        generalize a[j] = x at hx2 hne heq
        generalize b[j] = y at hy2 hne heq
        have HX := Lib.hid hx2
        have HY := Lib.hid hy2
        have HNE := Lib.hid hne
        have HEQ := Lib.hid heq
        have hj0 : (0 : Int) ≤ (j : Int) := by omega
        have hj1 : (j : Int) < (a.length : Int) := by omega
        have HBD := Lib.hid hbd
        clear hx2 hy2 hne heq hbd hlt2
        by_cases hxy : x = y
        · have HN := Lib.hid (show ∀ W : World, (binOp .neq 69 (.agg #[.string x.1, .string x.2]) (.agg #[.string y.1, .string y.2])).run Tryz.prog W = .ok (.bool false) W from fun W => by rw [neq_pair]; subst hxy; simp)
          go_wp2_with fail
          refine wp_region_planB [(true, 0), (true, 1), (true, 2), (true, 3), (true, 4), (true, 5), (true, 6), (true, 7), (true, 8)] (by kernel_rfl) (by kernel_rfl) (fun _ _ d _ _ h => by cases d <;> exact h) ?_
          repeat (refine PlanB.take (v := ?_) rfl rfl ?_ ?_; rotate_left; (focus (intro W hW; obtain ⟨k0, k1⟩ := HX.out W hW; obtain ⟨j0, j1⟩ := HY.out W hW; have kn := HN.out W; have kg := pair_guard; go_simp; (try with_reducible rfl); done)); (try simp only [Act.put, List.setIfInBounds_toArray, List.set_cons_zero, List.set_cons_succ]))
          simp only [PlanB]
          go_wp2_with fail
          go_roundw
          case rel => exact ⟨j + 1, by omega, by go_num, HBW.out.drew, HEQ.out hxy⟩
          case measure => simp [intOf]; omega
        · have hd3 : ¬ x.1 = y.1 ∨ (x.1 = y.1 ∧ ¬ x.2 = y.2) := by
            by_cases h1 : x.1 = y.1
            · exact .inr ⟨h1, fun h2 => hxy (Prod.ext h1 h2)⟩
            · exact .inl h1
          rcases hd3 with h1 | ⟨h1, h2⟩
          all_goals
            go_wp2_with fail
            refine wp_region_planB [(true, 0), (true, 1), (true, 2), (true, 3), (true, 4), (true, 5), (true, 6), (true, 7), (true, 8)] (by kernel_rfl) (by kernel_rfl) (fun _ _ d _ _ h => by cases d <;> exact h) ?_
            repeat (refine PlanB.take (v := ?_) rfl rfl ?_ ?_; rotate_left; (focus (intro W hW; obtain ⟨k0, k1⟩ := HX.out W hW; obtain ⟨j0, j1⟩ := HY.out W hW; have kg := pair_guard; go_simp; (try with_reducible rfl); done)); (try simp only [Act.put, List.setIfInBounds_toArray, List.set_cons_zero, List.set_cons_succ]))
            simp only [PlanB]
            go_wp2_with fail
            go_ret
            exact ⟨by rw [HNE.out hxy]; rfl, HBD.out⟩
      · go_wp2_with fail
        go_ret
        refine ⟨?_, by have h := HBW.out; rwa [HG.out] at h⟩
        have : D = true := by
          rw [HD.out]
          refine decide_eq_true (List.ext_getElem HL.out fun k h1 h2 => HALL.out k h1 h2 (by omega))
        rw [this]; rfl
  · have hd : D = false := by rw [HD.out]; exact decide_eq_false fun e => hlen (by rw [e])
    have HD2 := Lib.hid hd
    have hli : ¬ ((a.length : Int) = (b.length : Int)) := by omega
    clear hd hia hib
    go_enter Tryz.func13, Tryz.ntmps13
    go_wp2_with fail
    go_ret
    exact ⟨by rw [HD2.out]; rfl, Below.refl _ _⟩
end Go.Proofs.YtbifnogocmgddaaGreat
namespace Go.Proofs.YtbifnogocmgddaaGreat
open Go.RowKit
attribute [local go_sem] less_eq same_eq le_eq ge_eq gt_eq
abbrev OwnSpn (w : World) (base : Nat) (v : Value) (l : List (K × K)) : Prop := Own cellsS 2 31 w base v l
theorem info_span : (Tryz.prog.info? 31).map (fun i => (i.zero, i.size, i.bytes)) = some (some (.agg #[.string ⟨#[]⟩, .string ⟨#[]⟩]), 2, 32) := by kernel_rfl
end Go.Proofs.YtbifnogocmgddaaGreat
namespace Go.Proofs.YtbifnogocmgddaaGreat
open Go.RowKit

/-- what is not read yet; none: something was not as it has to be -/
abbrev Rest := Option (List UInt8)
def rdN : Rest → Int × Rest
  | none => (0, none)
  | some l => if (numAns l).2.2 = 0 then (((numAns l).1 : Int), some (l.drop (numAns l).2.1)) else (0, none)
def rdT : Rest → List UInt8 × Rest
  | none => ([], none)
  | some l => if (textAns l).2.2 = 0 then ((textAns l).1, some (l.drop (textAns l).2.1)) else ([], none)

theorem rdN_enc {n : Nat} (h : n < 9223372036854775808) (s : List UInt8) : rdN (some (enc n ++ s)) = ((n : Int), some s) := by
  rw [rdN, numAns_enc h, if_pos rfl]
  simp
theorem rdN_once {S : Rest} {n : Int} {r : List UInt8} (h : rdN S = (n, some r)) : ∃ k : Nat, n = (k : Int) ∧ k < 9223372036854775808 ∧ S = some (enc k ++ r) := by
  cases S with
  | none => simp [rdN] at h
  | some l =>
    rw [rdN] at h
    split at h
    · rename_i h0
      obtain ⟨m, u, e⟩ : ∃ m u, numAns l = (m, u, 0) := ⟨_, _, Prod.ext rfl (Prod.ext rfl h0)⟩
      obtain ⟨h1, h2, _, s, h3⟩ := numAns_once e
      rw [e] at h
      simp only [Prod.mk.injEq, Option.some.injEq] at h
      refine ⟨m, h.1.symm, enc_lt (by omega), ?_⟩
      rw [← h.2, h3, h1, List.drop_left]
    · simp at h
theorem rdN_lt (S : Rest) : 0 ≤ (rdN S).1 ∧ (rdN S).1 < 9223372036854775808 := by
  rcases hh : rdN S with ⟨n, _ | r⟩
  · cases S with
    | none => simp [rdN] at hh; simp [← hh]
    | some l => rw [rdN] at hh; split at hh <;> simp at hh; simp [← hh]
  · obtain ⟨k, rfl, hk, _⟩ := rdN_once hh
    simp only
    omega
theorem textAns_enc {t : List UInt8} (h : t.length ≤ 65536) (s : List UInt8) : textAns (encT t ++ s) = (t, (encT t).length, 0) := by
  have e : encT t ++ s = enc t.length ++ (t ++ s) := by simp [encT]
  rw [textAns, e, numAns_enc (by omega)]
  simp only
  rw [if_neg (by simp), if_neg (by omega), if_neg (by simp), List.drop_left, List.take_left, encT, List.length_append]
theorem rdT_enc {t : List UInt8} (h : t.length ≤ 65536) (s : List UInt8) : rdT (some (encT t ++ s)) = (t, some s) := by
  rw [rdT, textAns_enc h, if_pos rfl]
  simp
theorem rdT_once {S : Rest} {t r : List UInt8} (h : rdT S = (t, some r)) : t.length ≤ 65536 ∧ S = some (encT t ++ r) := by
  cases S with
  | none => simp [rdT] at h
  | some l =>
    rw [rdT] at h
    split at h
    · rename_i h0
      simp only [Prod.mk.injEq, Option.some.injEq] at h
      obtain ⟨rfl, rfl⟩ := h
      unfold textAns at h0 ⊢
      by_cases h1 : (numAns l).2.2 = 0
      · obtain ⟨m, u, e⟩ : ∃ m u, numAns l = (m, u, 0) := ⟨_, _, Prod.ext rfl (Prod.ext rfl h1)⟩
        obtain ⟨k1, k2, _, s, k3⟩ := numAns_once e
        rw [e] at h0 ⊢
        simp only at h0 ⊢
        rw [if_neg (by simp)] at h0 ⊢
        by_cases h2 : m > 65536
        · rw [if_pos h2] at h0; simp at h0
        · rw [if_neg h2] at h0 ⊢
          by_cases h3 : l.length - u < m
          · rw [if_pos h3] at h0; simp at h0
          · rw [if_neg h3]
            simp only
            rw [k3, k1] at h3 ⊢
            simp only [List.length_append, Nat.add_sub_cancel_left, Nat.not_lt] at h3
            rw [List.drop_left]
            refine ⟨by simp; omega, ?_⟩
            have e1 : (s.take m).length = m := by simp; omega
            rw [← List.drop_drop, List.drop_left, encT, e1, List.append_assoc, List.take_append_drop]
      · rw [if_pos h1] at h0
        exact absurd h0 h1
    · simp at h
theorem rdT_len (S : Rest) : (rdT S).1.length ≤ 65536 := by
  rcases hh : rdT S with ⟨t, _ | r⟩
  · cases S with
    | none => simp [rdT] at hh; simp [hh]
    | some l => rw [rdT] at hh; split at hh <;> simp at hh; simp [hh]
  · exact (rdT_once hh).1
/-- behind each reading there are no more bytes than before -/
theorem rdN_shrink {S : Rest} {r : List UInt8} (h : (rdN S).2 = some r) : ∃ l, S = some l ∧ r.length ≤ l.length := by
  obtain ⟨k, _, _, e⟩ := rdN_once (n := (rdN S).1) (r := r) (by rw [← h])
  exact ⟨_, e, by simp⟩
theorem rdT_shrink {S : Rest} {r : List UInt8} (h : (rdT S).2 = some r) : ∃ l, S = some l ∧ r.length ≤ l.length := by
  obtain ⟨_, e⟩ := rdT_once (t := (rdT S).1) (r := r) (by rw [← h])
  exact ⟨_, e, by simp⟩

/-! ### so many of them -/
section
variable {α : Type} (one : Rest → α × Rest)
def repS : Nat → Rest → Rest
  | 0, S => S
  | i + 1, S => (one (repS i S)).2
def repL : Nat → Rest → List α
  | 0, _ => []
  | i + 1, S => repL i S ++ [(one (repS one i S)).1]
theorem repL_len (S : Rest) : ∀ i, (repL one i S).length = i
  | 0 => rfl
  | i + 1 => by rw [repL, List.length_append, repL_len S i]; rfl
/-- how many, at most so many -/
def rdCount (most : Nat) (S : Rest) : Int × Rest := if (rdN S).1 > (most : Int) then (0, none) else rdN S
def rdList (most : Nat) (S : Rest) : List α × Rest := (repL one (rdCount most S).1.toNat (rdCount most S).2, repS one (rdCount most S).1.toNat (rdCount most S).2)
theorem rdCount_le (most : Nat) (S : Rest) : 0 ≤ (rdCount most S).1 ∧ (rdCount most S).1 ≤ most := by
  unfold rdCount
  have := rdN_lt S
  split
  · simp
  · exact ⟨this.1, by omega⟩
theorem rdList_len (most : Nat) (S : Rest) : (rdList one most S).1.length ≤ most := by
  have := rdCount_le most S
  rw [rdList, repL_len]
  omega
variable (hone : ∀ S, (one S).2 ≠ none → S ≠ none)
include hone in
theorem repS_none (i : Nat) : repS one i none = none := by
  induction i with
  | zero => rfl
  | succ i ih =>
    rw [repS, ih]
    cases h : (one none).2 with
    | none => rfl
    | some r => exact absurd rfl (hone none (by rw [h]; simp))
include hone in
theorem repS_add (i j : Nat) {S : Rest} (h : repS one (i + j) S ≠ none) : repS one i S ≠ none := by
  induction j with
  | zero => exact h
  | succ j ih => exact ih (hone _ h)
variable {one} {f : α → List UInt8}
theorem rep_enc : ∀ (i : Nat) (l : List α) (s : List UInt8), (∀ x ∈ l, ∀ s, one (some (f x ++ s)) = (x, some s)) → i ≤ l.length → repS one i (some (l.flatMap f ++ s)) = some ((l.drop i).flatMap f ++ s) ∧ repL one i (some (l.flatMap f ++ s)) = l.take i
  | 0, l, s, _, _ => ⟨by simp [repS], by simp [repL]⟩
  | i + 1, l, s, ho, h => by
    obtain ⟨h1, h2⟩ := rep_enc i l s ho (by omega)
    have hlt : i < l.length := h
    have e := List.drop_eq_getElem_cons hlt
    have h3 := ho l[i] (List.getElem_mem hlt) ((l.drop (i + 1)).flatMap f ++ s)
    rw [← List.append_assoc] at h3
    constructor
    · rw [repS, h1, e, List.flatMap_cons, h3]
    · rw [repL, h1, h2, e, List.flatMap_cons, h3, List.take_add_one, List.getElem?_eq_getElem hlt]
      rfl
/-- how many, and each of them -/
def listB (f : α → List UInt8) (l : List α) : List UInt8 := enc l.length ++ l.flatMap f
theorem rdList_enc (most : Nat) (hm : most < 9223372036854775808) (l : List α) (s : List UInt8) (ho : ∀ x ∈ l, ∀ s, one (some (f x ++ s)) = (x, some s)) (hl : l.length ≤ most) : rdList one most (some (listB f l ++ s)) = (l, some s) := by
  have e : rdCount most (some (listB f l ++ s)) = ((l.length : Int), some (l.flatMap f ++ s)) := by
    unfold rdCount listB
    rw [List.append_assoc, rdN_enc (by omega), if_neg (by simp only; omega)]
  obtain ⟨h1, h2⟩ := rep_enc l.length l s ho (Nat.le_refl _)
  rw [rdList, e]
  simp only [Int.toNat_natCast]
  rw [h1, h2]
  simp
end

/-! ### messages -/
structure Msg where
  kind : Int
  frm : Int
  to : Int
  epoch : Int
  a : Int
  b : Int
  c : Int
  body : List UInt8
instance : DecidableEq Msg := fun x y => decidable_of_iff (x.kind = y.kind ∧ x.frm = y.frm ∧ x.to = y.to ∧ x.epoch = y.epoch ∧ x.a = y.a ∧ x.b = y.b ∧ x.c = y.c ∧ x.body = y.body)
  ⟨fun h => by cases x; cases y; simp only at h; obtain ⟨rfl, rfl, rfl, rfl, rfl, rfl, rfl, rfl⟩ := h; rfl, fun h => by subst h; simp⟩
def zeroM : Msg := ⟨0, 0, 0, 0, 0, 0, 0, []⟩
def Msg.nums (m : Msg) : List Int := [m.kind, m.frm, m.to, m.epoch, m.a, m.b, m.c]
def soundM (m : Msg) : Prop := (1 ≤ m.kind ∧ m.kind ≤ 20) ∧ (0 ≤ m.frm ∧ m.frm ≤ 255) ∧ (0 ≤ m.to ∧ m.to ≤ 255) ∧ 0 ≤ m.epoch ∧ 0 ≤ m.a ∧ 0 ≤ m.b ∧ 0 ≤ m.c ∧ m.body.length ≤ 65536
instance (m : Msg) : Decidable (soundM m) := by unfold soundM; exact inferInstance
def msgIn (m : Msg) : List UInt8 := encs m.nums ++ encT m.body
def encodeAns (m : Msg) : List UInt8 × Int := if soundM m then (sealed (msgIn m), 0) else ([], 2)
def rdMsg (S : Rest) : Msg × Rest :=
  let k := rdN S; let f := rdN k.2; let t := rdN f.2; let e := rdN t.2; let a := rdN e.2; let b := rdN a.2; let c := rdN b.2; let x := rdT c.2
  (⟨k.1, f.1, t.1, e.1, a.1, b.1, c.1, x.1⟩, x.2)
def decodeAns (l : List UInt8) : Msg × Int :=
  if (openAns l).2 = 0 ∧ (rdMsg (some (openAns l).1)).2 = some [] ∧ soundM (rdMsg (some (openAns l).1)).1 then ((rdMsg (some (openAns l).1)).1, 0) else (zeroM, 2)
theorem msgIn_eq (m : Msg) (s : List UInt8) : msgIn m ++ s = enc m.kind.toNat ++ (enc m.frm.toNat ++ (enc m.to.toNat ++ (enc m.epoch.toNat ++ (enc m.a.toNat ++ (enc m.b.toNat ++ (enc m.c.toNat ++ (encT m.body ++ s))))))) := by
  simp [msgIn, encs, Msg.nums]
def fitsM (m : Msg) : Prop := m.kind < 9223372036854775808 ∧ m.frm < 9223372036854775808 ∧ m.to < 9223372036854775808 ∧ m.epoch < 9223372036854775808 ∧ m.a < 9223372036854775808 ∧ m.b < 9223372036854775808 ∧ m.c < 9223372036854775808
theorem rdMsg_enc {m : Msg} (hs : soundM m) (hf : fitsM m) (s : List UInt8) : rdMsg (some (msgIn m ++ s)) = (m, some s) := by
  obtain ⟨⟨h1, _⟩, ⟨h2, _⟩, ⟨h3, _⟩, h4, h5, h6, h7, h8⟩ := hs
  obtain ⟨f1, f2, f3, f4, f5, f6, f7⟩ := hf
  have key : ∀ (n : Int) (s : List UInt8), 0 ≤ n → n < 9223372036854775808 → rdN (some (enc n.toNat ++ s)) = (n, some s) := fun n s h0 h1 => by
    rw [rdN_enc (by omega)]
    simp only [Prod.mk.injEq, and_true]
    omega
  rw [msgIn_eq, rdMsg]
  simp only [key _ _ (show 0 ≤ m.kind by omega) f1, key _ _ h2 f2, key _ _ h3 f3, key _ _ h4 f4, key _ _ h5 f5, key _ _ h6 f6, key _ _ h7 f7, rdT_enc h8]
theorem rdMsg_once {l R : List UInt8} {m : Msg} (h : rdMsg (some l) = (m, some R)) : l = msgIn m ++ R ∧ fitsM m := by
  unfold rdMsg at h
  simp only [Prod.mk.injEq] at h
  obtain ⟨rfl, h⟩ := h
  obtain ⟨_, e8⟩ := rdT_once (t := (rdT _).1) (Prod.ext rfl h)
  obtain ⟨k7, n7, l7, e7⟩ := rdN_once (n := (rdN _).1) (Prod.ext rfl e8)
  obtain ⟨k6, n6, l6, e6⟩ := rdN_once (n := (rdN _).1) (Prod.ext rfl e7)
  obtain ⟨k5, n5, l5, e5⟩ := rdN_once (n := (rdN _).1) (Prod.ext rfl e6)
  obtain ⟨k4, n4, l4, e4⟩ := rdN_once (n := (rdN _).1) (Prod.ext rfl e5)
  obtain ⟨k3, n3, l3, e3⟩ := rdN_once (n := (rdN _).1) (Prod.ext rfl e4)
  obtain ⟨k2, n2, l2, e2⟩ := rdN_once (n := (rdN _).1) (Prod.ext rfl e3)
  obtain ⟨k1, n1, l1, e1⟩ := rdN_once (n := (rdN _).1) (Prod.ext rfl e2)
  constructor
  · rw [msgIn_eq]
    simp only [n1, n2, n3, n4, n5, n6, n7, Int.toNat_natCast]
    exact Option.some.inj e1
  · unfold fitsM
    simp only [n1, n2, n3, n4, n5, n6, n7]
    omega
/-- what was laid is read as it was -/
theorem decode_encode {m : Msg} (hs : soundM m) (hf : fitsM m) : decodeAns (sealed (msgIn m)) = (m, 0) := by
  have h := rdMsg_enc hs hf []
  rw [List.append_nil] at h
  rw [decodeAns, openAns_sealed]
  simp only [h]
  rw [if_pos ⟨trivial, trivial, hs⟩]

/-! ### spans, changes -/
def spanB (s : K × K) : List UInt8 := encT s.1.data.toList ++ encT s.2.data.toList
def chgB (c : Chg) : List UInt8 := enc c.kind.toNat ++ (encT c.key.data.toList ++ encT c.val.data.toList)
def rdSpan (S : Rest) : (K × K) × Rest := let a := rdT S; let b := rdT a.2; ((strB a.1, strB b.1), b.2)
def rdChg (S : Rest) : Chg × Rest := let k := rdN S; let a := rdT k.2; let b := rdT a.2; (⟨k.1, strB a.1, strB b.1⟩, b.2)
theorem strB_data (k : K) : strB k.data.toList = k := by cases k; rfl
theorem rdSpan_enc {s : K × K} (h : s.1.size ≤ 17 ∧ s.2.size ≤ 17) (r : List UInt8) : rdSpan (some (spanB s ++ r)) = (s, some r) := by
  have e : ∀ k : K, k.data.toList.length = k.size := fun k => by simp
  rw [spanB, List.append_assoc, rdSpan]
  simp only [rdT_enc (show s.1.data.toList.length ≤ 65536 by rw [e]; omega), rdT_enc (show s.2.data.toList.length ≤ 65536 by rw [e]; omega), strB_data]
theorem rdChg_enc {c : Chg} (h : checkAns c = 0) (r : List UInt8) : rdChg (some (chgB c ++ r)) = (c, some r) := by
  have e : ∀ k : K, k.data.toList.length = k.size := fun k => by simp
  have h3 : (c.kind = 1 ∨ c.kind = 2 ∨ c.kind = 3) ∧ c.key.size ≤ 64 ∧ c.val.size ≤ 64 := by
    unfold checkAns at h
    split at h
    · split at h
      · cases h
      · exact ⟨.inl (by assumption), by omega, by omega⟩
    · split at h
      · split at h
        · cases h
        · exact ⟨.inr (.inl (by assumption)), by omega, by omega⟩
      · split at h
        · split at h
          · cases h
          · exact ⟨.inr (.inr (by assumption)), by omega, by omega⟩
        · cases h
  obtain ⟨k, x, y⟩ := c
  simp only at h3
  rw [chgB, List.append_assoc, List.append_assoc, rdChg]
  simp only [rdN_enc (show k.toNat < 9223372036854775808 by omega), rdT_enc (show x.data.toList.length ≤ 65536 by rw [e]; omega), rdT_enc (show y.data.toList.length ≤ 65536 by rw [e]; omega), strB_data]
  congr 2
  omega
theorem rdSpan_none {S : Rest} (h : (rdSpan S).2 ≠ none) : S ≠ none := by rintro rfl; exact h rfl
theorem rdChg_none {S : Rest} (h : (rdChg S).2 ≠ none) : S ≠ none := by rintro rfl; exact h rfl
theorem rdN_none {S : Rest} (h : (rdN S).2 ≠ none) : S ≠ none := by rintro rfl; exact h rfl
theorem rdSpan_len (S : Rest) : (rdSpan S).1.1.size ≤ 65536 ∧ (rdSpan S).1.2.size ≤ 65536 := ⟨by simpa [rdSpan, strB, ByteArray.size] using rdT_len S, by simpa [rdSpan, strB, ByteArray.size] using rdT_len (rdT S).2⟩
theorem rdChg_len (S : Rest) : (rdChg S).1.key.size ≤ 65536 ∧ (rdChg S).1.val.size ≤ 65536 := ⟨by simpa [rdChg, strB, ByteArray.size] using rdT_len (rdN S).2, by simpa [rdChg, strB, ByteArray.size] using rdT_len (rdT (rdN S).2).2⟩
theorem repL_all {α : Type} {one : Rest → α × Rest} {p : α → Prop} (h : ∀ S, p (one S).1) (S : Rest) : ∀ i, ∀ x ∈ repL one i S, p x
  | 0, x, hx => by simp [repL] at hx
  | i + 1, x, hx => by
    rw [repL, List.mem_append] at hx
    rcases hx with hx | hx
    · exact repL_all h S i x hx
    · simp only [List.mem_singleton] at hx; rw [hx]; exact h _
theorem allAns_all : ∀ {l : List Chg}, allAns l = 0 → ∀ c ∈ l, checkAns c = 0
  | [], _, c, hc => by simp at hc
  | x :: r, h, c, hc => by
    rw [allAns] at h
    split at h
    · rcases List.mem_cons.1 hc with rfl | hc
      · assumption
      · exact allAns_all h c hc
    · exact absurd h (by assumption)

/-! ### transactions -/
structure Txn where
  read : Int
  reads : List (K × K)
  chgs : List Chg
instance : DecidableEq Txn := fun x y => decidable_of_iff (x.read = y.read ∧ x.reads = y.reads ∧ x.chgs = y.chgs) ⟨fun h => by cases x; cases y; simp only at h; obtain ⟨rfl, rfl, rfl⟩ := h; rfl, fun h => by subst h; simp⟩
def zeroT : Txn := ⟨0, [], []⟩
def okSpan (s : K × K) : Prop := s.1.size ≤ 17 ∧ s.2.size ≤ 17 ∧ ¬ s.2 < s.1
instance (s : K × K) : Decidable (okSpan s) := by unfold okSpan; exact inferInstance
def soundT (t : Txn) : Prop := 0 ≤ t.read ∧ t.reads.length ≤ 24 ∧ (∀ s ∈ t.reads, okSpan s) ∧ t.chgs.length ≤ 24 ∧ allAns t.chgs = 0
instance (t : Txn) : Decidable (soundT t) := by unfold soundT; exact inferInstance
def txnB (t : Txn) : List UInt8 := enc t.read.toNat ++ (listB spanB t.reads ++ listB chgB t.chgs)
def putTxn (t : Txn) : List UInt8 × Int := if soundT t then (txnB t, 0) else ([], 2)
def rdTxn (S : Rest) : Txn × Rest := let a := rdN S; let b := rdList rdSpan 24 a.2; let c := rdList rdChg 24 b.2; (⟨a.1, b.1, c.1⟩, c.2)
def getTxn (l : List UInt8) : Txn × Int := if (rdTxn (some l)).2 = some [] ∧ soundT (rdTxn (some l)).1 then ((rdTxn (some l)).1, 0) else (zeroT, 2)
theorem get_putT {t : Txn} (hs : soundT t) (hf : t.read < 9223372036854775808) : getTxn (txnB t) = (t, 0) := by
  have hs0 := hs
  obtain ⟨h1, h2, h3, h4, h5⟩ := hs
  have e1 := rdN_enc (n := t.read.toNat) (by omega) (listB spanB t.reads ++ listB chgB t.chgs)
  have e2 := rdList_enc (one := rdSpan) (f := spanB) 24 (by omega) t.reads (listB chgB t.chgs) (fun x hx s => rdSpan_enc ⟨(h3 x hx).1, (h3 x hx).2.1⟩ s) h2
  have e3 := rdList_enc (one := rdChg) (f := chgB) 24 (by omega) t.chgs [] (fun x hx s => rdChg_enc (allAns_all h5 x hx) s) h4
  rw [List.append_nil] at e3
  have e : rdTxn (some (txnB t)) = (t, some []) := by
    rw [rdTxn, txnB]
    simp only [e1, e2, e3, Int.toNat_of_nonneg h1]
  rw [getTxn, e, if_pos ⟨rfl, hs0⟩]

/-! ### batches -/
structure Bat where
  prev : Int
  version : Int
  known : Int
  chgs : List Chg
instance : DecidableEq Bat := fun x y => decidable_of_iff (x.prev = y.prev ∧ x.version = y.version ∧ x.known = y.known ∧ x.chgs = y.chgs) ⟨fun h => by cases x; cases y; simp only at h; obtain ⟨rfl, rfl, rfl, rfl⟩ := h; rfl, fun h => by subst h; simp⟩
def zeroB : Bat := ⟨0, 0, 0, []⟩
def soundB (x : Bat) : Prop := (0 ≤ x.prev ∧ 0 ≤ x.version ∧ 0 ≤ x.known) ∧ x.chgs.length ≤ 4096 ∧ allAns x.chgs = 0
instance (x : Bat) : Decidable (soundB x) := by unfold soundB; exact inferInstance
def batB (x : Bat) : List UInt8 := encs [x.prev, x.version, x.known] ++ listB chgB x.chgs
def putBat (x : Bat) : List UInt8 × Int := if soundB x then (batB x, 0) else ([], 2)
def rdBat (S : Rest) : Bat × Rest := let a := rdN S; let b := rdN a.2; let c := rdN b.2; let d := rdList rdChg 4096 c.2; (⟨a.1, b.1, c.1, d.1⟩, d.2)
def getBat (l : List UInt8) : Bat × Int := if (rdBat (some l)).2 = some [] ∧ soundB (rdBat (some l)).1 then ((rdBat (some l)).1, 0) else (zeroB, 2)
theorem get_putB {x : Bat} (hs : soundB x) (hf : x.prev < 9223372036854775808 ∧ x.version < 9223372036854775808 ∧ x.known < 9223372036854775808) : getBat (batB x) = (x, 0) := by
  have hs0 := hs
  obtain ⟨⟨h1, h2, h3⟩, h4, h5⟩ := hs
  obtain ⟨f1, f2, f3⟩ := hf
  have e1 := rdN_enc (n := x.prev.toNat) (by omega) (enc x.version.toNat ++ (enc x.known.toNat ++ listB chgB x.chgs))
  have e2 := rdN_enc (n := x.version.toNat) (by omega) (enc x.known.toNat ++ listB chgB x.chgs)
  have e3 := rdN_enc (n := x.known.toNat) (by omega) (listB chgB x.chgs)
  have e4 := rdList_enc (one := rdChg) (f := chgB) 4096 (by omega) x.chgs [] (fun c hc s => rdChg_enc (allAns_all h5 c hc) s) h4
  rw [List.append_nil] at e4
  have eb : batB x = enc x.prev.toNat ++ (enc x.version.toNat ++ (enc x.known.toNat ++ listB chgB x.chgs)) := by simp [batB, encs]
  have e : rdBat (some (batB x)) = (x, some []) := by
    rw [rdBat, eb]
    simp only [e1, e2, e3, e4, Int.toNat_of_nonneg h1, Int.toNat_of_nonneg h2, Int.toNat_of_nonneg h3]
  rw [getBat, e, if_pos ⟨rfl, hs0⟩]

/-! ### states -/
structure Sta where
  gen : Int
  epoch : Int
  recd : Int
  chests : List Int
instance : DecidableEq Sta := fun x y => decidable_of_iff (x.gen = y.gen ∧ x.epoch = y.epoch ∧ x.recd = y.recd ∧ x.chests = y.chests) ⟨fun h => by cases x; cases y; simp only at h; obtain ⟨rfl, rfl, rfl, rfl⟩ := h; rfl, fun h => by subst h; simp⟩
def zeroS : Sta := ⟨0, 0, 0, []⟩
def soundS (x : Sta) : Prop := (0 ≤ x.gen ∧ 0 ≤ x.epoch ∧ 0 ≤ x.recd) ∧ x.chests.length ≤ 16 ∧ ∀ n ∈ x.chests, 0 ≤ n ∧ n ≤ 255
instance (x : Sta) : Decidable (soundS x) := by unfold soundS; exact inferInstance
def staB (x : Sta) : List UInt8 := encs [x.gen, x.epoch, x.recd, (x.chests.length : Int)] ++ encs x.chests
def putSta (x : Sta) : List UInt8 × Int := if soundS x then (staB x, 0) else ([], 2)
def rdSta (S : Rest) : Sta × Rest := let a := rdN S; let b := rdN a.2; let c := rdN b.2; let d := rdList rdN 16 c.2; (⟨a.1, b.1, c.1, d.1⟩, d.2)
def getSta (l : List UInt8) : Sta × Int := if (rdSta (some l)).2 = some [] ∧ soundS (rdSta (some l)).1 then ((rdSta (some l)).1, 0) else (zeroS, 2)
theorem get_putS {x : Sta} (hs : soundS x) (hf : x.gen < 9223372036854775808 ∧ x.epoch < 9223372036854775808 ∧ x.recd < 9223372036854775808) : getSta (staB x) = (x, 0) := by
  have hs0 := hs
  obtain ⟨⟨h1, h2, h3⟩, h4, h5⟩ := hs
  obtain ⟨f1, f2, f3⟩ := hf
  have e1 := rdN_enc (n := x.gen.toNat) (by omega) (enc x.epoch.toNat ++ (enc x.recd.toNat ++ listB (fun n : Int => enc n.toNat) x.chests))
  have e2 := rdN_enc (n := x.epoch.toNat) (by omega) (enc x.recd.toNat ++ listB (fun n : Int => enc n.toNat) x.chests)
  have e3 := rdN_enc (n := x.recd.toNat) (by omega) (listB (fun n : Int => enc n.toNat) x.chests)
  have e4 := rdList_enc (one := rdN) (f := fun n : Int => enc n.toNat) 16 (by omega) x.chests [] (fun n hn s => by
    have := h5 n hn
    rw [rdN_enc (by omega)]
    simp only [Prod.mk.injEq, and_true]
    omega) h4
  rw [List.append_nil] at e4
  have eb : staB x = enc x.gen.toNat ++ (enc x.epoch.toNat ++ (enc x.recd.toNat ++ listB (fun n : Int => enc n.toNat) x.chests)) := by simp [staB, encs, listB]
  have e : rdSta (some (staB x)) = (x, some []) := by
    rw [rdSta, eb]
    simp only [e1, e2, e3, e4, Int.toNat_of_nonneg h1, Int.toNat_of_nonneg h2, Int.toNat_of_nonneg h3]
  rw [getSta, e, if_pos ⟨rfl, hs0⟩]
end Go.Proofs.YtbifnogocmgddaaGreat

/- A region whose operations may come in more than one order, walked along a tree of orders that is laid down beforehand. The frame layer's writer: what its calls leave. The frame layer's writer: spans. The frame layer's writer: changes. The reader: what its calls leave. What Num answers. What Text answers. -/
import Derived.Test.YthoheikbpihflaaFaa
import Derived.Test.YthoheikbpihflaaFac
import Derived.Test.YthoheikbpihflaaFab
import Derived.StillTailTactics
namespace Go.Proofs.Ythoheikbpihflaa
open Go.RowKit

/-- take i: number i yields the same whenever it comes up; step i: it comes up alone; fork: one of two comes up -/
inductive PT
  | done
  | take (i : Nat) (n : PT)
  | step (i : Nat) (n : PT)
  | fork (i : Nat) (n : PT) (j : Nat) (m : PT)
  | fork3 (i : Nat) (n : PT) (j : Nat) (m : PT) (k : Nat) (q : PT)
def PT.depth : PT → Nat
  | .done => 0
  | .take _ n => n.depth + 1
  | .step _ n => n.depth + 1
  | .fork _ n _ m => max n.depth m.depth + 1
  | .fork3 _ n _ m _ q => max n.depth (max m.depth q.depth) + 1
def ptOk (ops : Array Oper) : PT → Array Bool → Bool
  | .done, listed => (Region.ready .any ops listed).isEmpty
  | .take i n, listed => Region.free .any ops listed i && (Region.ready .any ops listed).contains i && ptOk ops n (listed.setIfInBounds i true)
  | .step i n, listed => Region.ready .any ops listed == [i] && ptOk ops n (listed.setIfInBounds i true)
  | .fork i n j m, listed => Region.ready .any ops listed == [i, j] && (ptOk ops n (listed.setIfInBounds i true) && ptOk ops m (listed.setIfInBounds j true))
  | .fork3 i n j m k q, listed => Region.ready .any ops listed == [i, j, k] && (ptOk ops n (listed.setIfInBounds i true) && (ptOk ops m (listed.setIfInBounds j true) && ptOk ops q (listed.setIfInBounds k true)))
section
variable {P : Program} {ops : Array Oper} {Q : Exit → Act → World → Prop} {S : World → Prop}
def PlanT (P : Program) (ops : Array Oper) (S : World → Prop) (Q : Exit → Act → World → Prop) : PT → Act → World → Prop
  | .done, a, w => Q .normal a w
  | .take i n, a, w => ∃ o v, ops[i]? = some o ∧ YieldsIf P ops S o v a ∧ PlanT P ops S Q n (a.put o.dst v) w
  | .step i n, a, w => wpOp P ops Q i (fun a' w' => S w' ∧ PlanT P ops S Q n a' w') a w
  | .fork i n j m, a, w => wpOp P ops Q i (fun a' w' => S w' ∧ PlanT P ops S Q n a' w') a w ∧ wpOp P ops Q j (fun a' w' => S w' ∧ PlanT P ops S Q m a' w') a w
  | .fork3 i n j m k q, a, w => wpOp P ops Q i (fun a' w' => S w' ∧ PlanT P ops S Q n a' w') a w ∧ wpOp P ops Q j (fun a' w' => S w' ∧ PlanT P ops S Q m a' w') a w ∧ wpOp P ops Q k (fun a' w' => S w' ∧ PlanT P ops S Q q a' w') a w

theorem PlanT.any (hs : Region.noSelect ops = true) (hQ : ∀ c a d v w, Q (.panic c) (Act.put a d v) w → Q (.panic c) a w) : ∀ (plan : PT) (fuel : Nat) (listed : Array Bool) (a : Act) (w : World),
    plan.depth ≤ fuel → ptOk ops plan listed = true → S w → PlanT P ops S Q plan a w → wpAnyH P .any ops Q S fuel listed a w
  | .done, fuel, listed, a, w, _, hp, _, h => wpAnyH_done (by simpa [ptOk] using hp) h fuel
  | .take i r, fuel + 1, listed, a, w, hf, hp, hS, h => by
    obtain ⟨o, v, ho, hy, hr⟩ := h
    simp only [ptOk, Bool.and_eq_true] at hp
    exact wpAnyH_take ho hs hp.1.1 hp.1.2 (fun c a w => hQ c a _ _ w) hy hS (PlanT.any hs hQ r fuel _ _ _ (by simpa [PT.depth] using hf) hp.2 hS hr)
  | .step i r, fuel + 1, listed, a, w, hf, hp, _, h => by
    simp only [ptOk, Bool.and_eq_true, beq_iff_eq] at hp
    refine wpAnyH_all hp.1 (by simp) fun j hj => ?_
    obtain rfl : j = i := by simpa using hj
    exact wpOp_mono (fun a' w' h' => ⟨h'.1, PlanT.any hs hQ r fuel _ _ _ (by simpa [PT.depth] using hf) hp.2 h'.1 h'.2⟩) h
  | .fork i r j m, fuel + 1, listed, a, w, hf, hp, _, h => by
    simp only [ptOk, Bool.and_eq_true, beq_iff_eq] at hp
    simp only [PT.depth] at hf
    refine wpAnyH_all hp.1 (by simp) fun k hk => ?_
    rcases (by simpa using hk : k = i ∨ k = j) with rfl | rfl
    · exact wpOp_mono (fun a' w' h' => ⟨h'.1, PlanT.any hs hQ r fuel _ _ _ (by omega) hp.2.1 h'.1 h'.2⟩) h.1
    · exact wpOp_mono (fun a' w' h' => ⟨h'.1, PlanT.any hs hQ m fuel _ _ _ (by omega) hp.2.2 h'.1 h'.2⟩) h.2
  | .fork3 i r j m l q, fuel + 1, listed, a, w, hf, hp, _, h => by
    simp only [ptOk, Bool.and_eq_true, beq_iff_eq] at hp
    simp only [PT.depth] at hf
    refine wpAnyH_all hp.1 (by simp) fun k hk => ?_
    rcases (by simpa using hk : k = i ∨ k = j ∨ k = l) with rfl | rfl | rfl
    · exact wpOp_mono (fun a' w' h' => ⟨h'.1, PlanT.any hs hQ r fuel _ _ _ (by omega) hp.2.1 h'.1 h'.2⟩) h.1
    · exact wpOp_mono (fun a' w' h' => ⟨h'.1, PlanT.any hs hQ m fuel _ _ _ (by omega) hp.2.2.1 h'.1 h'.2⟩) h.2.1
    · exact wpOp_mono (fun a' w' h' => ⟨h'.1, PlanT.any hs hQ q fuel _ _ _ (by omega) hp.2.2.2 h'.1 h'.2⟩) h.2.2
  | .take _ _, 0, _, _, _, hf, _, _, _ => by simp [PT.depth] at hf
  | .step _ _, 0, _, _, _, hf, _, _, _ => by simp [PT.depth] at hf
  | .fork _ _ _ _, 0, _, _, _, hf, _, _, _ => by simp [PT.depth] at hf
  | .fork3 _ _ _ _ _ _, 0, _, _, _, hf, _, _, _ => by simp [PT.depth] at hf

theorem wp_region_planT (S : World → Prop) (plan : PT) {id : Nat} {a : Act} {w : World} (hm : P.follows .mixedOrders = true) (hs : (Region.noSelect ops && ptOk ops plan (Array.replicate ops.size false) && decide (plan.depth ≤ ops.size)) = true)
    (hQ : ∀ c a d v w, Q (.panic c) (Act.put a d v) w → Q (.panic c) a w) (hS : S w.drew) (h : PlanT P ops S Q plan a w.drew) : (Code.region id ops true).wp P Q a w := by
  simp only [Bool.and_eq_true, decide_eq_true_eq] at hs
  exact wp_region_held hm (PlanT.any hs.1.1 hQ plan _ _ _ _ hs.2 hs.1.2 hS h)

theorem PlanT.takeI {i : Nat} {o : Oper} {v : Value} {r : PT} {a : Act} {w : World} (hi : ops.toList[i]? = some o) (hw : Region.wanted o (yielded ops a.tmps) = true)
    (hy : ∀ W, S W → (execOp a.eval o).run P W = .ok (.value v) W) (h : PlanT P ops S Q r (a.put o.dst v) w) : PlanT P ops S Q (.take i r) a w :=
  ⟨o, v, by simpa using hi, .inl ⟨hw, hy⟩, h⟩
theorem PlanT.skip {i : Nat} {o : Oper} {r : PT} {a : Act} {w : World} (hi : ops.toList[i]? = some o) (hw : Region.wanted o (yielded ops a.tmps) = false)
    (h : PlanT P ops S Q r (a.put o.dst undef) w) : PlanT P ops S Q (.take i r) a w :=
  ⟨o, undef, by simpa using hi, .inr ⟨hw, rfl⟩, h⟩
theorem wpOp_stepT {i : Nat} {o : Oper} {r : PT} {a : Act} {w : World} (hi : ops.toList[i]? = some o) (hw : Region.wanted o (yielded ops a.tmps) = true)
    (h : ∀ K : Act → World → Prop, Shut (∀ a w, S w → PlanT P ops S Q r a w → K a w) → Oper.wp P o a w K Q) : wpOp P ops Q i (fun a' w' => S w' ∧ PlanT P ops S Q r a' w') a w := by
  refine wpOp_step (o := o) (by simpa using hi) fun K' hK => ?_
  rw [if_pos hw]
  exact h K' fun a w h1 h2 => hK a w ⟨h1, h2⟩
end
end Go.Proofs.Ythoheikbpihflaa
namespace Go.Proofs.Ythoheikbpihflaa
open Go.RowKit

theorem Whole.rd {α : Type} {enc : α → List Value} {k : Nat} (hk : ∀ x, (enc x).length = k) {w : World} {g : Nat} {t : TypeId} {l : List α} (h : Whole w g t (flatG enc l)) : Rd enc k w (g + 1) (.slice (some ⟨g, 0, none⟩) l.length l.length) l := by
  refine ⟨_, l.length, rfl, Nat.le_refl _, fun i hi => ⟨g, 0, rfl, Nat.lt_succ_self _, fun j u hu => ?_⟩⟩
  have hj : j < k := by
    rcases Nat.lt_or_ge j k with h' | h'
    · exact h'
    · rw [List.getElem?_eq_none (by rw [hk]; exact h')] at hu; cases hu
  refine h.cell _ _ ?_
  rw [Nat.zero_add, flatG_get hk l i hi j hj]
  exact hu

/-- a writer of the frame layer at block p -/
def FW (w : World) (base p : Nat) (l : List UInt8) : Prop :=
  ∃ A c, Whole w p 109 [.slice A l.length c] ∧ OwnB w base (.slice A l.length c) l ∧ base ≤ p ∧ base ≤ w.heap.size
/-- blocks of other types than a writer's and its bytes' are kept -/
def Keeps (w w' : World) : Prop := w.heap.size ≤ w'.heap.size ∧ ∀ g t cs, Whole w g t cs → t ≠ 5 → t ≠ 109 → Whole w' g t cs
theorem Keeps.refl (w : World) : Keeps w w := ⟨Nat.le_refl _, fun _ _ _ h _ _ => h⟩
theorem Keeps.trans {a b c : World} (h : Keeps a b) (k : Keeps b c) : Keeps a c := ⟨Nat.le_trans h.1 k.1, fun g t cs h1 h2 h3 => k.2 g t cs (h.2 g t cs h1 h2 h3) h2 h3⟩
theorem Keeps.of {w w' : World} (h : Below w.heap.size w w') : Keeps w w' := ⟨h.size, fun _ _ _ h1 _ _ => h1.below h h1.size⟩
theorem Keeps.alloc (w : World) (o : Obj) : Keeps w (w.alloc o) := .of ((Below.refl _ w).alloc (Nat.le_refl _) o)
theorem FW.more {w w' : World} {base p B : Nat} {l : List UInt8} (h : FW w base p l) (hb : Below B w w') (hB : w.heap.size ≤ B) : FW w' base p l := by
  obtain ⟨A, c, hw, ho, hp, hs⟩ := h
  exact ⟨A, c, hw.below hb (Nat.lt_of_lt_of_le hw.size hB), ho.below hb hB, hp, Nat.le_trans hs hb.size⟩
theorem FW.size {w : World} {base p : Nat} {l : List UInt8} (h : FW w base p l) : base ≤ w.heap.size := by obtain ⟨_, _, _, _, _, h⟩ := h; exact h
/-- what an append of its bytes and a store leave -/
theorem FW.stored {w w2 : World} {base p : Nat} {l l2 : List UInt8} {A A2 : Option Addr} {c c2 : Nat} (hb : Whole w p 109 [.slice A l.length c]) (ho : OwnB w base (.slice A l.length c) l) (hp : base ≤ p) (hs : base ≤ w.heap.size)
    (ho2 : OwnB w2 base (.slice A2 l2.length c2) l2) (hg : w.grownBy w2 (Value.slice A l.length c).ownBlock) :
    FW (w2.setCell ⟨p, 0, none⟩ (.slice A2 l2.length c2)) base p l2 ∧ Below base w (w2.setCell ⟨p, 0, none⟩ (.slice A2 l2.length c2)) ∧ Keeps w (w2.setCell ⟨p, 0, none⟩ (.slice A2 l2.length c2)) := by
  have hb2 := hb.grown hg (ho.apart hb (by decide))
  refine ⟨⟨A2, c2, hb2.put 0 _, ho2.put hb2 (by decide) 0 _, hp, ?_⟩, (ho.grown (Below.refl _ _) hg (Nat.le_refl _) hs).setCell hp _, ?_, fun g t cs h1 h2 h3 => ?_⟩
  · have := hg.size; simp; omega
  · have := hg.size; simpa using this
  · have hne : some g ≠ (Value.slice A l.length c).ownBlock := ho.apart h1 (Ne.symm h2)
    exact (h1.grown hg hne).away (p := ⟨p, 0, none⟩) (h1.apart hb h3) _

set_option maxHeartbeats 1000000 in
set_option maxRecDepth 100000 in
theorem fnums_any (l : List Int) (hr : ∀ n ∈ l, 0 ≤ n ∧ n < 9223372036854775808) (hl : l.length ≤ 4096) (v : Value) (base p : Nat) (m : List UInt8) (w : World) (hw : FW w base p m) (hv : RdI w w.heap.size v l) (hm : m.length ≤ 200000000000000) :
    Calls Try.prog 57 #[.pointer (some ⟨p, 0, none⟩), v] w fun x w' => x = .returned (.pointer (some ⟨p, 0, none⟩)) ∧ FW w' base p (m ++ encs l) ∧ Below base w w' ∧ Keeps w w' := by
  obtain ⟨A, c, hb, ho, hp, hs⟩ := hw
  have hn := nums_any l (fun n h => (hr n h).2) v w hv (by omega)
  rw [show numsAns l = (encs l, 0) by
    rw [numsAns, if_neg (by omega), if_neg]
    simp only [List.any_eq_true, decide_eq_true_eq, not_exists, not_and]
    intro n h
    have := (hr n h).1
    omega] at hn
  have hlen := encs_len l (fun n h => (hr n h).2)
  obtain ⟨A3, c3, rfl, _, _⟩ := hv.at
  generalize encs l = R at hn hlen ⊢
  have HN := Lib.hid hn; clear hn hr hv
  have HB := Lib.hid hb; clear hb
  have HO := Lib.hid ho; clear ho
  go_enter Try.func57, Try.ntmps57
  go_wp2_with fail
  refine HN.out.mono ?_
  rintro e w1 ⟨v1, rfl, hr1, hb1⟩
  have hW1 := HB.out.below hb1 HB.out.size
  have hO1 := HO.out.below hb1 (Nat.le_refl _)
  obtain ⟨A1, c1, rfl, _, _⟩ := hr1.at
  have c0 := hW1.cell 0 _ rfl
  have hs1 : base ≤ w1.heap.size := Nat.le_trans hs hb1.size
  have HK1 := Lib.hid (Keeps.of hb1)
  have HB1 := Lib.hid (hb1.mono hs); clear hb1
  have HW1 := Lib.hid hW1; clear hW1
  have HO1 := Lib.hid hO1; clear hO1
  have HR1 := Lib.hid hr1; clear hr1
  go_wp2_with (at_builtin; go_must (refine wpList_addBG rfl _ _ rfl base (.slice A m.length c) m rfl HO1.out w1.heap.size _ R rfl HR1.out (by omega) hs1 ?_))
  intro A2 c2 w2 ho2 hg2
  have hb2 := HW1.out.grown hg2.out (HO1.out.apart HW1.out (by decide))
  have k0 := hb2.cell 0 _ rfl
  have g0 := hb2.frozen 0
  obtain ⟨h1, h2, h3⟩ := FW.stored (l2 := m ++ R) (A2 := A2) (c2 := c2) HW1.out HO1.out hp hs1 (by rw [List.length_append]; exact ho2.out) hg2.out
  have H1 := Lib.hid h1
  have H2 := Lib.hid h2
  have H3 := Lib.hid h3
  clear hb2 h1 h2 h3 ho2 hg2
  simp only [List.length_append] at H1 H2 H3
  go_wp2_with fail
  go_ret
  exact ⟨rfl, H1.out, HB1.out.trans H2.out, HK1.out.trans H3.out⟩

/-- texts as bytes -/
def txts (ks : List K) : List UInt8 := ks.flatMap fun k => encT k.data.toList
theorem txts_append (a b : List K) : txts (a ++ b) = txts a ++ txts b := by simp [txts]
theorem encT_len (k : K) (h : k.size ≤ 65536) : (encT k.data.toList).length ≤ k.size + 9 := by
  rw [encT, List.length_append, data_len]
  have := enc_len9 (n := k.size) (by omega)
  omega
theorem txts_len : ∀ (ks : List K), (∀ k ∈ ks, k.size ≤ 65536) → (txts ks).length ≤ ks.length * 65545
  | [], _ => by simp [txts]
  | k :: r, h => by
    have h1 := txts_len r fun x hx => h x (by simp [hx])
    have h2 := encT_len k (h k (by simp))
    have h3 := h k (by simp)
    rw [show txts (k :: r) = encT k.data.toList ++ txts r from rfl, List.length_append, List.length_cons]
    omega

end Go.Proofs.Ythoheikbpihflaa
namespace Go.Proofs.Ythoheikbpihflaa
open Go.RowKit
attribute [local go_sem] less_eq same_eq le_eq ge_eq gt_eq

theorem spanB_len (s : K × K) (h : s.1.size ≤ 65536 ∧ s.2.size ≤ 65536) : (spanB s).length ≤ 131090 := by
  have h1 := encT_len s.1 h.1
  have h2 := encT_len s.2 h.2
  rw [spanB, List.length_append]; omega
theorem txts_two (x y : K) : txts [x, y] = spanB (x, y) := by simp [txts, spanB]
theorem encs_one (n : Int) : encs [n] = enc n.toNat := by simp [encs]

end Go.Proofs.Ythoheikbpihflaa
namespace Go.Proofs.Ythoheikbpihflaa
open Go.RowKit
attribute [local go_sem] less_eq same_eq le_eq ge_eq gt_eq

/-- what the steps of a region of the writer's leave -/
def SW (w0 : World) (base : Nat) (W : World) : Prop := Below base w0 W ∧ Keeps w0 W
theorem SW.next {w0 W W' : World} {base : Nat} (h : SW w0 base W) (hb : Below W.heap.size W W') (hs : base ≤ W.heap.size) : SW w0 base W' := ⟨h.1.trans (hb.mono hs), h.2.trans (Keeps.of hb)⟩
theorem SW.keep {w0 W W' : World} {base : Nat} (h : SW w0 base W) (hb : Below base W W') (hk : Keeps W W') : SW w0 base W' := ⟨h.1.trans hb, h.2.trans hk⟩
theorem Below.drewW {w : World} {B : Nat} (n : Nat) : Below B w (w.drewN n) := ⟨rfl, rfl, rfl, Nat.le_refl _, fun _ _ => rfl⟩
theorem SW.drew (w : World) (base : Nat) : SW w base w.drew := ⟨(Below.refl _ _).drew, .of ((Below.refl _ _).drew)⟩
theorem FW.drew {w : World} {base p : Nat} {l : List UInt8} (h : FW w base p l) : FW w.drew base p l := h

theorem chgB_len (c : Chg) (h : 0 ≤ c.kind ∧ c.kind < 9223372036854775808 ∧ c.key.size ≤ 65536 ∧ c.val.size ≤ 65536) : (chgB c).length ≤ 131099 := by
  have h1 := encT_len c.key h.2.2.1
  have h2 := encT_len c.val h.2.2.2
  have h3 := enc_len9 (n := c.kind.toNat) (by omega)
  rw [chgB, List.length_append, List.length_append]; omega

end Go.Proofs.Ythoheikbpihflaa
namespace Go.Proofs.Ythoheikbpihflaa
open Go.RowKit

/-- a reader at block p: the bytes, how many were read, the error -/
def Rdr (w : World) (base p : Nat) (v : Value) (used e : Int) : Prop := Whole w p 117 [v, .int .i64 used, .int .i64 e] ∧ base ≤ p

set_option maxHeartbeats 1000000 in
set_option maxRecDepth 100000 in
theorem from_any (v : Value) (w : World) (A : Option Addr) (n c : Nat) (hv : v = .slice A n c) :
    Calls Try.prog 58 #[v] w fun e w' => ∃ p, e = .returned (.pointer (some ⟨p, 0, none⟩)) ∧ Rdr w' w.heap.size p v 0 0 ∧ Below w.heap.size w w' ∧ p = w.heap.size := by
  subst hv
  go_enter Try.func58, Try.ntmps58
  go_wp2_with fail
  go_ret
  exact ⟨_, rfl, ⟨Whole.fresh _ _ [_, _, _], Nat.le_refl _⟩, (Below.refl _ _).alloc (Nat.le_refl _) _, rfl⟩

set_option maxHeartbeats 1000000 in
set_option maxRecDepth 100000 in
theorem rfail_any (base p : Nat) (v : Value) (used e f : Int) (w : World) (hw : Rdr w base p v used e) :
    Calls Try.prog 70 #[.pointer (some ⟨p, 0, none⟩), .int .i64 f] w fun x w' => x = .returned (.pointer (some ⟨p, 0, none⟩)) ∧ w' = (w.setCell ⟨p, 1, none⟩ (.int .i64 0)).setCell ⟨p, 2, none⟩ (.int .i64 f) := by
  obtain ⟨hb, hp⟩ := hw
  have c1 := hb.cell 1 _ rfl
  have c2 := hb.cell 2 _ rfl
  have f1 := hb.frozen 1
  have f2 := hb.frozen 2
  clear hb
  go_enter Try.func70, Try.ntmps70
  go_wp2_with fail
  go_ret
  exact ⟨rfl, rfl⟩
set_option maxRecDepth 100000 in
theorem Rdr.failed {w : World} {base p : Nat} {v : Value} {used e : Int} (f : Int) (h : Rdr w base p v used e) : Rdr ((w.setCell ⟨p, 1, none⟩ (.int .i64 0)).setCell ⟨p, 2, none⟩ (.int .i64 f)) base p v 0 f :=
  ⟨(h.1.put 1 _).put 2 _, h.2⟩

set_option maxHeartbeats 1000000 in
set_option maxRecDepth 100000 in
/-- behind an error nothing is read -/
theorem rdnum_err (base p : Nat) (v pn : Value) (used e : Int) (he : e ≠ 0) (w : World) (hw : Rdr w base p v used e) :
    Calls Try.prog 62 #[.pointer (some ⟨p, 0, none⟩), pn] w fun x w' => x = .returned (.pointer (some ⟨p, 0, none⟩)) ∧ w = w' := by
  obtain ⟨hb, hp⟩ := hw
  have c2 := hb.cell 2 _ rfl
  clear hb
  go_enter Try.func62, Try.ntmps62
  go_wp2_with fail
  go_ret
  exact ⟨rfl, rfl⟩

/-- the world behind the reading of a number into a cell -/
def NumW (p q o used : Nat) (r : Nat × Nat × Nat) (w w' : World) : Prop :=
  (r.2.2 = 0 ∧ ∃ k, w' = ((w.setCell ⟨q, o, none⟩ (.int .i64 (r.1 : Int))).setCell ⟨p, 1, none⟩ (.int .i64 ((used : Int) + (r.2.1 : Int)))).drewN k) ∨
  (r.2.2 ≠ 0 ∧ ∃ k, w' = ((w.setCell ⟨p, 1, none⟩ (.int .i64 0)).setCell ⟨p, 2, none⟩ (.int .i64 (r.2.2 : Int))).drewN k)
set_option maxRecDepth 100000 in
theorem or_nat64 {a b i : Nat} (ha : a < 2 ^ i) (h : a + 2 ^ i * b < 9223372036854775808) : bits .or .i64 (a : Int) ((2 ^ i * b : Nat) : Int) = ((a + 2 ^ i * b : Nat) : Int) := by
  have e : a ||| 2 ^ i * b = a + 2 ^ i * b := by
    rw [Nat.or_comm, ← Nat.two_pow_add_eq_or_of_lt ha, Nat.add_comm]
  have ha' : a % 2 ^ IntKind.i64.bits = a := Nat.mod_eq_of_lt (by show a < 2 ^ 64; omega)
  have hb' : 2 ^ i * b % 2 ^ IntKind.i64.bits = 2 ^ i * b := Nat.mod_eq_of_lt (by show _ < 2 ^ 64; omega)
  simp only [bits, BitVec.ofInt_natCast, BitVec.toNat_or, BitVec.toNat_ofNat, ha', hb', e]
  rw [IntKind.wrap_i64]
  omega
set_option maxRecDepth 100000 in
theorem andNot128 : ∀ a : Fin 256, bits .andNot .u8 (a.val : Int) 128 = ((a.val % 128 : Nat) : Int) := by decide +kernel

set_option maxHeartbeats 4000000 in
set_option maxRecDepth 100000 in
theorem rdnum_any (base p : Nat) (l : List UInt8) (A : Option Addr) (c used q o : Nat) (z : Value) (w : World) (hw : Rdr w base p (.slice A l.length c) (used : Int) 0) (hv : RdB w base (.slice A l.length c) l) (hu : used ≤ l.length) (hl : l.length < 4611686018427387904)
    (hq : w.cell? ⟨q, o, none⟩ = some z) (hf : w.frozen? ⟨q, o, none⟩ = false) (hpq : q ≠ p) (_hbq : base ≤ q) :
    Calls Try.prog 62 #[.pointer (some ⟨p, 0, none⟩), .pointer (some ⟨q, o, none⟩)] w fun x w' => x = .returned (.pointer (some ⟨p, 0, none⟩)) ∧
      NumW p q o used (numAns (l.drop used)) w w' := by
  obtain ⟨hb, hp⟩ := hw
  have c0 := hb.cell 0 _ rfl
  have c1 := hb.cell 1 _ rfl
  have c2 := hb.cell 2 _ rfl
  have f1 := hb.frozen 1
  have f2 := hb.frozen 2
  have hlt := hb.size
  have HB := Lib.hid hb; clear hb
  obtain ⟨R, hR⟩ : ∃ R, R = numAns (l.drop used) := ⟨_, rfl⟩
  rw [← hR]
  have hc : l.length ≤ c := by
    obtain ⟨A0, c0, e, h, _⟩ := hv
    injection e with _ _ e
    rw [e]; exact h
  by_cases hml : l.length = used
  · have hr : R = (0, 0, 3) := by rw [hR, List.drop_eq_nil_of_le (by omega)]; rfl
    subst hr
    clear hR hv
    subst hml
    have hF := fun (W : World) (h : Rdr W base p (.slice A l.length c) (l.length : Int) 0) => rfail_any base p _ _ 0 3 W h
    have HF := Lib.hid hF; clear hF
    by_cases hcu : c = l.length
    all_goals
      go_enter Try.func62, Try.ntmps62
      go_wp2_with fail
      go_quiet (fail)
      go_wp2_with fail
      go_loop [30] (fun iv => iv = .int .i64 0) (fun _ => 0)
      case atStart => rfl
      case round =>
        subst hrel
        go_wp2_with fail
        refine (HF.out (w.drewN nq) ⟨HB.out, hp⟩).mono ?_
        rintro x w2 ⟨rfl, rfl⟩
        go_wp2_with fail
        go_ret
        exact ⟨rfl, .inr ⟨by simp, nq, rfl⟩⟩
  · obtain ⟨A0, c0', e, hc', hi⟩ := hv.at
    injection e with e1 _ e2
    subst e1 e2
    obtain ⟨b, o2, hA, hbB⟩ : ∃ b o2, A = some ⟨b, o2, none⟩ ∧ b < base := by obtain ⟨b, o2, h1, h2, _⟩ := hi 0 (by omega); exact ⟨b, o2, h1, h2⟩
    subst hA
    have hcell : ∀ i, (h : i < (l.drop used).length) → w.cell? ⟨b, o2 + used + i, none⟩ = some (.int .u8 ((l.drop used)[i].toNat : Int)) := fun i h => by
      obtain ⟨b', o', hA', _, h1⟩ := hi (used + i) (by simp at h; omega)
      simp only [Option.some.injEq, Addr.mk.injEq, and_true] at hA'
      obtain ⟨rfl, rfl⟩ := hA'
      rw [Nat.add_assoc, h1]
      simp
    have hdl : (l.drop used).length = l.length - used := by simp
    generalize l.drop used = m at hR hcell hdl
    obtain ⟨k, hk⟩ : ∃ k : Nat, k = min (l.length - used) 9 := ⟨_, rfl⟩
    have hk1 : (min (↑(l.length - used)) 9 : Int) = (k : Int) := by omega
    have hk9 : k ≤ 9 := by omega
    have hkm : k ≤ m.length := by omega
    have hkk : k = 9 ∨ k = m.length := by omega
    have HK := Lib.hid hkk
    have HC := Lib.hid hcell
    have HDL := Lib.hid hdl
    have HR := Lib.hid hR
    have hcu : ¬ c = used := by omega
    have hcu2 : used < c := by omega
    clear hkk hcell hdl hR hi hv hk
    go_enter Try.func62, Try.ntmps62
    go_wp2_with fail
    go_quiet (fail)
    go_wp2_with fail
    go_loop [5, 7, 8, 30] (fun nv i7 c8 iv => ∃ (i n : Nat), i ≤ k ∧ iv = .int .i64 i ∧ nv = .int .i64 n ∧ n < 128 ^ i ∧ R = numGo i n (128 ^ i) (m.drop i)) (fun _ _ _ iv => 9 - (intOf iv).toNat)
    case atStart => exact ⟨0, 0, by omega, rfl, rfl, by simp, by rw [HR.out]; rfl⟩
    case round =>
      obtain ⟨i, n, hik, rfl, rfl, hn, he⟩ := hrel
      have HN := Lib.hid hn; clear hn
      have HE := Lib.hid he; clear he
      by_cases hlt : i < k
      · have hlm : i < m.length := by omega
        have h1 := HC.out i hlm
        have hd : m.drop i = m[i] :: m.drop (i + 1) := List.drop_eq_getElem_cons hlm
        have hgo := HE.out
        rw [hd, numGo, if_neg (by omega)] at hgo
        have hcc := m[i].toNat_lt
        generalize m[i].toNat = cn at h1 hgo hcc
        obtain ⟨x, hx⟩ : ∃ x, x = cn % 128 := ⟨_, rfl⟩
        have ha : bits .andNot .u8 (cn : Int) 128 = (x : Int) := by rw [hx]; exact andNot128 ⟨cn, hcc⟩
        have hx7 : x < 128 := by omega
        obtain ⟨y, hy⟩ : ∃ y, y = x * 128 ^ i := ⟨_, rfl⟩
        have hpow : (2 : Nat) ^ (7 * i) = 128 ^ i := by rw [Nat.pow_mul]
        have hnp1 : n + y < 128 ^ (i + 1) := by
          have hn' := HN.out
          have hle : x * 128 ^ i ≤ 127 * 128 ^ i := Nat.mul_le_mul_right _ (by omega)
          rw [Nat.pow_succ, hy]
          omega
        have hnp : n + y < 9223372036854775808 := Nat.lt_of_lt_of_le hnp1 (Nat.pow_le_pow_right (by decide) (show i + 1 ≤ 9 by omega))
        have hy2 : (x : Int) * 2 ^ (7 * i) = (y : Int) := by rw [hy, ← hpow]; simp
        have hor : bits .or .i64 (n : Int) (y : Int) = ((n + y : Nat) : Int) := by
          have h := or_nat64 (a := n) (b := x) (i := 7 * i) (by rw [hpow]; exact HN.out) (by rw [hpow, Nat.mul_comm, ← hy]; exact hnp)
          rw [hpow, Nat.mul_comm, ← hy] at h
          exact h
        rw [← hx, ← hy] at hgo
        have HG := Lib.hid hgo
        have H1 := Lib.hid hnp1
        have HX := Lib.hid hx
        have HY := Lib.hid hy
        clear hgo hd hnp1 hx hy
        by_cases hs : cn < 128
        · have hg2 := HG.out
          rw [if_pos hs] at hg2
          by_cases hz : cn = 0
          · subst hz
            obtain rfl : x = 0 := HX.out
            obtain rfl : y = 0 := by have := HY.out; omega
            by_cases hi0 : i > 0
            · rw [if_pos ⟨rfl, hi0⟩] at hg2
              have HG2 := Lib.hid hg2
              clear hg2 HX HY
              go_wp2_with fail
              refine (rfail_any base p _ _ 0 2 (w.drewN nq) ⟨HB.out, hp⟩).mono ?_
              rintro x w2 ⟨rfl, rfl⟩
              go_wp2_with fail
              go_ret
              exact ⟨rfl, by rw [HG2.out]; exact .inr ⟨by simp, nq, rfl⟩⟩
            · rw [if_neg (by omega)] at hg2
              have hi00 : ¬ ((0 : Int) < (i : Int)) := by omega
              have ha0 : bits .andNot .u8 0 128 = 0 := ha
              have hor0 : bits .or .i64 (n : Int) 0 = (n : Int) := hor
              clear ha hor hy2
              have HG2 := Lib.hid hg2
              clear hg2 HX HY
              go_wp2_with fail
              go_ret
              exact ⟨rfl, by rw [HG2.out]; exact .inl ⟨rfl, nq, by simp; rfl⟩⟩
          · rw [if_neg (by omega)] at hg2
            have HG2 := Lib.hid hg2
            clear hg2
            go_wp2_with fail
            go_ret
            exact ⟨rfl, by rw [HG2.out]; exact .inl ⟨rfl, nq, by simp; rfl⟩⟩
        · have hg2 := HG.out
          rw [if_neg hs, ← Nat.pow_succ] at hg2
          have HG2 := Lib.hid hg2
          clear hg2
          go_wp2_with fail
          go_round
          case rel => exact ⟨i + 1, n + y, by omega, by go_num, by go_num, H1.out, HG2.out⟩
          case measure => simp [intOf]; omega
      · obtain rfl : i = k := by omega
        have hg2 := HE.out
        rcases HK.out with h9 | hm
        · have h9m : 9 ≤ m.length := by omega
          have hr : R = (0, 0, 2) := by
            rw [hg2]
            cases hd : m.drop i with
            | nil => rw [numGo, if_pos (by omega)]
            | cons y ys => rw [numGo, if_pos (by omega)]
          have HR2 := Lib.hid hr
          have hl9 : ¬ ((l.length : Int) - (used : Int) < 9) := by have := HDL.out; omega
          have hl92 : ¬ (l.length - used < 9) := by have := HDL.out; omega
          clear hr hg2 h9
          go_wp2_with fail
          refine (rfail_any base p _ _ 0 2 (w.drewN nq) ⟨HB.out, hp⟩).mono ?_
          rintro x w2 ⟨rfl, rfl⟩
          go_wp2_with fail
          go_ret
          exact ⟨rfl, by rw [HR2.out]; exact .inr ⟨by simp, nq, rfl⟩⟩
        · by_cases h9m : 9 ≤ m.length
          · have hr : R = (0, 0, 2) := by
              rw [hg2, hm, List.drop_length, numGo, if_pos (by omega)]
            have HR2 := Lib.hid hr
            have hl92 : ¬ (l.length - used < 9) := by have := HDL.out; omega
            clear hr hg2 hm
            go_wp2_with fail
            refine (rfail_any base p _ _ 0 2 (w.drewN nq) ⟨HB.out, hp⟩).mono ?_
            rintro x w2 ⟨rfl, rfl⟩
            go_wp2_with fail
            go_ret
            exact ⟨rfl, by rw [HR2.out]; exact .inr ⟨by simp, nq, rfl⟩⟩
          · have hr : R = (0, 0, 3) := by
              rw [hg2, hm, List.drop_length, numGo, if_neg (by omega)]
            have HR2 := Lib.hid hr
            have hl92 : l.length - used < 9 := by have := HDL.out; omega
            clear hr hg2 hm
            go_wp2_with fail
            refine (rfail_any base p _ _ 0 3 (w.drewN nq) ⟨HB.out, hp⟩).mono ?_
            rintro x w2 ⟨rfl, rfl⟩
            go_wp2_with fail
            go_ret
            exact ⟨rfl, by rw [HR2.out]; exact .inr ⟨by simp, nq, rfl⟩⟩
end Go.Proofs.Ythoheikbpihflaa
namespace Go.Proofs.Ythoheikbpihflaa
open Go.RowKit

set_option maxRecDepth 100000 in
theorem Below.drewN' {B : Nat} {w w' : World} (h : Below B w w') (n : Nat) : Below B w (w'.drewN n) := ⟨h.os, h.tape, h.output, h.size, h.block⟩
set_option maxRecDepth 100000 in
/-- what is kept behind the reading of a number into a block of one cell -/
theorem NumW.kept {w w' : World} {base p q used : Nat} {v : Value} {t : TypeId} {cs : List Value} {r : Nat × Nat × Nat} {o : Nat} (hw : Rdr w base p v (used : Int) 0) (hq : Whole w q t cs) (hne : q ≠ p) (hbq : base ≤ q) (h : NumW p q o used r w w') :
    Below base w w' ∧ ((r.2.2 = 0 ∧ Rdr w' base p v ((used + r.2.1 : Nat) : Int) 0 ∧ Whole w' q t (cs.set o (.int .i64 (r.1 : Int)))) ∨ (r.2.2 ≠ 0 ∧ Rdr w' base p v 0 (r.2.2 : Int) ∧ Whole w' q t cs)) := by
  rcases h with ⟨h0, k, rfl⟩ | ⟨h0, k, rfl⟩
  · refine ⟨Below.drewN' (((Below.refl _ _).setCell (p := ⟨q, o, none⟩) hbq _).setCell (p := ⟨p, 1, none⟩) hw.2 _) k, .inl ⟨h0, ⟨?_, hw.2⟩, ?_⟩⟩
    · exact ((hw.1.away (p := ⟨q, o, none⟩) (Ne.symm hne) _).put 1 _)
    · exact (hq.put o _).away (p := ⟨p, 1, none⟩) hne _
  · refine ⟨Below.drewN' (((Below.refl _ _).setCell (p := ⟨p, 1, none⟩) hw.2 _).setCell (p := ⟨p, 2, none⟩) hw.2 _) k, .inr ⟨h0, ⟨(hw.1.put 1 _).put 2 _, hw.2⟩, ?_⟩⟩
    exact (hq.away (p := ⟨p, 1, none⟩) hne _).away (p := ⟨p, 2, none⟩) hne _
set_option maxRecDepth 100000 in
theorem NumW.first {w w' : World} {base p q : Nat} {v : Value} {t : TypeId} {l : List UInt8} (hw : Rdr w base p v 0 0) (hq : Whole w q t [.int .i64 0]) (hne : q ≠ p) (hbq : base ≤ q) (h : NumW p q 0 0 (numAns l) w w') :
    Below base w w' ∧ Rdr w' base p v ((numAns l).2.1 : Int) ((numAns l).2.2 : Int) ∧ Whole w' q t [.int .i64 ((numAns l).1 : Int)] := by
  obtain ⟨hb, h⟩ := NumW.kept (used := 0) hw hq hne hbq h
  refine ⟨hb, ?_⟩
  rcases h with ⟨h0, h1, h2⟩ | ⟨h0, h1, h2⟩
  · rw [h0]; rw [Nat.zero_add] at h1; exact ⟨h1, h2⟩
  · rcases numAns_err l with h | h | h
    · exact absurd h h0
    · rw [h] at h1 ⊢; exact ⟨h1, h2⟩
    · rw [h] at h1 ⊢; exact ⟨h1, h2⟩

/-- two blocks stand as they are -/
def Both (q : Nat) (t : TypeId) (cq : List Value) (p : Nat) (tp : TypeId) (cp : List Value) (w0 : World) (B : Nat) (W : World) : Prop := Whole W q t cq ∧ Whole W p tp cp ∧ Below B w0 W

set_option maxHeartbeats 4000000 in
set_option maxRecDepth 100000 in
theorem num_any (l : List UInt8) (v : Value) (w : World) (hv : RdB w w.heap.size v l) (hl : l.length < 4611686018427387904) :
    Calls Try.prog 48 #[v] w fun e w' => e = .returned (numVal (numAns l)) ∧ Below w.heap.size w w' := by
  obtain ⟨A, c, rfl, hc, _⟩ := hv.at
  have hrd := fun (w1 : World) (p : Nat) (h1 : Rdr w1 w.heap.size p (.slice A l.length c) 0 0) (h2 : Whole w1 w.heap.size 3 [.int .i64 0]) (h3 : w.heap.size ≠ p) (h4 : Below w.heap.size w w1) =>
    rdnum_any w.heap.size p l A c 0 w.heap.size 0 (.int .i64 0) w1 h1 (hv.below h4 (Nat.le_refl _)) (Nat.zero_le _) hl (h2.cell 0 _ rfl) (h2.frozen 0) h3 (Nat.le_refl _)
  obtain ⟨R, hR⟩ : ∃ R, R = numAns l := ⟨_, rfl⟩
  have hk := fun (w1 w2 : World) (p : Nat) (h1 : Rdr w1 w.heap.size p (.slice A l.length c) 0 0) (h2 : Whole w1 w.heap.size 3 [.int .i64 0]) (h3 : w.heap.size ≠ p) (h : NumW p w.heap.size 0 0 (numAns l) w1 w2) => NumW.first h1 h2 h3 (Nat.le_refl _) h
  simp only [List.drop_zero] at hrd
  rw [← hR] at hrd hk ⊢
  have HRD := Lib.hid hrd
  have HK := Lib.hid hk
  clear hrd hk hR hv
  go_enter Try.func48, Try.ntmps48
  go_wp2_with fail
  refine (from_any _ _ A l.length c rfl).mono ?_
  rintro e w1 ⟨p, rfl, hr1, hb1, hp⟩
  have hw1 : Whole w1 w.heap.size 3 [.int .i64 0] := (Whole.fresh w 3 [.int .i64 0]).below hb1 (by simp)
  have hne : w.heap.size ≠ p := by rw [hp]; simp
  have hr2 : Rdr w1 w.heap.size p (.slice A l.length c) 0 0 := ⟨hr1.1, by rw [hp]; simp⟩
  have hb2 : Below w.heap.size w w1 := ((Below.refl _ _).alloc (Nat.le_refl _) _).trans (hb1.mono (by simp))
  have HC := Lib.hid (HRD.out w1 p hr2 hw1 hne hb2)
  have HK2 := Lib.hid (fun w2 => HK.out w1 w2 p hr2 hw1 hne)
  have HB2 := Lib.hid hb2
  have HP := Lib.hid hp
  have HNE := Lib.hid hne
  clear hw1 hr1 hr2 hb1 hb2 hp hne
  go_wp2_with fail
  refine HC.out.mono ?_
  rintro e w2 ⟨rfl, hn⟩
  obtain ⟨hb3, hr3, hq3⟩ := HK2.out w2 hn
  have hB3 := HB2.out.trans hb3
  clear hn hb3
  go_wp2_with fail
  have hS : Both w.heap.size 3 [.int .i64 (R.1 : Int)] p 117 [.slice A l.length c, .int .i64 (R.2.1 : Int), .int .i64 (R.2.2 : Int)] w w.heap.size w2.drew := ⟨hq3, hr3.1, hB3.drew⟩
  refine wp_region_plan (S := Both w.heap.size 3 [.int .i64 (R.1 : Int)] p 117 [.slice A l.length c, .int .i64 (R.2.1 : Int), .int .i64 (R.2.2 : Int)] w w.heap.size) [(true, 0), (true, 1), (true, 2), (true, 3), (true, 4), (true, 5), (true, 6), (true, 7), (true, 8), (false, 9), (true, 10), (true, 11)] (by kernel_rfl) (by kernel_rfl) (fun _ _ d _ _ h => by cases d <;> exact h) hS ?_
  clear hq3 hr3 hB3
  generalize w2.drew = w3 at hS ⊢
  have HS := Lib.hid hS; clear hS
  repeat (refine Plan.take (v := ?_) rfl rfl ?_ ?_; rotate_left; (focus (intro W hW; have k0 := hW.1.cell 0 _ rfl; have k1 := hW.2.1.cell 1 _ rfl; have k2 := hW.2.1.cell 2 _ rfl; go_simp; (try with_reducible rfl); done)); (try simp only [Act.put, List.setIfInBounds_toArray, List.set_cons_zero, List.set_cons_succ]))
  have k0 := HS.out.1.cell 0 _ rfl
  have f0 := HS.out.1.frozen 0
  refine Plan.step rfl rfl (fun Kk hK => ?_)
  go_simp
  have hS2 : Both w.heap.size 3 [.int .i64 (R.1 : Int)] p 117 [.slice A l.length c, .int .i64 (R.2.1 : Int), .int .i64 (R.2.2 : Int)] w w.heap.size (w3.setCell ⟨w.heap.size, 0, none⟩ (.int .i64 (R.1 : Int))) := ⟨HS.out.1.put 0 _, HS.out.2.1.away (p := ⟨w.heap.size, 0, none⟩) (Ne.symm HNE.out) _, HS.out.2.2.setCell (Nat.le_refl _) _⟩
  refine hK.out _ _ hS2 ?_
  clear hK Kk k0 f0 HS
  generalize w3.setCell ⟨w.heap.size, 0, none⟩ (.int .i64 (R.1 : Int)) = w4 at hS2 ⊢
  have HS := Lib.hid hS2; clear hS2
  (try simp only [Act.put, List.setIfInBounds_toArray, List.set_cons_zero, List.set_cons_succ])
  repeat (refine Plan.take (v := ?_) rfl rfl ?_ ?_; rotate_left; (focus (intro W hW; go_simp; (try with_reducible rfl); done)); (try simp only [Act.put, List.setIfInBounds_toArray, List.set_cons_zero, List.set_cons_succ]))
  simp only [Plan]
  have k0 := HS.out.1.cell 0 _ rfl
  go_wp2_with fail
  exact bodyPost_ret (v := numVal R) (by simp [results, Try.results48, go_sem, k0, numVal]) rfl ⟨rfl, HS.out.2.2⟩
end Go.Proofs.Ythoheikbpihflaa
namespace Go.Proofs.Ythoheikbpihflaa
open Go.RowKit

set_option maxRecDepth 100000 in
theorem NumW.away {w w' : World} {p q used s : Nat} {t : TypeId} {cs : List Value} {r : Nat × Nat × Nat} {o : Nat} (hs : Whole w s t cs) (h1 : s ≠ p) (h2 : s ≠ q) (h : NumW p q o used r w w') : Whole w' s t cs := by
  rcases h with ⟨_, k, rfl⟩ | ⟨_, k, rfl⟩
  · exact (hs.away (p := ⟨q, o, none⟩) h2 _).away (p := ⟨p, 1, none⟩) h1 _
  · exact (hs.away (p := ⟨p, 1, none⟩) h1 _).away (p := ⟨p, 2, none⟩) h1 _

/-- two blocks stand as they are, and a third one stands -/
def Three (q : Nat) (t : TypeId) (cq : List Value) (p : Nat) (tp : TypeId) (cp : List Value) (s : Nat) (ts : TypeId) (w0 : World) (B : Nat) (W : World) : Prop :=
  Whole W q t cq ∧ Whole W p tp cp ∧ (∃ z, Whole W s ts [z]) ∧ Below B w0 W
set_option maxRecDepth 100000 in
theorem Three.drew {q p s : Nat} {t tp ts : TypeId} {cq cp : List Value} {w0 W : World} {B : Nat} (h : Three q t cq p tp cp s ts w0 B W) : Three q t cq p tp cp s ts w0 B W.drew := ⟨h.1, h.2.1, h.2.2.1, h.2.2.2.drew⟩

set_option maxHeartbeats 8000000 in
set_option maxRecDepth 100000 in
theorem rdtext_any (base p s : Nat) (l : List UInt8) (A : Option Addr) (c : Nat) (w : World) (hw : Rdr w base p (.slice A l.length c) 0 0) (hv : RdB w base (.slice A l.length c) l) (hl : l.length < 4611686018427387904)
    (hs : Whole w s 9 [.string ⟨#[]⟩]) (hsp : s ≠ p) (hbs : base ≤ s) (hbw : base ≤ w.heap.size) :
    Calls Try.prog 59 #[.pointer (some ⟨p, 0, none⟩), .pointer (some ⟨s, 0, none⟩)] w fun x w' => x = .returned (.pointer (some ⟨p, 0, none⟩)) ∧
      Rdr w' base p (.slice A l.length c) ((textAns l).2.1 : Int) ((textAns l).2.2 : Int) ∧ Whole w' s 9 [.string (strB (textAns l).1)] ∧ Below base w w' := by
  have hps := hw.1.size
  have hss := hs.size
  have hnum := fun (w1 : World) (h1 : Rdr w1 base p (.slice A l.length c) 0 0) (h2 : Whole w1 w.heap.size 3 [.int .i64 0]) (h3 : Below base w w1) =>
    rdnum_any base p l A c 0 w.heap.size 0 (.int .i64 0) w1 h1 (hv.below h3 (Nat.le_refl _)) (Nat.zero_le _) hl (h2.cell 0 _ rfl) (h2.frozen 0) (by omega) hbw
  have hk := fun (w1 w2 : World) (h1 : Rdr w1 base p (.slice A l.length c) 0 0) (h2 : Whole w1 w.heap.size 3 [.int .i64 0]) (h3 : Whole w1 s 9 [.string ⟨#[]⟩]) (h : NumW p w.heap.size 0 0 (numAns l) w1 w2) => And.intro (NumW.away h3 hsp (by omega) h) (NumW.first h1 h2 (by omega) hbw h)
  simp only [List.drop_zero] at hnum
  have hpq : p ≠ w.heap.size := by omega
  have hsq : s ≠ w.heap.size := by omega
  obtain ⟨g, hg⟩ : ∃ g, g = w.heap.size := ⟨_, rfl⟩
  obtain ⟨R, hR⟩ : ∃ R, R = textAns l := ⟨_, rfl⟩
  rw [← hR]
  have herr := numAns_err l
  have honce := fun (m u : Nat) (h : numAns l = (m, u, 0)) => numAns_once h
  unfold textAns at hR
  generalize numAns l = x at hnum hR herr honce hk
  obtain ⟨n, u, e⟩ := x
  simp only at hR herr hk
  obtain ⟨hwr, hbp⟩ := hw
  have HNUM := Lib.hid hnum
  have HK := Lib.hid hk
  have HWR := Lib.hid hwr
  have HS := Lib.hid hs
  have HV := Lib.hid hv
  have HERR := Lib.hid herr
  have HONCE := Lib.hid honce
  have HR := Lib.hid hR
  have HSP := Lib.hid hsp
  have HPQ := Lib.hid hpq
  have HSQ := Lib.hid hsq
  have HG := Lib.hid hg
  clear hnum hk hwr hs hv herr honce hR hg hsp hpq hsq
  go_enter Try.func59, Try.ntmps59
  go_wp2_with fail
  refine (HNUM.out _ ⟨HWR.out.alloc _, hbp⟩ (Whole.fresh w 3 [.int .i64 0]) ((Below.refl _ _).alloc hbw _)).mono ?_
  rintro x w2 ⟨rfl, hn⟩
  obtain ⟨hs2, hb2, ⟨hr2, _⟩, hq2⟩ := HK.out _ w2 ⟨HWR.out.alloc _, hbp⟩ (Whole.fresh w 3 [.int .i64 0]) (HS.out.alloc _) hn
  have hB2 : Below base w w2 := ((Below.refl _ _).alloc hbw _).trans hb2
  clear hn hb2
  rw [← HG.out] at hq2
  have HS2 := Lib.hid hs2
  have HB2 := Lib.hid hB2
  have HR2 := Lib.hid hr2
  have HQ2 := Lib.hid hq2
  have k0 := hr2.cell 0 _ rfl
  have k1 := hr2.cell 1 _ rfl
  have k2 := hr2.cell 2 _ rfl
  have q0 := hq2.cell 0 _ rfl
  clear hs2 hB2 hr2 hq2
  rw [HG.out] at q0
  by_cases he : e = 0
  · subst he
    have hR := HR.out
    rw [if_neg (by omega)] at hR
    by_cases hbig : n > 65536
    · rw [if_pos hbig] at hR
      have HRR := Lib.hid hR
      clear hR
      have hb : (65536 : Int) < (n : Int) := by omega
      go_wp2_with fail
      refine (rfail_any base p _ _ _ 6 w2 ⟨HR2.out, hbp⟩).mono ?_
      rintro x w3 ⟨rfl, rfl⟩
      go_wp2_with fail
      go_ret
      exact ⟨rfl, by rw [HRR.out]; exact Rdr.failed 6 ⟨HR2.out, hbp⟩, by rw [HRR.out]; exact (HS2.out.away (p := ⟨p, 1, none⟩) HSP.out _).away (p := ⟨p, 2, none⟩) HSP.out _, (HB2.out.setCell (p := ⟨p, 1, none⟩) hbp _).setCell (p := ⟨p, 2, none⟩) hbp _⟩
    · rw [if_neg hbig] at hR
      have hb : ¬ (65536 : Int) < (n : Int) := by omega
      obtain ⟨hu, hu9, hu1, sx, hsx⟩ := HONCE.out n u rfl
      have hlu : u ≤ l.length := by rw [hu, hsx]; simp
      clear hu hsx
      obtain ⟨A0, c0', e, hcl, hi⟩ := HV.out.at
      injection e with e1 _ e2
      subst e1 e2
      obtain ⟨b, o, hA⟩ : ∃ b o, A = some ⟨b, o, none⟩ := by obtain ⟨b, o, h, _⟩ := hi 0 (by omega); exact ⟨b, o, h⟩
      subst hA
      clear hi
      by_cases hsh : l.length - u < n
      · rw [if_pos hsh] at hR
        have HRR := Lib.hid hR
        clear hR
        have hb2 : (l.length : Int) - (u : Int) < (n : Int) := by omega
        go_wp2_with fail
        go_quiet (fail)
        go_wp2_with fail
        refine (rfail_any base p _ _ _ 3 (w2.drewN nq) ⟨HR2.out, hbp⟩).mono ?_
        rintro x w3 ⟨rfl, rfl⟩
        go_wp2_with fail
        go_ret
        exact ⟨rfl, by rw [HRR.out]; exact Rdr.failed (w := w2.drewN nq) 3 ⟨HR2.out, hbp⟩, by rw [HRR.out]; exact (Whole.away (w := w2.drewN nq) HS2.out (p := ⟨p, 1, none⟩) HSP.out _).away (p := ⟨p, 2, none⟩) HSP.out _, ((Below.drewN' HB2.out nq).setCell (p := ⟨p, 1, none⟩) hbp _).setCell (p := ⟨p, 2, none⟩) hbp _⟩
      · rw [if_neg hsh] at hR
        have HRR := Lib.hid hR
        clear hR
        have hb2 : ¬ (l.length : Int) - (u : Int) < (n : Int) := by omega
        go_wp2_with fail
        go_quiet (fail)
        go_wp2_with fail
        refine wp_region_plan (S := Three w.heap.size 3 [.int .i64 (n : Int)] p 117 [.slice (some ⟨b, o, none⟩) l.length c, .int .i64 (u : Int), .int .i64 0] s 9 w base) [(true, 0), (true, 1), (true, 2), (true, 3), (true, 4), (true, 5), (true, 6), (true, 7), (true, 8), (true, 9), (true, 10), (true, 11), (true, 12), (true, 13), (true, 14), (true, 15), (true, 16), (true, 17), (false, 18)] (by kernel_rfl) (by kernel_rfl) (fun _ _ d _ _ h => by cases d <;> exact h) ⟨by rw [← HG.out]; exact HQ2.out, HR2.out, ⟨_, HS2.out⟩, (Below.drewN' HB2.out nq).drew⟩ ?_
        have hS : Three w.heap.size 3 [.int .i64 (n : Int)] p 117 [.slice (some ⟨b, o, none⟩) l.length c, .int .i64 (u : Int), .int .i64 0] s 9 w base (w2.drewN nq).drew := ⟨by rw [← HG.out]; exact HQ2.out, HR2.out, ⟨_, HS2.out⟩, (Below.drewN' HB2.out nq).drew⟩
        clear k0 k1 k2 q0
        have hs3 : Whole (w2.drewN nq).drew s 9 [.string ⟨#[]⟩] := HS2.out
        generalize (w2.drewN nq).drew = w3 at hS hs3 ⊢
        have HZ := Lib.hid hs3; clear hs3
        have HS3 := Lib.hid hS; clear hS
        have hw : IntKind.i64.wrap ((u : Int) + (n : Int)) = (u : Int) + n := by rw [IntKind.wrap_i64]; omega
        have hn0 : (0 : Int) ≤ (u : Int) + n := by omega
        have hnt : ((u : Int) + n).toNat = u + n := by omega
        have hcn : (u : Int) + n ≤ (c : Int) := by omega
        have hHV := HV.out
        have hcv : ∀ W, Below base w W → (convert 56 9 (.slice (if c = u then some ⟨b, o, none⟩ else some ⟨b, o + u, none⟩) n (c - u))).run Try.prog W = .ok (.string (strB ((l.drop u).take n))) W := fun W hW => by
          refine run_convB (RdB.window (hHV.below hW (Nat.le_refl _)) u n (by omega) (c - u) (by omega) _ fun h => ?_)
          rw [if_neg (by omega)]
        have HCV := Lib.hid hcv; clear hcv hHV
        by_cases hcu : c = u
        · have HCV2 := HCV.out
          rw [if_pos hcu] at HCV2
          have HCV3 := Lib.hid HCV2; clear HCV2 HCV
          have hlu2 : l.length = u := by omega
          have hn00 : n = 0 := by omega
          subst hn00
          subst hcu
          subst hlu2
          have hw0 : IntKind.i64.wrap (l.length : Int) = l.length := by rw [IntKind.wrap_i64]; omega
          have HCV5 := HCV3.out
          rw [Nat.sub_self, List.take_zero] at HCV5
          clear hw hn0 hnt hcn HCV3
          have HCV3 := Lib.hid HCV5; clear HCV5
          repeat (refine Plan.take (v := ?_) rfl rfl ?_ ?_; rotate_left; (focus (intro W hW; have k0 := hW.1.cell 0 _ rfl; have k1 := hW.2.1.cell 0 _ rfl; have k2 := hW.2.1.cell 1 _ rfl; have k3 := HCV3.out W hW.2.2.2; go_simp; (try with_reducible rfl); done)); (try simp only [Act.put, List.setIfInBounds_toArray, List.set_cons_zero, List.set_cons_succ]))
          have z0 := HZ.out.cell 0 _ rfl
          have y0 := HZ.out.frozen 0
          refine Plan.step rfl rfl (fun Kk hK => ?_)
          go_simp
          obtain ⟨txt, htxt⟩ : ∃ txt, txt = strB [] := ⟨_, rfl⟩
          rw [← htxt]
          have hS4 : Three w.heap.size 3 [.int .i64 ((0 : Nat) : Int)] p 117 [.slice (some ⟨b, o, none⟩) l.length l.length, .int .i64 (l.length : Int), .int .i64 0] s 9 w base (w3.setCell ⟨s, 0, none⟩ (.string txt)) := ⟨HS3.out.1.away (p := ⟨s, 0, none⟩) (Ne.symm HSQ.out) _, HS3.out.2.1.away (p := ⟨s, 0, none⟩) (Ne.symm HSP.out) _, ⟨_, HZ.out.put 0 _⟩, HS3.out.2.2.2.setCell (p := ⟨s, 0, none⟩) hbs _⟩
          have hs4 : Whole (w3.setCell ⟨s, 0, none⟩ (.string txt)) s 9 [.string txt] := HZ.out.put 0 _
          refine hK.out _ _ hS4 ?_
          clear hK Kk z0 y0 HS3 HZ HCV3
          generalize w3.setCell ⟨s, 0, none⟩ (.string txt) = w4 at hS4 hs4 ⊢
          have HS4 := Lib.hid hS4; clear hS4
          have HZ4 := Lib.hid hs4; clear hs4
          simp only [Plan]
          go_wp2_with fail
          have p1 := HS4.out.2.1.cell 1 _ rfl
          have p1f := HS4.out.2.1.frozen 1
          have q0 := HS4.out.1.cell 0 _ rfl
          go_still_tail 8, (by kernel_rfl)
          have hz5 : Whole w4.drew s 9 [.string txt] := HZ4.out
          have hs5 := HS4.out.drew
          change wpList _ _ _ _ _ w4.drew
          clear p1 p1f q0 HS4 HZ4
          generalize w4.drew = w5 at hz5 hs5 ⊢
          have p1 := hs5.2.1.cell 1 _ rfl
          have p1f := hs5.2.1.frozen 1
          have HS5 := Lib.hid hs5
          have HZ5 := Lib.hid hz5
          have HTXT := Lib.hid htxt
          clear hs5 hz5 htxt
          go_wp2_with fail
          go_ret
          exact ⟨rfl, by rw [HRR.out]; exact ⟨HS5.out.2.1.put 1 _, hbp⟩, by rw [HRR.out]; simp only [List.take_zero]; rw [← HTXT.out]; exact HZ5.out.away (p := ⟨p, 1, none⟩) HSP.out _, HS5.out.2.2.2.setCell (p := ⟨p, 1, none⟩) hbp _⟩
        · have HCV2 := HCV.out
          rw [if_neg hcu] at HCV2
          have HCV3 := Lib.hid HCV2; clear HCV2 HCV
          repeat (refine Plan.take (v := ?_) rfl rfl ?_ ?_; rotate_left; (focus (intro W hW; have k0 := hW.1.cell 0 _ rfl; have k1 := hW.2.1.cell 0 _ rfl; have k2 := hW.2.1.cell 1 _ rfl; have k3 := HCV3.out W hW.2.2.2; go_simp; (try with_reducible rfl); done)); (try simp only [Act.put, List.setIfInBounds_toArray, List.set_cons_zero, List.set_cons_succ]))
          have z0 := HZ.out.cell 0 _ rfl
          have y0 := HZ.out.frozen 0
          refine Plan.step rfl rfl (fun Kk hK => ?_)
          go_simp
          obtain ⟨txt, htxt⟩ : ∃ txt, txt = strB ((l.drop u).take n) := ⟨_, rfl⟩
          rw [← htxt]
          have hS4 : Three w.heap.size 3 [.int .i64 (n : Int)] p 117 [.slice (some ⟨b, o, none⟩) l.length c, .int .i64 (u : Int), .int .i64 0] s 9 w base (w3.setCell ⟨s, 0, none⟩ (.string txt)) := ⟨HS3.out.1.away (p := ⟨s, 0, none⟩) (Ne.symm HSQ.out) _, HS3.out.2.1.away (p := ⟨s, 0, none⟩) (Ne.symm HSP.out) _, ⟨_, HZ.out.put 0 _⟩, HS3.out.2.2.2.setCell (p := ⟨s, 0, none⟩) hbs _⟩
          have hs4 : Whole (w3.setCell ⟨s, 0, none⟩ (.string txt)) s 9 [.string txt] := HZ.out.put 0 _
          refine hK.out _ _ hS4 ?_
          clear hK Kk z0 y0 HS3 HZ HCV3
          generalize w3.setCell ⟨s, 0, none⟩ (.string txt) = w4 at hS4 hs4 ⊢
          have HS4 := Lib.hid hS4; clear hS4
          have HZ4 := Lib.hid hs4; clear hs4
          simp only [Plan]
          go_wp2_with fail
          have p1 := HS4.out.2.1.cell 1 _ rfl
          have p1f := HS4.out.2.1.frozen 1
          have q0 := HS4.out.1.cell 0 _ rfl
          go_still_tail 8, (by kernel_rfl)
          have hz5 : Whole w4.drew s 9 [.string txt] := HZ4.out
          have hs5 := HS4.out.drew
          change wpList _ _ _ _ _ w4.drew
          clear p1 p1f q0 HS4 HZ4
          generalize w4.drew = w5 at hz5 hs5 ⊢
          have p1 := hs5.2.1.cell 1 _ rfl
          have p1f := hs5.2.1.frozen 1
          have HS5 := Lib.hid hs5
          have HZ5 := Lib.hid hz5
          have HTXT := Lib.hid htxt
          clear hs5 hz5 htxt
          go_wp2_with fail
          go_ret
          exact ⟨rfl, by rw [HRR.out]; exact ⟨HS5.out.2.1.put 1 _, hbp⟩, by rw [HRR.out]; simp only; rw [← HTXT.out]; exact HZ5.out.away (p := ⟨p, 1, none⟩) HSP.out _, HS5.out.2.2.2.setCell (p := ⟨p, 1, none⟩) hbp _⟩
  · rcases HERR.out with h | h | h
    · exact absurd h he
    all_goals
      simp only [Prod.mk.injEq] at h
      obtain ⟨rfl, rfl, rfl⟩ := h
      have hR := HR.out
      rw [if_pos (by decide)] at hR
      have HRR := Lib.hid hR
      clear hR
      go_wp2_with fail
      go_ret
      exact ⟨rfl, by rw [HRR.out]; exact ⟨HR2.out, hbp⟩, by rw [HRR.out]; exact HS2.out, HB2.out⟩

set_option maxHeartbeats 4000000 in
set_option maxRecDepth 100000 in
theorem text_any (l : List UInt8) (v : Value) (w : World) (hv : RdB w w.heap.size v l) (hl : l.length < 4611686018427387904) :
    Calls Try.prog 45 #[v] w fun e w' => e = .returned (textVal (textAns l)) ∧ Below w.heap.size w w' := by
  obtain ⟨A, c, rfl, hc, _⟩ := hv.at
  have hrd := fun (w1 : World) (p : Nat) (h1 : Rdr w1 w.heap.size p (.slice A l.length c) 0 0) (h2 : Whole w1 w.heap.size 9 [.string ⟨#[]⟩]) (h3 : w.heap.size ≠ p) (h4 : Below w.heap.size w w1) (h5 : w.heap.size ≤ w1.heap.size) =>
    rdtext_any w.heap.size p w.heap.size l A c w1 h1 (hv.below h4 (Nat.le_refl _)) hl h2 h3 (Nat.le_refl _) h5
  obtain ⟨R, hR⟩ : ∃ R, R = textAns l := ⟨_, rfl⟩
  rw [← hR] at hrd ⊢
  have HRD := Lib.hid hrd
  clear hrd hR hv
  go_enter Try.func45, Try.ntmps45
  go_wp2_with fail
  refine (from_any _ _ A l.length c rfl).mono ?_
  rintro e w1 ⟨p, rfl, hr1, hb1, hp⟩
  have hw1 : Whole w1 w.heap.size 9 [.string ⟨#[]⟩] := (Whole.fresh w 9 [.string ⟨#[]⟩]).below hb1 (by simp)
  have hne : w.heap.size ≠ p := by rw [hp]; simp
  have hr2 : Rdr w1 w.heap.size p (.slice A l.length c) 0 0 := ⟨hr1.1, by rw [hp]; simp⟩
  have hb2 : Below w.heap.size w w1 := ((Below.refl _ _).alloc (Nat.le_refl _) _).trans (hb1.mono (by simp))
  have HC := Lib.hid (HRD.out w1 p hr2 hw1 hne hb2 hb2.size)
  have HB2 := Lib.hid hb2
  have HP := Lib.hid hp
  have HNE := Lib.hid hne
  clear hw1 hr1 hr2 hb1 hb2 hp hne
  go_wp2_with fail
  refine HC.out.mono ?_
  rintro e w2 ⟨rfl, hr3, hq3, hb3⟩
  have hB3 := HB2.out.trans hb3
  clear hb3
  go_wp2_with fail
  obtain ⟨txt, htxt⟩ : ∃ txt, txt = strB R.1 := ⟨_, rfl⟩
  rw [← htxt] at hq3
  have HTXT := Lib.hid htxt
  clear htxt
  have hS : Both w.heap.size 9 [.string txt] p 117 [.slice A l.length c, .int .i64 (R.2.1 : Int), .int .i64 (R.2.2 : Int)] w w.heap.size w2.drew := ⟨hq3, hr3.1, hB3.drew⟩
  refine wp_region_plan (S := Both w.heap.size 9 [.string txt] p 117 [.slice A l.length c, .int .i64 (R.2.1 : Int), .int .i64 (R.2.2 : Int)] w w.heap.size) [(true, 0), (true, 1), (true, 2), (true, 3), (true, 4), (true, 5), (true, 6), (true, 7), (true, 8), (false, 9), (true, 10), (true, 11)] (by kernel_rfl) (by kernel_rfl) (fun _ _ d _ _ h => by cases d <;> exact h) hS ?_
  clear hq3 hr3 hB3
  generalize w2.drew = w3 at hS ⊢
  have HS := Lib.hid hS; clear hS
  repeat (refine Plan.take (v := ?_) rfl rfl ?_ ?_; rotate_left; (focus (intro W hW; have k0 := hW.1.cell 0 _ rfl; have k1 := hW.2.1.cell 1 _ rfl; have k2 := hW.2.1.cell 2 _ rfl; go_simp; (try with_reducible rfl); done)); (try simp only [Act.put, List.setIfInBounds_toArray, List.set_cons_zero, List.set_cons_succ]))
  have k0 := HS.out.1.cell 0 _ rfl
  have f0 := HS.out.1.frozen 0
  refine Plan.step rfl rfl (fun Kk hK => ?_)
  go_simp
  have hS2 : Both w.heap.size 9 [.string txt] p 117 [.slice A l.length c, .int .i64 (R.2.1 : Int), .int .i64 (R.2.2 : Int)] w w.heap.size (w3.setCell ⟨w.heap.size, 0, none⟩ (.string txt)) := ⟨HS.out.1.put 0 _, HS.out.2.1.away (p := ⟨w.heap.size, 0, none⟩) (Ne.symm HNE.out) _, HS.out.2.2.setCell (Nat.le_refl _) _⟩
  refine hK.out _ _ hS2 ?_
  clear hK Kk k0 f0 HS
  generalize w3.setCell ⟨w.heap.size, 0, none⟩ (.string txt) = w4 at hS2 ⊢
  have HS := Lib.hid hS2; clear hS2
  (try simp only [Act.put, List.setIfInBounds_toArray, List.set_cons_zero, List.set_cons_succ])
  repeat (refine Plan.take (v := ?_) rfl rfl ?_ ?_; rotate_left; (focus (intro W hW; go_simp; (try with_reducible rfl); done)); (try simp only [Act.put, List.setIfInBounds_toArray, List.set_cons_zero, List.set_cons_succ]))
  simp only [Plan]
  have k0 := HS.out.1.cell 0 _ rfl
  go_wp2_with fail
  exact bodyPost_ret (v := textVal R) (by simp [results, Try.results45, go_sem, k0, textVal, HTXT.out]) rfl ⟨rfl, HS.out.2.2⟩
end Go.Proofs.Ythoheikbpihflaa

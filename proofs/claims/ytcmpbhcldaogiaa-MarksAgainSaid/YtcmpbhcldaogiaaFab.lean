/- What the reference's Span, All and Sound answer. A region whose operations may come in more than one order, walked along a tree of orders that is laid down beforehand. Transactions: what is known of them, and whether the reference finds them sound (for seats that have no more of frame). When keys were written last, as a state: pure. Marks as a state: what each call answers; pure. What the reference's Spans answers (for seats without pairs). (For seats without bytes; others have it in Hold.) What moves and what stays. What a slice reads as, and which blocks it does not lie in: for whatever element type. Slices of ints: read, owned, appended to; those that came in. The reference's Marks as a state of the heap; New, Forget, left. Moves inside the row of a slice of pairs, as steps of a walk; what is left of the row. What the small functions of the span layer answer: contracts, each for every argument and every world. An append to a slice of the call's own that says of its block: the old one or a new one. -/
import Derived.Test.YtcmpbhcldaogiaaFaa
namespace Go.Proofs.Ytcmpbhcldaogiaa
open Go.RowKit
attribute [local go_sem] less_eq same_eq le_eq ge_eq gt_eq

def smallC (c : Chg) : Prop := c.key.size < 4611686018427387904 ∧ c.val.size < 4611686018427387904
/-- the first error -/
def allAns : List Chg → Int
  | [] => 0
  | c :: r => if checkAns c = 0 then allAns r else checkAns c

set_option maxHeartbeats 1000000 in
set_option maxRecDepth 100000 in
theorem rall_any (l : List Chg) (hs : ∀ c ∈ l, smallC c) (v : Value) (w : World) (hv : RdC w w.heap.size v l) (hl : l.length < 4611686018427387904) :
    Calls Try.prog 15 #[v] w fun e w' => e = .returned (.int .i64 (allAns l)) ∧ Below w.heap.size w w' := by
  obtain ⟨A, c, rfl, hc, hi⟩ := hv.at
  obtain ⟨R, hR⟩ : ∃ R, R = allAns l := ⟨_, rfl⟩
  rw [← hR]
  have HR := Lib.hid hR; clear hR
  have HI := Lib.hid hi; clear hi
  have HS := Lib.hid hs; clear hs
  clear hv
  obtain ⟨g, hg⟩ : ∃ g, g = w.heap.size := ⟨_, rfl⟩
  have HG := Lib.hid hg; clear hg
  go_enter Try.func15, Try.ntmps15
  go_wp2_with fail
  go_loopw [3] (fun iv wr => ∃ i : Nat, i ≤ l.length ∧ iv = .int .i64 i ∧ Below g w wr ∧ R = allAns (l.drop i)) (fun iv _ => l.length - (intOf iv).toNat)
  case atStart => exact ⟨0, Nat.zero_le _, rfl, Below.refl _ _, HR.out⟩
  case round =>
    obtain ⟨i, hil, rfl, hbw, he⟩ := hrel
    have HBW := Lib.hid hbw; clear hbw
    have HE := Lib.hid he; clear he
    by_cases hlt : i < l.length
    · obtain ⟨b, o, rfl, hbB, k0, k1, k2⟩ := HI.out i hlt
      have hsm := HS.out l[i] (List.getElem_mem hlt)
      have hd := HE.out
      rw [List.drop_eq_getElem_cons hlt, allAns] at hd
      rw [← HBW.out.cell (p := ⟨b, o + i * 3, none⟩) (by rw [HG.out]; exact hbB)] at k0
      rw [← HBW.out.cell (p := ⟨b, o + i * 3 + 1, none⟩) (by rw [HG.out]; exact hbB)] at k1
      rw [← HBW.out.cell (p := ⟨b, o + i * 3 + 2, none⟩) (by rw [HG.out]; exact hbB)] at k2
      generalize l[i] = z at k0 k1 k2 hsm hd
      have hck := rcheck_any z wr (by have := hsm.1; omega) (by have := hsm.2; omega)
      unfold cval at hck
      generalize checkAns z = q at hck hd
      obtain ⟨kz, xz, yz⟩ := z
      simp only at k0 k1 k2 hck
      have HD := Lib.hid hd
      have HK := Lib.hid hck
      clear hd hck hsm
      go_wp2_with fail
      refine HK.out.mono ?_
      rintro e w2 ⟨rfl, hb2⟩
      have HW2 := Lib.hid (show Below g w w2 from HBW.out.trans (hb2.mono (by rw [HG.out]; exact HBW.out.size)))
      clear hb2 k0 k1 k2
      by_cases hq : q = 0
      · subst hq
        have hd := HD.out
        rw [if_pos rfl] at hd
        have HD2 := Lib.hid hd; clear hd
        go_wp2_with fail
        go_roundw
        case rel => exact ⟨i + 1, by omega, by go_num, HW2.out, HD2.out⟩
        case measure => simp [intOf]; omega
      · have hd := HD.out
        rw [if_neg hq] at hd
        have HD2 := Lib.hid hd; clear hd
        go_wp2_with fail
        go_ret
        exact ⟨by rw [HD2.out]; rfl, by have h := HW2.out; rwa [HG.out] at h⟩
    · have hd := HE.out
      rw [List.drop_eq_nil_of_le (by omega), allAns] at hd
      have HD := Lib.hid hd; clear hd
      go_wp2_with fail
      go_ret
      exact ⟨by rw [HD.out]; rfl, by have h := HBW.out; rwa [HG.out] at h⟩
end Go.Proofs.Ytcmpbhcldaogiaa
namespace Go.Proofs.Ytcmpbhcldaogiaa
open Go.RowKit

/-- take i: number i yields the same whenever it comes up; step i: it comes up alone; fork: one of two comes up -/
inductive PT
  | done
  | take (i : Nat) (n : PT)
  | step (i : Nat) (n : PT)
  | fork (i : Nat) (n : PT) (j : Nat) (m : PT)
  | fork3 (i : Nat) (n : PT) (j : Nat) (m : PT) (k : Nat) (q : PT)
def PT.depth : PT → Nat
  | .done => 0
  | .take _ n => n.depth + 1
  | .step _ n => n.depth + 1
  | .fork _ n _ m => max n.depth m.depth + 1
  | .fork3 _ n _ m _ q => max n.depth (max m.depth q.depth) + 1
def ptOk (ops : Array Oper) : PT → Array Bool → Bool
  | .done, listed => (Region.ready .any ops listed).isEmpty
  | .take i n, listed => Region.free .any ops listed i && (Region.ready .any ops listed).contains i && ptOk ops n (listed.setIfInBounds i true)
  | .step i n, listed => Region.ready .any ops listed == [i] && ptOk ops n (listed.setIfInBounds i true)
  | .fork i n j m, listed => Region.ready .any ops listed == [i, j] && (ptOk ops n (listed.setIfInBounds i true) && ptOk ops m (listed.setIfInBounds j true))
  | .fork3 i n j m k q, listed => Region.ready .any ops listed == [i, j, k] && (ptOk ops n (listed.setIfInBounds i true) && (ptOk ops m (listed.setIfInBounds j true) && ptOk ops q (listed.setIfInBounds k true)))
section
variable {P : Program} {ops : Array Oper} {Q : Exit → Act → World → Prop} {S : World → Prop}
def PlanT (P : Program) (ops : Array Oper) (S : World → Prop) (Q : Exit → Act → World → Prop) : PT → Act → World → Prop
  | .done, a, w => Q .normal a w
  | .take i n, a, w => ∃ o v, ops[i]? = some o ∧ YieldsIf P ops S o v a ∧ PlanT P ops S Q n (a.put o.dst v) w
  | .step i n, a, w => wpOp P ops Q i (fun a' w' => S w' ∧ PlanT P ops S Q n a' w') a w
  | .fork i n j m, a, w => wpOp P ops Q i (fun a' w' => S w' ∧ PlanT P ops S Q n a' w') a w ∧ wpOp P ops Q j (fun a' w' => S w' ∧ PlanT P ops S Q m a' w') a w
  | .fork3 i n j m k q, a, w => wpOp P ops Q i (fun a' w' => S w' ∧ PlanT P ops S Q n a' w') a w ∧ wpOp P ops Q j (fun a' w' => S w' ∧ PlanT P ops S Q m a' w') a w ∧ wpOp P ops Q k (fun a' w' => S w' ∧ PlanT P ops S Q q a' w') a w

theorem PlanT.any (hs : Region.noSelect ops = true) (hQ : ∀ c a d v w, Q (.panic c) (Act.put a d v) w → Q (.panic c) a w) : ∀ (plan : PT) (fuel : Nat) (listed : Array Bool) (a : Act) (w : World),
    plan.depth ≤ fuel → ptOk ops plan listed = true → S w → PlanT P ops S Q plan a w → wpAnyH P .any ops Q S fuel listed a w
  | .done, fuel, listed, a, w, _, hp, _, h => wpAnyH_done (by simpa [ptOk] using hp) h fuel
  | .take i r, fuel + 1, listed, a, w, hf, hp, hS, h => by
    obtain ⟨o, v, ho, hy, hr⟩ := h
    simp only [ptOk, Bool.and_eq_true] at hp
    exact wpAnyH_take ho hs hp.1.1 hp.1.2 (fun c a w => hQ c a _ _ w) hy hS (PlanT.any hs hQ r fuel _ _ _ (by simpa [PT.depth] using hf) hp.2 hS hr)
  | .step i r, fuel + 1, listed, a, w, hf, hp, _, h => by
    simp only [ptOk, Bool.and_eq_true, beq_iff_eq] at hp
    refine wpAnyH_all hp.1 (by simp) fun j hj => ?_
    obtain rfl : j = i := by simpa using hj
    exact wpOp_mono (fun a' w' h' => ⟨h'.1, PlanT.any hs hQ r fuel _ _ _ (by simpa [PT.depth] using hf) hp.2 h'.1 h'.2⟩) h
  | .fork i r j m, fuel + 1, listed, a, w, hf, hp, _, h => by
    simp only [ptOk, Bool.and_eq_true, beq_iff_eq] at hp
    simp only [PT.depth] at hf
    refine wpAnyH_all hp.1 (by simp) fun k hk => ?_
    rcases (by simpa using hk : k = i ∨ k = j) with rfl | rfl
    · exact wpOp_mono (fun a' w' h' => ⟨h'.1, PlanT.any hs hQ r fuel _ _ _ (by omega) hp.2.1 h'.1 h'.2⟩) h.1
    · exact wpOp_mono (fun a' w' h' => ⟨h'.1, PlanT.any hs hQ m fuel _ _ _ (by omega) hp.2.2 h'.1 h'.2⟩) h.2
  | .fork3 i r j m l q, fuel + 1, listed, a, w, hf, hp, _, h => by
    simp only [ptOk, Bool.and_eq_true, beq_iff_eq] at hp
    simp only [PT.depth] at hf
    refine wpAnyH_all hp.1 (by simp) fun k hk => ?_
    rcases (by simpa using hk : k = i ∨ k = j ∨ k = l) with rfl | rfl | rfl
    · exact wpOp_mono (fun a' w' h' => ⟨h'.1, PlanT.any hs hQ r fuel _ _ _ (by omega) hp.2.1 h'.1 h'.2⟩) h.1
    · exact wpOp_mono (fun a' w' h' => ⟨h'.1, PlanT.any hs hQ m fuel _ _ _ (by omega) hp.2.2.1 h'.1 h'.2⟩) h.2.1
    · exact wpOp_mono (fun a' w' h' => ⟨h'.1, PlanT.any hs hQ q fuel _ _ _ (by omega) hp.2.2.2 h'.1 h'.2⟩) h.2.2
  | .take _ _, 0, _, _, _, hf, _, _, _ => by simp [PT.depth] at hf
  | .step _ _, 0, _, _, _, hf, _, _, _ => by simp [PT.depth] at hf
  | .fork _ _ _ _, 0, _, _, _, hf, _, _, _ => by simp [PT.depth] at hf
  | .fork3 _ _ _ _ _ _, 0, _, _, _, hf, _, _, _ => by simp [PT.depth] at hf

theorem wp_region_planT (S : World → Prop) (plan : PT) {id : Nat} {a : Act} {w : World} (hm : P.follows .mixedOrders = true) (hs : (Region.noSelect ops && ptOk ops plan (Array.replicate ops.size false) && decide (plan.depth ≤ ops.size)) = true)
    (hQ : ∀ c a d v w, Q (.panic c) (Act.put a d v) w → Q (.panic c) a w) (hS : S w.drew) (h : PlanT P ops S Q plan a w.drew) : (Code.region id ops true).wp P Q a w := by
  simp only [Bool.and_eq_true, decide_eq_true_eq] at hs
  exact wp_region_held hm (PlanT.any hs.1.1 hQ plan _ _ _ _ hs.2 hs.1.2 hS h)

theorem PlanT.takeI {i : Nat} {o : Oper} {v : Value} {r : PT} {a : Act} {w : World} (hi : ops.toList[i]? = some o) (hw : Region.wanted o (yielded ops a.tmps) = true)
    (hy : ∀ W, S W → (execOp a.eval o).run P W = .ok (.value v) W) (h : PlanT P ops S Q r (a.put o.dst v) w) : PlanT P ops S Q (.take i r) a w :=
  ⟨o, v, by simpa using hi, .inl ⟨hw, hy⟩, h⟩
theorem PlanT.skip {i : Nat} {o : Oper} {r : PT} {a : Act} {w : World} (hi : ops.toList[i]? = some o) (hw : Region.wanted o (yielded ops a.tmps) = false)
    (h : PlanT P ops S Q r (a.put o.dst undef) w) : PlanT P ops S Q (.take i r) a w :=
  ⟨o, undef, by simpa using hi, .inr ⟨hw, rfl⟩, h⟩
theorem wpOp_stepT {i : Nat} {o : Oper} {r : PT} {a : Act} {w : World} (hi : ops.toList[i]? = some o) (hw : Region.wanted o (yielded ops a.tmps) = true)
    (h : ∀ K : Act → World → Prop, Shut (∀ a w, S w → PlanT P ops S Q r a w → K a w) → Oper.wp P o a w K Q) : wpOp P ops Q i (fun a' w' => S w' ∧ PlanT P ops S Q r a' w') a w := by
  refine wpOp_step (o := o) (by simpa using hi) fun K' hK => ?_
  rw [if_pos hw]
  exact h K' fun a w h1 h2 => hK a w ⟨h1, h2⟩
end
end Go.Proofs.Ytcmpbhcldaogiaa
namespace Go.Proofs.Ytcmpbhcldaogiaa
open Go.RowKit
attribute [local go_sem] less_eq same_eq le_eq ge_eq gt_eq

structure Txn where
  read : Int
  reads : List (K × K)
  chgs : List Chg
instance : DecidableEq Txn := fun x y => decidable_of_iff (x.read = y.read ∧ x.reads = y.reads ∧ x.chgs = y.chgs) ⟨fun h => by cases x; cases y; simp only at h; obtain ⟨rfl, rfl, rfl⟩ := h; rfl, fun h => by subst h; simp⟩
def zeroT : Txn := ⟨0, [], []⟩
def okSpan (s : K × K) : Prop := s.1.size ≤ 17 ∧ s.2.size ≤ 17 ∧ ¬ s.2 < s.1
instance (s : K × K) : Decidable (okSpan s) := by unfold okSpan; exact inferInstance
def soundT (t : Txn) : Prop := 0 ≤ t.read ∧ t.reads.length ≤ 24 ∧ (∀ s ∈ t.reads, okSpan s) ∧ t.chgs.length ≤ 24 ∧ allAns t.chgs = 0
instance (t : Txn) : Decidable (soundT t) := by unfold soundT; exact inferInstance
def tval (t : Txn) (v1 v2 : Value) : Value := .agg #[.int .i64 t.read, v1, v2]
/-- lengths that a walk needs -/
def fitT (t : Txn) : Prop := t.reads.length < 4611686018427387904 ∧ (∀ s ∈ t.reads, s.1.size < 4611686018427387904 ∧ s.2.size < 4611686018427387904) ∧ t.chgs.length < 4611686018427387904 ∧ ∀ c ∈ t.chgs, smallC c
theorem box_cell {w W : World} {cs : List Value} {t : TypeId} (h : Below (w.heap.size + 1) (w.alloc (.cells cs.toArray t)) W) (i : Nat) (v : Value) (hv : cs[i]? = some v) : W.cell? ⟨w.heap.size, i, none⟩ = some v :=
  (h.cell (p := ⟨w.heap.size, i, none⟩) (Nat.lt_succ_self _)).trans ((Whole.fresh w t cs).cell i v hv)


set_option maxHeartbeats 4000000 in
set_option maxRecDepth 100000 in
theorem rsoundT_any (t : Txn) (hft : fitT t) (v1 v2 : Value) (w : World) (hv1 : RdP w w.heap.size v1 t.reads) (hv2 : RdC w w.heap.size v2 t.chgs) :
    Calls Try.prog 10 #[tval t v1 v2] w fun e w' => e = .returned (.bool (decide (soundT t))) ∧ Below w.heap.size w w' := by
  obtain ⟨h1, h2, h3, h4⟩ := hft
  obtain ⟨read, reads, chgs⟩ := t
  obtain ⟨R, hR⟩ : ∃ R, R = decide (soundT ⟨read, reads, chgs⟩) := ⟨_, rfl⟩
  rw [← hR]
  unfold soundT at hR
  unfold tval
  simp only at hR h1 h2 h3 h4 hv1 hv2 ⊢
  obtain ⟨A1, c1, rfl, _, hi⟩ := hv1.at
  obtain ⟨A2, c2, rfl, _, _⟩ := hv2.at
  have hno : ¬ (0 ≤ read ∧ reads.length ≤ 24 ∧ (∀ s ∈ reads, okSpan s) ∧ chgs.length ≤ 24 ∧ allAns chgs = 0) → R = false := fun h => by rw [hR]; exact decide_eq_false h
  have hyes : 0 ≤ read ∧ reads.length ≤ 24 ∧ (∀ s ∈ reads, okSpan s) ∧ chgs.length ≤ 24 ∧ allAns chgs = 0 → R = true := fun h => by rw [hR]; exact decide_eq_true h
  have HNO := Lib.hid hno; clear hno
  have HYES := Lib.hid hyes; clear hyes
  have hb1 : Below w.heap.size w (w.alloc (.cells #[.int .i64 read, .slice A1 reads.length c1, .slice A2 chgs.length c2] 32)) := (Below.refl _ _).alloc (Nat.le_refl _) _
  have hA := rall_any chgs h4 (.slice A2 chgs.length c2) _ (hv2.next hb1) h3
  have HA := Lib.hid hA; clear hA
  have HB1 := Lib.hid hb1; clear hb1
  have HI := Lib.hid hi; clear hi
  have HS := Lib.hid h2; clear h2
  clear hR hv1 hv2 h4
  by_cases g1 : read < 0
  · go_enter Try.func10, Try.ntmps10
    go_wp2_with fail
    go_ret
    exact ⟨by rw [HNO.out (by omega)]; rfl, HB1.out⟩
  by_cases g2 : (24 : Int) < (reads.length : Int)
  · go_enter Try.func10, Try.ntmps10
    go_wp2_with fail
    go_ret
    exact ⟨by rw [HNO.out (by omega)]; rfl, HB1.out⟩
  by_cases g3 : (24 : Int) < (chgs.length : Int)
  · go_enter Try.func10, Try.ntmps10
    go_wp2_with fail
    go_ret
    exact ⟨by rw [HNO.out (by omega)]; rfl, HB1.out⟩
  generalize allAns chgs = q at HA HNO HYES
  go_enter Try.func10, Try.ntmps10
  go_wp2_with fail
  refine HA.out.mono ?_
  rintro e w2 ⟨rfl, hb2⟩
  rw [World.size_alloc] at hb2
  have HB2 := Lib.hid hb2; clear hb2
  have HBW := Lib.hid (show Below w.heap.size w w2 from HB1.out.trans (HB2.out.mono (by omega)))
  by_cases g4 : q = 0
  · subst g4
    go_wp2_with fail
    go_loopw [3] (fun iv wr => ∃ i : Nat, i ≤ reads.length ∧ iv = .int .i64 i ∧ Below (w.heap.size + 1) (w.alloc (.cells #[.int .i64 read, .slice A1 reads.length c1, .slice A2 chgs.length c2] 32)) wr ∧ Hid (∀ s ∈ reads.take i, okSpan s)) (fun iv _ => reads.length - (intOf iv).toNat)
    case atStart => exact ⟨0, Nat.zero_le _, rfl, HB2.out, Lib.hid (by simp)⟩
    case round =>
      obtain ⟨i, hil, rfl, hbw, HALL⟩ := hrel
      have hBw : Below w.heap.size w wr := HB1.out.trans (hbw.mono (by omega))
      have p1 := box_cell hbw 1 _ rfl
      have HBR := Lib.hid hbw; clear hbw
      have HBW2 := Lib.hid hBw; clear hBw
      by_cases hlt : i < reads.length
      · obtain ⟨b, o, rfl, hbB, k0, k1⟩ := HI.out i hlt
        rw [← HBW2.out.cell (p := ⟨b, _, none⟩) hbB] at k0 k1
        have hsm := HS.out reads[i] (List.getElem_mem hlt)
        have hyes : okSpan reads[i] → ∀ s ∈ reads.take (i + 1), okSpan s := fun h n hn => by
          rw [List.take_add_one, List.getElem?_eq_getElem hlt, List.mem_append] at hn
          rcases hn with hn | hn
          · exact HALL.out n hn
          · simp only [Option.toList_some, List.mem_singleton] at hn; rw [hn]; exact h
        have hno : ¬ okSpan reads[i] → R = false := fun h => HNO.out fun hall => h (hall.2.2.1 _ (List.getElem_mem hlt))
        generalize reads[i] = z at k0 k1 hyes hno hsm
        obtain ⟨x, y⟩ := z
        unfold okSpan at hyes hno
        simp only at k0 k1 hsm hyes hno
        have HY := Lib.hid hyes; clear hyes
        have HN := Lib.hid hno; clear hno
        have hwr : wr.heap.size ≤ wr.drew.heap.size := Nat.le_refl _
        have hbs2 : b < wr.heap.size := by have := HBW2.out.size; omega
        have hws2 : w.heap.size < wr.heap.size := by have := HBR.out.size; simp at this; omega
        have HK0 := Lib.hid (fun W (hW : Below wr.heap.size wr W) => (hW.cell (p := ⟨b, o + i * 2, none⟩) hbs2).trans k0)
        have HK1 := Lib.hid (fun W (hW : Below wr.heap.size wr W) => (hW.cell (p := ⟨b, o + i * 2 + 1, none⟩) hbs2).trans k1)
        have HK2 := Lib.hid (fun W (hW : Below wr.heap.size wr W) => (hW.cell (p := ⟨w.heap.size, 1, none⟩) hws2).trans p1)
        have hi1 : (i : Int) < (reads.length : Int) := by omega
        have hi0 : (0 : Int) ≤ (i : Int) := by omega
        clear hbs2 hws2 hwr
        have HBD := Lib.hid (show Below w.heap.size w wr.drew from HBW2.out.drew)
        have HBRD := Lib.hid (HBR.out.drew)
        by_cases ha : (17 : Int) < (x.size : Int)
        · have hf := HN.out (fun h => by omega)
          have HF := Lib.hid hf; clear hf
          go_wp2_with fail
          clear k0 k1 p1
          refine wp_region_planT (fun W => Below wr.heap.size wr W) (.take 0 (.take 1 (.take 2 (.take 3 (.take 4 (.take 5 (.take 6 (.take 7 (.take 8 (.take 9 (.take 10 (.take 11 (.take 12 (.take 13 (.take 14 (.take 15 (.take 16 (.take 17 (.take 18 (.take 19 (.take 20 (.take 21 (.take 22 (.take 23 (.take 24 (.take 25 (.take 26 (.take 27 (.take 28 (.take 29 (.take 30 (.take 31 (.take 32 .done))))))))))))))))))))))))))))))))) (by kernel_rfl) (by kernel_rfl) (fun _ _ d _ _ h => by cases d <;> exact h) ((Below.refl _ _).drew) ?_
          repeat (first | (refine PlanT.takeI (v := ?_) rfl rfl ?_ ?_; rotate_left; (focus (intro W hW; have k0 := HK0.out W hW; have k1 := HK1.out W hW; have k2 := HK2.out W hW; go_simp; (try with_reducible rfl); done)); (try simp only [Act.put, List.setIfInBounds_toArray, List.set_cons_zero, List.set_cons_succ])) | (refine PlanT.skip rfl rfl ?_; (try simp only [Act.put, List.setIfInBounds_toArray, List.set_cons_zero, List.set_cons_succ])))
          simp only [PlanT]
          go_wp2_with fail
          go_ret
          exact ⟨by rw [HF.out]; rfl, HBD.out⟩
        have HDA := Lib.hid (show decide ((17 : Int) < (x.size : Int)) = false from decide_eq_false ha)
        by_cases hb : (17 : Int) < (y.size : Int)
        · have hf := HN.out (fun h => by omega)
          have HF := Lib.hid hf; clear hf
          go_wp2_with fail
          clear k0 k1 p1
          refine wp_region_planT (fun W => Below wr.heap.size wr W) (.take 0 (.take 1 (.take 2 (.take 3 (.take 4 (.take 5 (.take 6 (.take 7 (.take 8 (.take 9 (.take 10 (.take 11 (.take 12 (.take 13 (.take 14 (.take 15 (.take 16 (.take 17 (.take 18 (.take 19 (.take 20 (.take 21 (.take 22 (.take 23 (.take 24 (.take 25 (.take 26 (.take 27 (.take 28 (.take 29 (.take 30 (.take 31 (.take 32 .done))))))))))))))))))))))))))))))))) (by kernel_rfl) (by kernel_rfl) (fun _ _ d _ _ h => by cases d <;> exact h) ((Below.refl _ _).drew) ?_
          repeat (first | (refine PlanT.takeI (v := ?_) rfl rfl ?_ ?_; rotate_left; (focus (intro W hW; have k0 := HK0.out W hW; have k1 := HK1.out W hW; have k2 := HK2.out W hW; have kda := HDA.out; go_simp; (try with_reducible rfl); done)); (try simp only [Act.put, List.setIfInBounds_toArray, List.set_cons_zero, List.set_cons_succ])) | (refine PlanT.skip rfl rfl ?_; (try simp only [Act.put, List.setIfInBounds_toArray, List.set_cons_zero, List.set_cons_succ])))
          simp only [PlanT]
          go_wp2_with fail
          go_ret
          exact ⟨by rw [HF.out]; rfl, HBD.out⟩
        have HDB := Lib.hid (show decide ((17 : Int) < (y.size : Int)) = false from decide_eq_false hb)
        by_cases hxy : y < x
        · have hf := HN.out (fun h => h.2.2 hxy)
          have HF := Lib.hid hf; clear hf
          go_wp2_with fail
          clear k0 k1 p1
          refine wp_region_planT (fun W => Below wr.heap.size wr W) (.take 0 (.take 1 (.take 2 (.take 3 (.take 4 (.take 5 (.take 6 (.take 7 (.take 8 (.take 9 (.take 10 (.take 11 (.take 12 (.take 13 (.take 14 (.take 15 (.take 16 (.take 17 (.take 18 (.take 19 (.take 20 (.take 21 (.take 22 (.take 23 (.take 24 (.take 25 (.take 26 (.take 27 (.take 28 (.take 29 (.take 30 (.take 31 (.take 32 .done))))))))))))))))))))))))))))))))) (by kernel_rfl) (by kernel_rfl) (fun _ _ d _ _ h => by cases d <;> exact h) ((Below.refl _ _).drew) ?_
          repeat (first | (refine PlanT.takeI (v := ?_) rfl rfl ?_ ?_; rotate_left; (focus (intro W hW; have k0 := HK0.out W hW; have k1 := HK1.out W hW; have k2 := HK2.out W hW; have kda := HDA.out; have kdb := HDB.out; go_simp; (try with_reducible rfl); done)); (try simp only [Act.put, List.setIfInBounds_toArray, List.set_cons_zero, List.set_cons_succ])) | (refine PlanT.skip rfl rfl ?_; (try simp only [Act.put, List.setIfInBounds_toArray, List.set_cons_zero, List.set_cons_succ])))
          simp only [PlanT]
          go_wp2_with fail
          go_ret
          exact ⟨by rw [HF.out]; rfl, HBD.out⟩
        · have HDC := Lib.hid (show decide (y < x) = false from decide_eq_false hxy)
          have hok := HY.out ⟨by omega, by omega, hxy⟩
          have HOK := Lib.hid hok; clear hok
          go_wp2_with fail
          clear k0 k1 p1
          refine wp_region_planT (fun W => Below wr.heap.size wr W) (.take 0 (.take 1 (.take 2 (.take 3 (.take 4 (.take 5 (.take 6 (.take 7 (.take 8 (.take 9 (.take 10 (.take 11 (.take 12 (.take 13 (.take 14 (.take 15 (.take 16 (.take 17 (.take 18 (.take 19 (.take 20 (.take 21 (.take 22 (.take 23 (.take 24 (.take 25 (.take 26 (.take 27 (.take 28 (.take 29 (.take 30 (.take 31 (.take 32 .done))))))))))))))))))))))))))))))))) (by kernel_rfl) (by kernel_rfl) (fun _ _ d _ _ h => by cases d <;> exact h) ((Below.refl _ _).drew) ?_
          repeat (first | (refine PlanT.takeI (v := ?_) rfl rfl ?_ ?_; rotate_left; (focus (intro W hW; have k0 := HK0.out W hW; have k1 := HK1.out W hW; have k2 := HK2.out W hW; have kda := HDA.out; have kdb := HDB.out; have kdc := HDC.out; go_simp; (try with_reducible rfl); done)); (try simp only [Act.put, List.setIfInBounds_toArray, List.set_cons_zero, List.set_cons_succ])) | (refine PlanT.skip rfl rfl ?_; (try simp only [Act.put, List.setIfInBounds_toArray, List.set_cons_zero, List.set_cons_succ])))
          simp only [PlanT]
          go_wp2_with fail
          go_roundw
          case rel => exact ⟨i + 1, by omega, by go_num, HBRD.out, Lib.hid HOK.out⟩
          case measure => simp [intOf]; omega
      · have hd : R = true := HYES.out ⟨by omega, by omega, by
          have := HALL.out
          rwa [List.take_of_length_le (by omega)] at this, by omega, trivial⟩
        have HD2 := Lib.hid hd; clear hd
        go_wp2_with fail
        go_ret
        exact ⟨by rw [HD2.out]; rfl, HBW2.out⟩
  · have hf := HNO.out (fun h => g4 h.2.2.2.2)
    have HF := Lib.hid hf; clear hf
    go_wp2_with fail
    go_ret
    exact ⟨by rw [HF.out]; rfl, HBW.out⟩
end Go.Proofs.Ytcmpbhcldaogiaa
namespace Go.Proofs.Ytcmpbhcldaogiaa

/-- a span that was written at a version -/
structure Wr where
  s : K × K
  v : Int
instance : Inhabited Wr := ⟨⟨(⟨#[]⟩, ⟨#[]⟩), 0⟩⟩
instance (s : K × K) (k : K) : Decidable (has s k) := by unfold has; exact inferInstance
/-- when a key was written last; 0: never -/
def ver (L : List Wr) (k : K) : Int := L.foldl (fun n x => if has x.s k then x.v else n) 0
theorem ver_nil (k : K) : ver [] k = 0 := rfl
theorem ver_snoc (L : List Wr) (x : Wr) (k : K) : ver (L ++ [x]) k = if has x.s k then x.v else ver L k := by simp [ver]
theorem ver_pass : ∀ (B A : List Wr) (k : K), (∀ y ∈ B, ¬ has y.s k) → ver (A ++ B) k = ver A k
  | [], A, k, _ => by simp
  | y :: B, A, k, h => by
    rw [show A ++ y :: B = (A ++ [y]) ++ B by simp, ver_pass B _ k (fun z hz => h z (by simp [hz])), ver_snoc, if_neg (h y (by simp))]
/-- the j-th one is the last that has the key -/
def Left (L : List Wr) (j : Nat) (k : K) : Prop := ∃ x, L[j]? = some x ∧ has x.s k ∧ ∀ y ∈ L.drop (j + 1), ¬ has y.s k
theorem ver_left {L : List Wr} {j : Nat} {k : K} {x : Wr} (h : Left L j k) (hx : L[j]? = some x) : ver L k = x.v := by
  obtain ⟨x', hx', hk, hn⟩ := h
  rw [hx] at hx'
  injection hx' with hx'
  subst hx'
  have hj := (List.getElem?_eq_some_iff.1 hx).1
  have h1 := ver_pass (L.drop (j + 1)) (L.take (j + 1)) k hn
  rw [List.take_append_drop] at h1
  rw [h1, List.take_add_one, hx, Option.toList_some, ver_snoc, if_pos hk]
theorem left_of : ∀ (n : Nat) (L : List Wr) (k : K), L.length = n → (∃ y ∈ L, has y.s k) → ∃ j, Left L j k
  | 0, L, k, hn, ⟨y, hy, _⟩ => by rw [List.eq_nil_of_length_eq_zero hn] at hy; simp at hy
  | n + 1, L, k, hn, ⟨y, hy, hk⟩ => by
    rcases List.eq_nil_or_concat L with rfl | ⟨A, x, rfl⟩
    · simp at hn
    · rw [List.concat_eq_append] at *
      by_cases hx : has x.s k
      · exact ⟨A.length, x, by simp, hx, by simp⟩
      · have hyA : y ∈ A := by
          rcases List.mem_append.1 hy with hy | hy
          · exact hy
          · rw [List.mem_singleton] at hy; subst hy; exact absurd hk hx
        obtain ⟨j, z, hz, hzk, hzn⟩ := left_of n A k (by simpa using hn) ⟨y, hyA, hk⟩
        have hj := (List.getElem?_eq_some_iff.1 hz).1
        refine ⟨j, z, by rw [List.getElem?_append_left hj]; exact hz, hzk, fun u hu => ?_⟩
        rw [List.drop_append_of_le_length (by omega)] at hu
        rcases List.mem_append.1 hu with hu | hu
        · exact hzn u hu
        · rw [List.mem_singleton] at hu; subst hu; exact hx
theorem ver_cases (L : List Wr) (k : K) : (ver L k = 0 ∧ ∀ j, ¬ Left L j k) ∨ ∃ j x, L[j]? = some x ∧ Left L j k ∧ ver L k = x.v := by
  by_cases h : ∃ y ∈ L, has y.s k
  · obtain ⟨j, hj⟩ := left_of _ L k rfl h
    obtain ⟨x, hx, _⟩ := id hj
    exact .inr ⟨j, x, hx, hj, ver_left hj hx⟩
  · refine .inl ⟨?_, ?_⟩
    · have := ver_pass L [] k (fun y hy hk => h ⟨y, hy, hk⟩)
      simpa [ver_nil] using this
    · rintro j ⟨x, hx, hk, _⟩
      exact h ⟨x, List.mem_of_getElem? hx, hk⟩

/-! ### where what was written at one version begins -/
/-- a key is the first of those that were written at its version, above b -/
def isStart (f : K → Int) (b : Int) (k : K) : Prop := b < f k ∧ ∀ j, j < k → ∃ x, j ≤ x ∧ x < k ∧ f x ≠ f k
/-- as many such keys there are -/
def SizeIs (f : K → Int) (b : Int) (n : Nat) : Prop := ∃ l : List K, l.Nodup ∧ l.length = n ∧ ∀ k, k ∈ l ↔ isStart f b k
theorem nodup_len {α : Type} [DecidableEq α] : ∀ (l r : List α), l.Nodup → (∀ x ∈ l, x ∈ r) → l.length ≤ r.length
  | [], r, _, _ => Nat.zero_le _
  | x :: l, r, hn, h => by
    obtain ⟨h1, h2⟩ := List.nodup_cons.1 hn
    have hx := h x (by simp)
    have ih := nodup_len l (r.erase x) h2 (fun y hy => (List.mem_erase_of_ne (fun e => h1 (by rw [← e]; exact hy))).2 (h y (by simp [hy])))
    rw [List.length_erase_of_mem hx] at ih
    have := List.length_pos_of_mem hx
    simp only [List.length_cons]
    omega
theorem SizeIs.eq {f : K → Int} {b : Int} {n m : Nat} (h : SizeIs f b n) (h2 : SizeIs f b m) : n = m := by
  obtain ⟨l, hn, rfl, hl⟩ := h
  obtain ⟨r, hm, rfl, hr⟩ := h2
  have h1 := nodup_len l r hn (fun x hx => (hr x).2 ((hl x).1 hx))
  have h2 := nodup_len r l hm (fun x hx => (hl x).2 ((hr x).1 hx))
  omega
/-- pieces that say of all keys above b when they were written last -/
structure Pieces (f : K → Int) (b : Int) (A : List Wr) : Prop where
  ne : ∀ x ∈ A, x.s.1 < x.s.2 ∧ b < x.v
  all : ∀ k, b < f k → ∃ x ∈ A, has x.s k
  says : ∀ x ∈ A, ∀ k, has x.s k → f k = x.v
  apart : A.Pairwise fun x y => ∀ k, has x.s k → ¬ has y.s k
theorem Pieces.one {f : K → Int} {b : Int} {A : List Wr} (h : Pieces f b A) {x y : Wr} (hx : x ∈ A) (hy : y ∈ A) {k : K} (h1 : has x.s k) (h2 : has y.s k) : x = y := by
  by_cases e : x = y
  · exact e
  · obtain ⟨i, hi, rfl⟩ := List.mem_iff_getElem.1 hx
    obtain ⟨j, hj, rfl⟩ := List.mem_iff_getElem.1 hy
    have hp := List.pairwise_iff_getElem.1 h.apart
    rcases Nat.lt_trichotomy i j with hij | hij | hij
    · exact absurd h2 (hp i j hi hj hij k h1)
    · subst hij; rfl
    · exact absurd h1 (hp j i hj hi hij k h2)
/-- the one that reaches furthest of those that do not reach behind k -/
theorem furthest : ∀ (A : List Wr) (j k : K), (∀ x ∈ A, x.s.1 < x.s.2) → (∃ x ∈ A, ∃ u, has x.s u ∧ j ≤ u ∧ x.s.2 ≤ k) → ∃ x ∈ A, x.s.2 ≤ k ∧ j < x.s.2 ∧ ∀ y ∈ A, y.s.2 ≤ k → y.s.2 ≤ x.s.2
  | [], _, _, _, ⟨x, hx, _⟩ => by simp at hx
  | z :: A, j, k, hne, hex => by
    by_cases hA : ∃ x ∈ A, ∃ u, has x.s u ∧ j ≤ u ∧ x.s.2 ≤ k
    · obtain ⟨x, hx, h1, h2, h3⟩ := furthest A j k (fun x hx => hne x (by simp [hx])) hA
      by_cases hz : z.s.2 ≤ k ∧ x.s.2 < z.s.2
      · refine ⟨z, by simp, hz.1, by have := hz.2; grind, fun y hy hyk => ?_⟩
        rcases List.mem_cons.1 hy with rfl | hy
        · exact Std.IsPreorder.le_refl _
        · have := h3 y hy hyk; have := hz.2; grind
      · refine ⟨x, by simp [hx], h1, h2, fun y hy hyk => ?_⟩
        rcases List.mem_cons.1 hy with rfl | hy
        · by_cases hc : x.s.2 < y.s.2
          · exact absurd ⟨hyk, hc⟩ hz
          · grind
        · exact h3 y hy hyk
    · obtain ⟨x, hx, u, h1, h2, h3⟩ := hex
      rcases List.mem_cons.1 hx with rfl | hx
      · refine ⟨x, by simp, h3, by unfold has at h1; grind, fun y hy hyk => ?_⟩
        rcases List.mem_cons.1 hy with rfl | hy
        · exact Std.IsPreorder.le_refl _
        · by_cases hc : x.s.2 < y.s.2
          · have hy1 := hne y (by simp [hy])
            exact absurd ⟨y, hy, mx y.s.1 j, by rcases mx_cases y.s.1 j with ⟨e1, e2⟩ | ⟨e1, e2⟩ <;> rw [e2] <;> unfold has at * <;> grind, by rcases mx_cases y.s.1 j with ⟨e1, e2⟩ | ⟨e1, e2⟩ <;> rw [e2] <;> grind, hyk⟩ hA
          · grind
      · exact absurd ⟨x, hx, u, h1, h2, h3⟩ hA
theorem Pieces.start {f : K → Int} {b : Int} {A : List Wr} (h : Pieces f b A) (k : K) : isStart f b k ↔ ∃ x ∈ A, x.s.1 = k ∧ ∀ y ∈ A, ¬ (y.s.2 = k ∧ y.v = x.v) := by
  constructor
  · rintro ⟨hb, hj⟩
    obtain ⟨x, hx, hxk⟩ := h.all k hb
    have hfx := h.says x hx k hxk
    have e : x.s.1 = k := by
      by_cases hlt : x.s.1 < k
      · obtain ⟨u, h1, h2, h3⟩ := hj x.s.1 hlt
        refine absurd ?_ h3
        rw [hfx, h.says x hx u ⟨h1, by unfold has at hxk; grind⟩]
      · unfold has at hxk; grind
    refine ⟨x, hx, e, fun y hy hyk => ?_⟩
    have hy1 := (h.ne y hy).1
    obtain ⟨u, h1, h2, h3⟩ := hj y.s.1 (by rw [← hyk.1]; exact hy1)
    refine h3 ?_
    rw [hfx, h.says y hy u ⟨h1, by rw [hyk.1]; exact h2⟩, hyk.2]
  · rintro ⟨x, hx, rfl, hno⟩
    have hx1 := (h.ne x hx).1
    have hxk : has x.s x.s.1 := ⟨Std.IsPreorder.le_refl _, hx1⟩
    have hfx := h.says x hx _ hxk
    refine ⟨by rw [hfx]; exact (h.ne x hx).2, fun j hj => Classical.byContradiction fun hcon => ?_⟩
    have hall : ∀ u, j ≤ u → u < x.s.1 → f u = x.v := fun u h1 h2 => Classical.byContradiction fun hne => hcon ⟨u, h1, h2, by rw [hfx]; exact hne⟩
    have hreach : ∀ u, j ≤ u → u < x.s.1 → ∃ y ∈ A, has y.s u ∧ y.s.2 ≤ x.s.1 := fun u h1 h2 => by
      obtain ⟨y, hy, hyu⟩ := h.all u (by rw [hall u h1 h2]; exact (h.ne x hx).2)
      refine ⟨y, hy, hyu, ?_⟩
      by_cases hc : x.s.1 < y.s.2
      · have := h.one hx hy hxk ⟨by unfold has at hyu; grind, hc⟩
        subst this
        unfold has at hyu
        grind
      · grind
    obtain ⟨y0, hy0, hyu0, hyk0⟩ := hreach j (Std.IsPreorder.le_refl _) hj
    obtain ⟨z, hz, hz1, hz2, hz3⟩ := furthest A j x.s.1 (fun x hx => (h.ne x hx).1) ⟨y0, hy0, j, hyu0, Std.IsPreorder.le_refl _, hyk0⟩
    by_cases he : z.s.2 = x.s.1
    · have hzne := (h.ne z hz).1
      have hzu : has z.s (mx z.s.1 j) ∧ j ≤ mx z.s.1 j ∧ mx z.s.1 j < x.s.1 := by
        rcases mx_cases z.s.1 j with ⟨e1, e2⟩ | ⟨e1, e2⟩ <;> rw [e2] <;> unfold has <;> grind
      have h1 := h.says z hz _ hzu.1
      rw [hall _ hzu.2.1 hzu.2.2] at h1
      exact hno z hz ⟨he, h1.symm⟩
    · have hlt : z.s.2 < x.s.1 := by
        rcases Std.le_iff_lt_or_eq.1 hz1 with h1 | h1
        · exact h1
        · exact absurd h1 he
      obtain ⟨y, hy, hyu, hyk⟩ := hreach z.s.2 (Std.le_of_lt hz2) hlt
      have := hz3 y hy hyk
      unfold has at hyu
      grind

/-! ### how the reference counts them -/
def touch (x y : Wr) : Bool := decide (x.s.2 = y.s.1) && decide (x.v = y.v)
def pairsOf (A B : List Wr) : Nat := (A.map fun x => (B.filter (touch x)).length).sum
theorem pairs_swap (p : Wr → Wr → Bool) : ∀ A B : List Wr, (A.map fun x => (B.filter (p x)).length).sum = (B.map fun y => (A.filter fun x => p x y).length).sum
  | [], B => by
    induction B with
    | nil => rfl
    | cons y B ih => simpa using ih
  | x :: A, B => by
    rw [List.map_cons, List.sum_cons, pairs_swap p A B]
    induction B with
    | nil => simp
    | cons y B ih =>
      rw [List.map_cons, List.map_cons, List.sum_cons, List.sum_cons, ← ih]
      by_cases h : p x y = true
      · rw [List.filter_cons_of_pos h, List.filter_cons_of_pos (by exact h)]
        simp only [List.length_cons]
        omega
      · rw [List.filter_cons_of_neg h, List.filter_cons_of_neg (by exact h)]
        omega
theorem sum_ind (q : Wr → Bool) (g : Wr → Nat) : ∀ A : List Wr, (∀ x ∈ A, g x = if q x then 1 else 0) → (A.map g).sum = (A.filter q).length
  | [], _ => rfl
  | x :: A, h => by
    rw [List.map_cons, List.sum_cons, sum_ind q g A (fun y hy => h y (by simp [hy])), h x (by simp)]
    by_cases hq : q x = true
    · rw [if_pos hq, List.filter_cons_of_pos hq, List.length_cons]; omega
    · rw [if_neg hq, List.filter_cons_of_neg hq]; omega
theorem Pieces.ends {f : K → Int} {b : Int} {A : List Wr} (h : Pieces f b A) (y : Wr) : (A.filter fun x => touch x y).length = if (A.any fun x => touch x y) then 1 else 0 := by
  have hp := h.apart.sublist (List.filter_sublist (p := fun x => touch x y) (l := A))
  have hm : ∀ x ∈ A.filter (fun x => touch x y), x.s.2 = y.s.1 ∧ x.s.1 < x.s.2 := fun x hx => by
    obtain ⟨h1, h2⟩ := List.mem_filter.1 hx
    simp only [touch, Bool.and_eq_true, decide_eq_true_eq] at h2
    exact ⟨h2.1, (h.ne x h1).1⟩
  by_cases ha : (A.any fun x => touch x y) = true
  · rw [if_pos ha]
    obtain ⟨x, hx, hxt⟩ := List.any_eq_true.1 ha
    have hmem : x ∈ A.filter (fun x => touch x y) := List.mem_filter.2 ⟨hx, hxt⟩
    generalize A.filter (fun x => touch x y) = F at hp hm hmem
    match F, hp, hm, hmem with
    | [_], _, _, _ => rfl
    | u :: v :: F, hp, hm, _ =>
      exfalso
      have h1 := hm u (by simp)
      have h2 := hm v (by simp)
      have h3 := (List.pairwise_cons.1 hp).1 v (by simp) (mx u.s.1 v.s.1)
      rcases mx_cases u.s.1 v.s.1 with ⟨e1, e2⟩ | ⟨e1, e2⟩ <;> rw [e2] at h3 <;> unfold has at h3 <;> grind
  · rw [if_neg ha]
    have : A.filter (fun x => touch x y) = [] := List.filter_eq_nil_iff.2 (fun x hx hxt => ha (List.any_eq_true.2 ⟨x, hx, hxt⟩))
    rw [this]
    rfl
theorem Pieces.size {f : K → Int} {b : Int} {A : List Wr} (h : Pieces f b A) : pairsOf A A ≤ A.length ∧ SizeIs f b (A.length - pairsOf A A) := by
  have hc : pairsOf A A = (A.filter fun y => A.any fun x => touch x y).length := by
    unfold pairsOf
    rw [pairs_swap touch A A]
    exact sum_ind _ _ A (fun y _ => h.ends y)
  have hsplit : ∀ (q : Wr → Bool) (A : List Wr), (A.filter q).length + (A.filter fun x => !q x).length = A.length := fun q A => by
    induction A with
    | nil => rfl
    | cons x A ih =>
      by_cases hq : q x = true
      · rw [List.filter_cons_of_pos hq, List.filter_cons_of_neg (by simp [hq])]; simp only [List.length_cons]; omega
      · rw [List.filter_cons_of_neg hq, List.filter_cons_of_pos (by simpa using hq)]; simp only [List.length_cons]; omega
  have hs := hsplit (fun y => A.any fun x => touch x y) A
  rw [← hc] at hs
  refine ⟨by omega, (A.filter fun y => !(A.any fun x => touch x y)).map (·.s.1), ?_, by rw [List.length_map]; omega, fun k => ?_⟩
  · rw [List.nodup_iff_pairwise_ne, List.pairwise_map]
    refine (h.apart.sublist List.filter_sublist).imp_of_mem ?_
    intro x y hx hy hxy he
    have h1 := (h.ne x (List.mem_filter.1 hx).1).1
    have h2 := (h.ne y (List.mem_filter.1 hy).1).1
    exact hxy x.s.1 ⟨Std.IsPreorder.le_refl _, h1⟩ ⟨by rw [he]; exact Std.IsPreorder.le_refl _, by rw [he]; exact h2⟩
  · rw [h.start, List.mem_map]
    constructor
    · rintro ⟨x, hx, rfl⟩
      obtain ⟨h1, h2⟩ := List.mem_filter.1 hx
      refine ⟨x, h1, rfl, fun y hy hyx => ?_⟩
      have : (A.any fun x' => touch x' x) = true := List.any_eq_true.2 ⟨y, hy, by simp [touch, hyx.1, hyx.2]⟩
      rw [this] at h2
      cases h2
    · rintro ⟨x, hx, rfl, hno⟩
      refine ⟨x, List.mem_filter.2 ⟨hx, ?_⟩, rfl⟩
      rw [Bool.not_eq_true', Bool.eq_false_iff]
      intro ha
      obtain ⟨y, hy, hyt⟩ := List.any_eq_true.1 ha
      simp only [touch, Bool.and_eq_true, decide_eq_true_eq] at hyt
      exact hno y hy ⟨hyt.1, hyt.2⟩
end Go.Proofs.Ytcmpbhcldaogiaa
namespace Go.Proofs.Ytcmpbhcldaogiaa

structure Mk where
  floor : Int
  most : Int
  f : K → Int
/-- what Last answers of a span -/
def LastIs (m : Mk) (s : K × K) (n : Int) : Prop := (n = 0 ∧ ∀ k, has s k → m.f k ≤ m.floor) ∨ (m.floor < n ∧ (∃ k, has s k ∧ m.f k = n) ∧ ∀ k, has s k → m.f k ≤ n)
/-- a key of what it read was written above its Read -/
def clash (m : Mk) (t : Txn) : Prop := ∃ s ∈ t.reads, ∃ k, has s k ∧ m.floor < m.f k ∧ t.read < m.f k
open Classical in
noncomputable def verd (m : Mk) (t : Txn) : Int := if t.reads ≠ [] ∧ t.read < m.floor then 3 else if clash m t then 2 else 1
/-- the keys that a transaction changes -/
def keysOf (t : Txn) (k : K) : Prop := mem (t.chgs.map cspan) k
open Classical in
noncomputable def wrote (m : Mk) (v : Int) (t : Txn) : Mk := ⟨m.floor, if ∃ k, keysOf t k then v else m.most, fun k => if keysOf t k then v else m.f k⟩
noncomputable def judge1 (m : Mk) (v : Int) (t : Txn) : Mk := if verd m t = 1 then wrote m v t else m
noncomputable def judgeL : Mk → Int → List Txn → List Int
  | _, _, [] => []
  | m, v, t :: r => verd m t :: judgeL (judge1 m v t) v r
noncomputable def judgeM : Mk → Int → List Txn → Mk
  | m, _, [] => m
  | m, v, t :: r => judgeM (judge1 m v t) v r
/-- the error of a Judge -/
def jerr (m : Mk) (v : Int) (ts : List Txn) : Int := if v ≤ m.floor ∨ v ≤ m.most then 9 else if 4 < ts.length ∨ ∃ t ∈ ts, ¬ soundT t then 2 else 0
noncomputable def jout (m : Mk) (v : Int) (ts : List Txn) : List Int := if jerr m v ts = 0 then judgeL m v ts else []
noncomputable def jnext (m : Mk) (v : Int) (ts : List Txn) : Mk := if jerr m v ts = 0 then judgeM m v ts else m
def ferr (m : Mk) (v : Int) : Int := if v < m.floor then 7 else 0
def fnext (m : Mk) (v : Int) : Mk := if v < m.floor then m else { m with floor := v }
def mnew (v : Int) : Mk := ⟨if v < 0 then 0 else v, 0, fun _ => 0⟩
structure Mk.Ok (m : Mk) : Prop where
  low : 0 ≤ m.floor
  most : 0 ≤ m.most
  high : m.floor < 9223372036854775808 ∧ m.most < 9223372036854775808
  f : ∀ k, 0 ≤ m.f k ∧ m.f k ≤ m.most
theorem LastIs.eq {m : Mk} (h : m.Ok) {s : K × K} {n n' : Int} (h1 : LastIs m s n) (h2 : LastIs m s n') : n = n' := by
  have := h.low
  rcases h1 with ⟨rfl, h1⟩ | ⟨h1, ⟨k, hk, hk2⟩, h3⟩ <;> rcases h2 with ⟨rfl, h2⟩ | ⟨h2, ⟨k', hk', hk2'⟩, h3'⟩
  · rfl
  · have := h1 k' hk'; omega
  · have := h2 k hk; omega
  · have := h3 k' hk'; have := h3' k hk; omega
theorem LastIs.clash {m : Mk} {s : K × K} {n : Int} (h : m.Ok) (h1 : LastIs m s n) (r : Int) (hr : 0 ≤ r) : (∃ k, has s k ∧ m.floor < m.f k ∧ r < m.f k) ↔ r < n := by
  have := h.low
  rcases h1 with ⟨rfl, h1⟩ | ⟨h1, ⟨k, hk, hk2⟩, h3⟩
  · constructor
    · rintro ⟨k, hk, h2, h4⟩
      have := h1 k hk; omega
    · intro h; omega
  · constructor
    · rintro ⟨u, hu, h2, h4⟩
      have := h3 u hu; omega
    · intro h5
      exact ⟨k, hk, by omega, by omega⟩
theorem verd_cases (m : Mk) (t : Txn) : verd m t = 1 ∨ verd m t = 2 ∨ verd m t = 3 := by
  unfold verd
  split
  · exact .inr (.inr rfl)
  · split
    · exact .inr (.inl rfl)
    · exact .inl rfl
theorem Mk.Ok.new {v : Int} (hv : v < 9223372036854775808) : (mnew v).Ok := by
  unfold mnew
  refine ⟨?_, Int.le_refl _, ⟨?_, by simp⟩, fun k => ⟨Int.le_refl _, Int.le_refl _⟩⟩
  · simp only; split <;> omega
  · simp only; split <;> omega
theorem Mk.Ok.forget {m : Mk} (h : m.Ok) {v : Int} (hv : v < 9223372036854775808) : (fnext m v).Ok := by
  unfold fnext
  split
  · exact h
  · have := h.low
    exact ⟨by simp only; omega, h.most, ⟨hv, h.high.2⟩, h.f⟩
theorem Mk.Ok.wrote {m : Mk} (h : m.Ok) {v : Int} (t : Txn) (hv : m.most ≤ v) (hv2 : v < 9223372036854775808) : (wrote m v t).Ok := by
  have h0 := h.most
  unfold Go.Proofs.Ytcmpbhcldaogiaa.wrote
  refine ⟨h.low, ?_, ⟨h.high.1, ?_⟩, fun k => ?_⟩
  · simp only; split <;> omega
  · simp only; split
    · exact hv2
    · exact h.high.2
  · have := h.f k
    simp only
    split
    · rename_i hk
      rw [if_pos ⟨k, hk⟩]
      omega
    · split <;> omega
theorem Mk.Ok.judge1 {m : Mk} (h : m.Ok) {v : Int} (t : Txn) (hv : m.most ≤ v) (hv2 : v < 9223372036854775808) : (judge1 m v t).Ok ∧ (judge1 m v t).most ≤ v ∧ (judge1 m v t).floor = m.floor := by
  unfold Go.Proofs.Ytcmpbhcldaogiaa.judge1
  split
  · refine ⟨h.wrote t hv hv2, ?_, rfl⟩
    unfold Go.Proofs.Ytcmpbhcldaogiaa.wrote
    simp only
    split <;> omega
  · exact ⟨h, hv, rfl⟩
theorem Mk.Ok.judgeM : ∀ (ts : List Txn) {m : Mk} {v : Int}, m.Ok → m.most ≤ v → v < 9223372036854775808 → (judgeM m v ts).Ok ∧ (judgeM m v ts).most ≤ v ∧ (judgeM m v ts).floor = m.floor
  | [], m, v, h, hv, _ => ⟨h, hv, rfl⟩
  | t :: ts, m, v, h, hv, hv2 => by
    obtain ⟨h1, h2, h3⟩ := h.judge1 t hv hv2
    obtain ⟨h4, h5, h6⟩ := Mk.Ok.judgeM ts h1 h2 hv2
    exact ⟨h4, h5, h6.trans h3⟩
theorem jerr_ok {m : Mk} {v : Int} {ts : List Txn} (h : jerr m v ts = 0) : m.floor < v ∧ m.most < v ∧ ts.length ≤ 4 ∧ ∀ t ∈ ts, soundT t := by
  unfold jerr at h
  split at h
  · cases h
  · split at h
    · cases h
    · rename_i h1 h2
      exact ⟨by omega, by omega, by omega, fun t ht => Classical.byContradiction fun hn => h2 (.inr ⟨t, ht, hn⟩)⟩
theorem Mk.Ok.jnext {m : Mk} (h : m.Ok) {v : Int} (ts : List Txn) (hv : v < 9223372036854775808) : (jnext m v ts).Ok := by
  unfold Go.Proofs.Ytcmpbhcldaogiaa.jnext
  split
  · rename_i he
    exact (Mk.Ok.judgeM ts h (by have := (jerr_ok he).2.1; omega) hv).1
  · exact h
theorem judgeL_len : ∀ (ts : List Txn) (m : Mk) (v : Int), (judgeL m v ts).length = ts.length
  | [], _, _ => rfl
  | t :: ts, m, v => by simp [judgeL, judgeL_len ts]
theorem judge_snoc : ∀ (ts : List Txn) (m : Mk) (v : Int) (t : Txn), judgeL m v (ts ++ [t]) = judgeL m v ts ++ [verd (judgeM m v ts) t] ∧ judgeM m v (ts ++ [t]) = judge1 (judgeM m v ts) v t
  | [], m, v, t => ⟨rfl, rfl⟩
  | x :: ts, m, v, t => by
    obtain ⟨h1, h2⟩ := judge_snoc ts (judge1 m v x) v t
    exact ⟨by simp [judgeL, judgeM, h1], by simp [judgeM, h2]⟩
end Go.Proofs.Ytcmpbhcldaogiaa
namespace Go.Proofs.Ytcmpbhcldaogiaa
open Go.RowKit

theorem wpList_addT {ops : Array Oper} {rest : List Oper} {o : Oper} {a : Act} {Q : Exit → Act → World → Prop} {w : World} (hgd : Region.wanted o (yielded ops a.tmps) = true) (s x : Operand)
    (ho : o.op = .call { callee := .builtin .append, args := #[s, x], argTypes := #[29, 29] })
    (base : Nat) (v : Value) (l : List (K × K)) (hs : a.eval s = v) (hown : OwnS w base v l) (B : Nat) (v2 : Value) (p : List (K × K)) (hx : a.eval x = v2) (hp : Rd cellsS 2 w B v2 p)
    (hlen : l.length + p.length ≤ 7036874417000) (hbase : base ≤ w.heap.size) (C : Nat) (w0 : World) (hb : Below C w0 w) (hC : C ≤ base)
    (h : ∀ A' c' w', Hid (OwnS w' base (.slice A' (l ++ p).length c') (l ++ p)) → Hid (Below C w0 w') → Hid (base ≤ w'.heap.size) → wpList Try.prog ops Q rest (a.put o.dst (.slice A' (l ++ p).length c')) w') : wpList Try.prog ops Q (o :: rest) a w := by
  obtain ⟨i0, hi, hz0, hz1, hz2⟩ := info_parts info_spans
  refine BigFrame.wpList_want hgd fun K hK => ?_
  refine wp_addAny (enc := cellsS) (k := 2) 29 24 32 i0 _ Try.underlying29 hi hz0 hz1 hz2 rfl (by decide) cellsS_len cellsS_one s x ho base v l hs hown B v2 p hx hp (by unfold maxLen; omega) (by omega) hbase fun A' c' w' h1 h2 => ?_
  have hown2 : Own cellsS 2 24 w base v l := hown
  exact hK _ _ (h A' c' w' (Lib.hid h1) (Lib.hid (hown2.grown hb h2 hC (Nat.le_trans hC hbase))) (Lib.hid (Nat.le_trans hbase h2.size)))
end Go.Proofs.Ytcmpbhcldaogiaa
namespace Go.Proofs.Ytcmpbhcldaogiaa
open Go.RowKit

/-- of the blocks that were there those of D alone have moved -/
structure Mv (D : Nat → Prop) (w w' : World) : Prop where
  os : w'.os = w.os
  tape : w'.tape = w.tape
  output : w'.output = w.output
  size : w.heap.size ≤ w'.heap.size
  block : ∀ i, i < w.heap.size → ¬ D i → w'.heap[i]? = w.heap[i]?
namespace Mv
variable {D D' : Nat → Prop} {w w' w2 : World}
theorem refl (D : Nat → Prop) (w : World) : Mv D w w := ⟨rfl, rfl, rfl, Nat.le_refl _, fun _ _ _ => rfl⟩
theorem mono (h : Mv D w w') (hD : ∀ i, i < w.heap.size → D i → D' i) : Mv D' w w' := ⟨h.os, h.tape, h.output, h.size, fun i hi hn => h.block i hi fun hd => hn (hD i hi hd)⟩
theorem trans (h : Mv D w w') (h2 : Mv D' w' w2) (hD : ∀ i, i < w.heap.size → D' i → D i) : Mv D w w2 :=
  ⟨h2.os.trans h.os, h2.tape.trans h.tape, h2.output.trans h.output, Nat.le_trans h.size h2.size, fun i hi hn => (h2.block i (Nat.lt_of_lt_of_le hi h.size) fun hd => hn (hD i hi hd)).trans (h.block i hi hn)⟩
theorem of_grown {row : Option Nat} (h : w.grownBy w' row) : Mv (fun i => some i = row) w w' := ⟨h.os, h.tape, h.output, h.size, fun i hi hn => h.block i hi hn⟩
theorem grown {row : Option Nat} (h : Mv D w w') (h2 : w'.grownBy w2 row) (hD : ∀ i, i < w.heap.size → some i = row → D i) : Mv D w w2 := h.trans (of_grown h2) hD
theorem alloc (h : Mv D w w') (o : Obj) : Mv D w (w'.alloc o) :=
  h.trans (D' := fun _ => False) ⟨rfl, rfl, rfl, by simp, fun i hi _ => Below.heap_alloc w' o i hi⟩ (fun _ _ h => h.elim)
theorem setCell (h : Mv D w w') {p : Addr} (hp : p.block < w.heap.size → D p.block) (u : Value) : Mv D w (w'.setCell p u) := by
  refine h.trans (D' := fun i => i = p.block) ⟨rfl, rfl, rfl, by simp, fun i hi hn => Below.heap_setCell w' p u i hn⟩ ?_
  rintro i hi rfl
  exact hp hi
theorem drew (h : Mv D w w') : Mv D w w'.drew := ⟨h.os, h.tape, h.output, h.size, h.block⟩
theorem below {B : Nat} (h : Mv D w w') (hB : B ≤ w.heap.size) (hD : ∀ i, D i → B ≤ i) : Below B w w' :=
  ⟨h.os, h.tape, h.output, h.size, fun k hk => h.block k (Nat.lt_of_lt_of_le hk hB) fun hd => by have := hD k hd; omega⟩
theorem of_below {B : Nat} (h : Below B w w') : Mv (fun i => B ≤ i) w w' := ⟨h.os, h.tape, h.output, h.size, fun i _ hn => h.block i (by omega)⟩
theorem of_new (h : Below w.heap.size w w') (D : Nat → Prop) : Mv D w w' := ⟨h.os, h.tape, h.output, h.size, fun i hi _ => h.block i hi⟩
theorem whole {g : Nat} {t : TypeId} {cs : List Value} (hg : Whole w g t cs) (h : Mv D w w') (hn : ¬ D g) : Whole w' g t cs := (h.block g hg.size hn).trans hg
end Mv

/-- the row is the same, or a new one, or none -/
def NewRow (w : World) (o o' : Option Nat) : Prop := ∀ g, o' = some g → o = some g ∨ w.heap.size ≤ g
theorem NewRow.refl (w : World) (o : Option Nat) : NewRow w o o := fun _ h => .inl h
theorem NewRow.out {w : World} {o o' : Option Nat} (h : NewRow w o o') {r : Nat} (hr : r < w.heap.size) (hn : o ≠ some r) : o' ≠ some r := by
  intro he
  rcases h r he with h1 | h1
  · exact hn h1
  · omega
theorem NewRow.low {w : World} {base : Nat} {o o' : Option Nat} (h : NewRow w o o') (hb : base ≤ w.heap.size) (hl : ∀ g, o = some g → base ≤ g) : ∀ g, o' = some g → base ≤ g := by
  intro g he
  rcases h g he with h1 | h1
  · exact hl g h1
  · omega
theorem NewRow.trans {w w' : World} {o o' o2 : Option Nat} (h : NewRow w o o') (h2 : NewRow w' o' o2) (hs : w.heap.size ≤ w'.heap.size) : NewRow w o o2 := by
  intro g he
  rcases h2 g he with h1 | h1
  · exact h g h1
  · exact .inr (Nat.le_trans hs h1)
end Go.Proofs.Ytcmpbhcldaogiaa
namespace Go.Proofs.Ytcmpbhcldaogiaa
open Go.RowKit

section
variable {α : Type} {enc : α → List Value} {k : Nat} {e : TypeId}
/-- cells below block B, in no block of G -/
def RdG (enc : α → List Value) (k : Nat) (w : World) (B : Nat) (G : Nat → Prop) (v : Value) (l : List α) : Prop :=
  ∃ A c, v = .slice A l.length c ∧ l.length ≤ c ∧ ∀ i (_ : i < l.length), ∃ b o, A = some ⟨b, o, none⟩ ∧ b < B ∧ ¬ G b ∧ ∀ j u, (enc l[i])[j]? = some u → w.cell? ⟨b, o + i * k + j, none⟩ = some u
variable {w w' : World} {B B' : Nat} {G G' : Nat → Prop} {v : Value} {l : List α}
theorem RdG.rd (h : RdG enc k w B G v l) : Rd enc k w B v l := by
  obtain ⟨A, c, rfl, hc, hi⟩ := h
  refine ⟨A, c, rfl, hc, fun i hs => ?_⟩
  obtain ⟨b, o, hA, hb, _, h1⟩ := hi i hs
  exact ⟨b, o, hA, hb, h1⟩
theorem RdG.of (h : Rd enc k w B v l) (hG : ∀ b, b < B → ¬ G b) : RdG enc k w B G v l := by
  obtain ⟨A, c, rfl, hc, hi⟩ := h
  refine ⟨A, c, rfl, hc, fun i hs => ?_⟩
  obtain ⟨b, o, hA, hb, h1⟩ := hi i hs
  exact ⟨b, o, hA, hb, hG b hb, h1⟩
theorem RdG.mv {D : Nat → Prop} (h : RdG enc k w B G v l) (hm : Mv D w w') (hB : B ≤ w.heap.size) (hD : ∀ b, b < B → D b → G b) : RdG enc k w' B G v l := by
  obtain ⟨A, c, rfl, hc, hi⟩ := h
  refine ⟨A, c, rfl, hc, fun i hs => ?_⟩
  obtain ⟨b, o, hA, hb, hg, h1⟩ := hi i hs
  exact ⟨b, o, hA, hb, hg, fun j u hu => by rw [World.cell?_of_block (w := w) (hm.block b (by omega) (fun h => hg (hD b hb h)))]; exact h1 j u hu⟩
theorem RdG.mono (h : RdG enc k w B G v l) (hB : B ≤ B') (hG : ∀ b, b < B → G' b → G b) : RdG enc k w B' G' v l := by
  obtain ⟨A, c, rfl, hc, hi⟩ := h
  refine ⟨A, c, rfl, hc, fun i hs => ?_⟩
  obtain ⟨b, o, hA, hb, hg, h1⟩ := hi i hs
  exact ⟨b, o, hA, by omega, fun h => hg (hG b hb h), h1⟩
theorem RdG.none_ (w : World) (B : Nat) (G : Nat → Prop) (A : Option Addr) (c : Nat) : RdG enc k w B G (.slice A 0 c) [] := ⟨A, c, rfl, Nat.zero_le _, fun i hi => by simp at hi⟩
theorem RdG.or {G1 G2 : Nat → Prop} (h : RdG enc k w B G1 v l) (h2 : RdG enc k w B G2 v l) : RdG enc k w B (fun i => G1 i ∨ G2 i) v l := by
  obtain ⟨A, c, rfl, hc, hi⟩ := h
  obtain ⟨A2, c2, ee, hc2, hi2⟩ := h2
  injection ee with e1 _ e3
  subst e1 e3
  refine ⟨A, c, rfl, hc, fun i hs => ?_⟩
  obtain ⟨b, o, hA, hb, hg, h1⟩ := hi i hs
  obtain ⟨b2, o2, hA2, _, hg2, _⟩ := hi2 i hs
  rw [hA] at hA2
  injection hA2 with hA2
  injection hA2 with e4
  subst e4
  exact ⟨b, o, hA, hb, fun h => h.elim hg hg2, h1⟩
/-- what is owned from base on -/
theorem RdG.own {base : Nat} (hk : ∀ x, (enc x).length = k) (h : Own enc k e w base v l) (hG : ∀ b, base ≤ b → b < w.heap.size → v.ownBlock = some b → ¬ G b) : RdG enc k w w.heap.size G v l := by
  obtain ⟨A, c, hv, hc, hi⟩ := Own.rd hk h
  refine ⟨A, c, hv, hc, fun i hs => ?_⟩
  obtain ⟨b, o, hA, hb, h1⟩ := hi i hs
  refine ⟨b, o, hA, hb, ?_, h1⟩
  rcases h.form with ⟨_, e0⟩ | ⟨g, cap, ee, hg, _, _⟩
  · rw [e0] at hs; simp at hs
  · rw [hv, hA] at ee
    injection ee with ee _ _
    injection ee with ee
    injection ee with ee _ _
    subst ee
    exact hG b hg hb (by rw [hv, hA]; rfl)
/-- those from n on -/
theorem RdG.drop {A : Option Addr} {c m : Nat} (h : RdG enc k w B G (.slice A m c) l) (n c' : Nat) (hn : n ≤ l.length) (hc' : l.length - n ≤ c') (A' : Option Addr) (hA' : n < l.length → A' = A.map (·.add (n * k))) :
    RdG enc k w B G (.slice A' (l.length - n) c') (l.drop n) := by
  obtain ⟨A0, c0, hv, hc, hi⟩ := h
  injection hv with h1 h2 h3
  subst h1 h3
  refine ⟨A', c', by simp, by simpa using hc', fun i hs => ?_⟩
  have hs' : n + i < l.length := by simp at hs; omega
  obtain ⟨b, o, hA, hb, hg, h1⟩ := hi (n + i) hs'
  refine ⟨b, o + n * k, ?_, hb, hg, fun j u hu => ?_⟩
  · rw [hA' (by omega), hA]
    simp only [Option.map_some, Option.some.injEq]
    unfold Addr.add
    split
    · rename_i hz; rw [hz]; rfl
    · rfl
  · have := h1 j u (by simpa using hu)
    rwa [show o + (n + i) * k + j = o + n * k + i * k + j by rw [Nat.add_mul]; omega] at this
end
end Go.Proofs.Ytcmpbhcldaogiaa
namespace Go.Proofs.Ytcmpbhcldaogiaa
open Go.ChangeShapes Go.WideShapes Go.ChangeAt Go.RowKit Go.Joins Go.Deep

set_option maxRecDepth 100000 in
theorem info_int : (Try.prog.info? 3).map (fun i => (i.zero, i.size, i.bytes)) = some (some (.int .i64 0), 1, 8) := by kernel_rfl
/-- an int's cell -/
def encI (n : Int) : List Value := [.int .i64 n]
set_option maxRecDepth 100000 in
theorem encI_len (n : Int) : (encI n).length = 1 := rfl
set_option maxRecDepth 100000 in
theorem encI_one (n : Int) : ∀ u ∈ encI n, u.oneCell' = true := by simp [encI, Value.oneCell']
abbrev RdI (w : World) (B : Nat) (v : Value) (l : List Int) : Prop := Rd encI 1 w B v l
abbrev OwnI (w : World) (base : Nat) (v : Value) (l : List Int) : Prop := Own encI 1 3 w base v l
set_option maxRecDepth 100000 in
theorem OwnI.rdI {w : World} {base : Nat} {v : Value} {l : List Int} (h : OwnI w base v l) : RdI w w.heap.size v l := Own.rd encI_len h
set_option maxRecDepth 100000 in
theorem RdI.at {w : World} {B : Nat} {v : Value} {l : List Int} (h : RdI w B v l) : ∃ A c, v = .slice A l.length c ∧ l.length ≤ c ∧ ∀ i (_ : i < l.length), ∃ b o, A = some ⟨b, o, none⟩ ∧ b < B ∧ w.cell? ⟨b, o + i, none⟩ = some (.int .i64 l[i]) := by
  obtain ⟨A, c, hv, hc, hi⟩ := h
  refine ⟨A, c, hv, hc, fun i hs => ?_⟩
  obtain ⟨b, o, hA, hB, h1⟩ := hi i hs
  have := h1 0 _ rfl
  simp only [Nat.mul_one, Nat.add_zero] at this
  exact ⟨b, o, hA, hB, this⟩
set_option maxRecDepth 100000 in
theorem RdI.one (w : World) (n : Int) : RdI (w.alloc (.cells #[.int .i64 n] 3)) (w.heap.size + 1) (.slice (some ⟨w.heap.size, 0, none⟩) 1 1) [n] := by
  refine ⟨_, 1, rfl, Nat.le_refl _, fun i hi => ⟨w.heap.size, 0, rfl, Nat.lt_succ_self _, fun j u hu => ?_⟩⟩
  obtain rfl : i = 0 := by simp at hi; omega
  match j, hu with
  | 0, hu =>
    simp only [encI, List.getElem_cons_zero, List.getElem?_cons_zero, Option.some.injEq] at hu
    subst hu
    exact World.cell?_alloc_at _ _ _ _ rfl
  | j + 1, hu => simp [encI] at hu
set_option maxRecDepth 100000 in
theorem wpList_addI {ops : Array Oper} {rest : List Oper} {o : Oper} {a : Act} {Q : Exit → Act → World → Prop} {w : World} (hgd : Region.wanted o (yielded ops a.tmps) = true) (s x : Operand)
    (ho : o.op = .call { callee := .builtin .append, args := #[s, x], argTypes := #[35, 35] })
    (base : Nat) (v : Value) (l : List Int) (hs : a.eval s = v) (hown : OwnI w base v l) (B : Nat) (v2 : Value) (p : List Int) (hx : a.eval x = v2) (hp : RdI w B v2 p)
    (hlen : l.length + p.length ≤ 28147497670000) (hbase : base ≤ w.heap.size) (C : Nat) (w0 : World) (hb : Below C w0 w) (hC : C ≤ base)
    (h : ∀ A' c' w', Hid (OwnI w' base (.slice A' (l ++ p).length c') (l ++ p)) → Hid (Below C w0 w') → Hid (base ≤ w'.heap.size) → wpList Try.prog ops Q rest (a.put o.dst (.slice A' (l ++ p).length c')) w') : wpList Try.prog ops Q (o :: rest) a w := by
  obtain ⟨i0, hi, hz0, hz1, hz2⟩ := info_parts info_int
  refine BigFrame.wpList_want hgd fun K hK => ?_
  refine wp_addAny (enc := encI) (k := 1) 35 3 8 i0 _ Try.underlying35 hi hz0 hz1 hz2 rfl (by decide) encI_len encI_one s x ho base v l hs hown B v2 p hx hp (by unfold maxLen; omega) (by omega) hbase fun A' c' w' h1 h2 => ?_
  exact hK _ _ (h A' c' w' (Lib.hid h1) (Lib.hid (hown.grown hb h2 hC (Nat.le_trans hC hbase))) (Lib.hid (Nat.le_trans hbase h2.size)))

/-- what is known of the data of ints -/
def SizedI {H : Type} (d : DataW H) (l : List Int) : Prop := (d = .nil ∧ l = []) ∨ ∃ el sp, d = .slice el sp ∧ el.length = l.length
set_option maxRecDepth 100000 in
/-- a slice of ints that came in reads as a list -/
theorem open_intsI {H : Type} {enc : TypeId × Value → H} {W : World} {base : Nat} {v : Value} {d : DataW H} {p : List MemPlace} (hv : Value.okWide Try.prog W .any base 35 v) (h : DataW.Trod enc Try.prog W 0 (fun _ => true) true 35 v d p) :
    ∃ l, RdI W W.heap.size v l ∧ SizedI d l ∧ ∀ n ∈ l, -9223372036854775808 ≤ n ∧ n < 9223372036854775808 := by
  obtain ⟨a0, len, cap, rfl⟩ := okWide_slice Try.underlying35 hv
  obtain ⟨fuel, hf⟩ := h
  rcases open_ints Try.underlying35 Try.underlying3 (by kernel_rfl) hf with ⟨hcs, hx⟩ | ⟨a, len', cap', zs, hcs, _, hl, hm, hz, hx, hcell, hwz⟩
  · simp only [Value.cells] at hcs
    have e : Value.slice a0 len cap = .slice none 0 0 := by simpa using hcs
    injection e with e1 e2 e3
    subst e1 e2 e3
    simp only [Prod.mk.injEq] at hx
    exact ⟨[], Rd.nil _ _, .inl ⟨hx.1, rfl⟩, by simp⟩
  · simp only [Value.cells] at hcs
    have e : Value.slice a0 len cap = .slice (some a) len' cap' := by simpa using hcs
    injection e with e1 e2 e3
    subst e1 e2 e3
    simp only [Prod.mk.injEq] at hx
    obtain ⟨rfl, rfl⟩ := hx
    simp only [if_true] at hz
    have hb : ∀ n ∈ zs, -9223372036854775808 ≤ n ∧ n < 9223372036854775808 := fun n hn => by
      have h := hwz n hn
      have h1 : IntKind.i64.min = -9223372036854775808 := rfl
      have h2 : IntKind.i64.max = 9223372036854775807 := rfl
      simp only [Lit.wf, Bool.and_eq_true, decide_eq_true_eq] at h
      omega
    have hlen : (zs.take len).length = len := by simp; omega
    refine ⟨zs.take len, ⟨some a, cap, by rw [hlen], by rw [hlen]; exact hl, fun i hi => ?_⟩, .inr ⟨_, _, rfl, by simp [lits]⟩, fun n hn => hb n (List.mem_of_mem_take hn)⟩
    have hi' : i < len := by omega
    have hc := hcell i (by omega)
    have hsp : a.spot = none := by
      have h0 := hcell 0 (by omega)
      have e0 : a.add 0 = a := rfl
      rw [e0] at h0
      exact World.cell?_spot h0
    rw [addr_add a i hsp] at hc
    have hblk := World.block_lt_of_cell? _ _ hc
    refine ⟨a.block, a.off, by cases a; simp only at hsp; subst hsp; rfl, hblk, fun j u hu => ?_⟩
    match j, hu with
    | 0, hu =>
      simp only [encI, List.getElem?_cons_zero, Option.some.injEq] at hu
      subst hu
      have hlt : i < zs.length := by omega
      rw [Nat.mul_one, Nat.add_zero, hc]
      simp [List.getD, hlt]
    | j + 1, hu => simp [encI] at hu
set_option maxRecDepth 100000 in
theorem SizedI.reach {H : Type} {ts : List TypeId} {ds : List (DataW H)} (h : (DataW.weightsEach Try.prog ts ds).all (· ≤ reachBytes) = true) {j : Nat} {d : DataW H} {l : List Int} (hs : SizedI d l) (ht : ts[j]? = some 35) (hd : ds[j]? = some d) : l.length ≤ 17592186043904 := by
  rcases hs with ⟨_, rfl⟩ | ⟨el, sp, rfl, he⟩
  · simp
  · have := sized_slice h ht hd Try.underlying35
    rw [show Try.prog.bytesOf 3 = 8 by kernel_rfl, show reachBytes = 140737488351232 from rfl] at this
    omega
end Go.Proofs.Ytcmpbhcldaogiaa
namespace Go.Proofs.Ytcmpbhcldaogiaa
open Go.RowKit
attribute [local go_sem] less_eq same_eq le_eq ge_eq gt_eq

def encW (x : Wr) : List Value := [.string x.s.1, .string x.s.2, .int .i64 x.v]
theorem encW_len (x : Wr) : (encW x).length = 3 := rfl
theorem encW_one (x : Wr) : ∀ u ∈ encW x, u.oneCell' = true := by
  intro u hu
  simp only [encW, List.mem_cons, List.not_mem_nil, or_false] at hu
  rcases hu with rfl | rfl | rfl <;> rfl
abbrev RdW (w : World) (B : Nat) (v : Value) (l : List Wr) : Prop := Rd encW 3 w B v l
theorem RdW.at {w : World} {B : Nat} {v : Value} {l : List Wr} (h : RdW w B v l) : ∃ A c, v = .slice A l.length c ∧ l.length ≤ c ∧ ∀ i (_ : i < l.length), ∃ b o, A = some ⟨b, o, none⟩ ∧ b < B ∧
    w.cell? ⟨b, o + i * 3, none⟩ = some (.string l[i].s.1) ∧ w.cell? ⟨b, o + i * 3 + 1, none⟩ = some (.string l[i].s.2) ∧ w.cell? ⟨b, o + i * 3 + 2, none⟩ = some (.int .i64 l[i].v) := by
  obtain ⟨A, c, hv, hc, hi⟩ := h
  refine ⟨A, c, hv, hc, fun i hs => ?_⟩
  obtain ⟨b, o, hA, hB, h1⟩ := hi i hs
  exact ⟨b, o, hA, hB, h1 0 _ rfl, h1 1 _ rfl, h1 2 _ rfl⟩
def RmD (r : Nat) (ov : Option Nat) : Nat → Prop := fun i => i = r ∨ some i = ov
section
variable {w w' : World} {base r : Nat} {ov : Option Nat} {D : Nat → Prop} {n : Nat} {m : Mk} {floor most : Int} {L : List Wr}
theorem Own.mvG {α : Type} {enc : α → List Value} {k : Nat} {e : TypeId} {D : Nat → Prop} {v : Value} {l : List α} (h : Own enc k e w base v l) (hm : Mv D w w') (hn : ∀ g, v.ownBlock = some g → ¬ D g) : Own enc k e w' base v l := by
  refine ⟨h.1, ?_⟩
  rcases h.2 with h2 | ⟨g, cap, cur, rfl, hb, hh, r⟩
  · exact .inl h2
  · exact .inr ⟨g, cap, cur, rfl, hb, (hm.block g (Array.getElem?_eq_some_iff.1 hh).1 (hn g rfl)).trans hh, r⟩
end
theorem left_iff {L : List Wr} {n : Nat} (hn : n < L.length) (k : K) : Left L n k ↔ has L[n].s k ∧ ¬ mem ((L.drop (n + 1)).map (·.s)) k := by
  unfold Left mem
  constructor
  · rintro ⟨x, hx, h1, h2⟩
    rw [List.getElem?_eq_getElem hn] at hx
    injection hx with hx
    subst hx
    refine ⟨h1, ?_⟩
    rintro ⟨s, hs, hk⟩
    obtain ⟨y, hy, rfl⟩ := List.mem_map.1 hs
    exact h2 y hy hk
  · rintro ⟨h1, h2⟩
    exact ⟨_, List.getElem?_eq_getElem hn, h1, fun y hy hk => h2 ⟨_, List.mem_map.2 ⟨y, hy, rfl⟩, hk⟩⟩
end Go.Proofs.Ytcmpbhcldaogiaa
namespace Go.Proofs.Ytcmpbhcldaogiaa
open Go.RowKit
section
variable {α : Type} {enc : α → List Value} {k : Nat}
theorem flatG_take (hk : ∀ x, (enc x).length = k) : ∀ (l : List α) (i : Nat), flatG enc (l.take i) = (flatG enc l).take (i * k)
  | [], i => by simp [flatG]
  | x :: r, 0 => by simp [flatG]
  | x :: r, i + 1 => by
    rw [List.take_succ_cons, show x :: r.take i = [x] ++ r.take i from rfl, show x :: r = [x] ++ r from rfl, flatG_append, flatG_append, flatG_take hk r i, List.take_append]
    have h1 : (flatG enc [x]).length = k := by simp [flatG, hk]
    rw [List.take_of_length_le (l := flatG enc [x]) (by rw [h1, Nat.add_mul]; omega), h1, show (i + 1) * k - k = i * k by rw [Nat.add_mul]; omega]
theorem flatG_drop (hk : ∀ x, (enc x).length = k) : ∀ (l : List α) (i : Nat), flatG enc (l.drop i) = (flatG enc l).drop (i * k)
  | [], i => by simp [flatG]
  | x :: r, 0 => by simp [flatG]
  | x :: r, i + 1 => by
    rw [List.drop_succ_cons, show x :: r = [x] ++ r from rfl, flatG_append, flatG_drop hk r i, List.drop_append]
    have h1 : (flatG enc [x]).length = k := by simp [flatG, hk]
    rw [show (flatG enc [x]).drop ((i + 1) * k) = [] from List.drop_eq_nil_of_le (by rw [h1, Nat.add_mul]; omega), h1, show (i + 1) * k - k = i * k by rw [Nat.add_mul]; omega, List.nil_append]
end
section
variable {α : Type} (L cs : List α) (off n : Nat)
theorem take_splice_lt (h : n ≤ off) (ho : off ≤ L.length) : (splice L off cs).take n = L.take n := by
  unfold splice
  rw [List.take_append_of_le_length (by simp; omega), List.take_take, Nat.min_eq_left h]
theorem take_splice_end (h : off ≤ L.length) (hn : n = off + cs.length) : (splice L off cs).take n = L.take off ++ cs := by
  unfold splice
  subst hn
  rw [← List.append_assoc, List.take_append_of_le_length (by simp; omega)]
  exact List.take_of_length_le (by simp; omega)
theorem drop_splice_ge (h : off + cs.length ≤ n) (ho : off ≤ L.length) : (splice L off cs).drop n = L.drop n := by
  unfold splice
  rw [← List.append_assoc, List.drop_append, List.drop_eq_nil_of_le (by simp; omega), List.nil_append, List.drop_drop]
  congr 1
  simp; omega
theorem get_splice_ge (j : Nat) (h : off + cs.length ≤ j) (ho : off ≤ L.length) : (splice L off cs)[j]? = L[j]? := by
  have := drop_splice_ge L cs off j h ho
  have h2 := congrArg (fun l => l[0]?) this
  simpa using h2
end
theorem Whole.srcs {w : World} {g : Nat} {t : TypeId} {cur : List Value} (h : Whole w g t cur) (o : Nat) (cs : List Value) (hc : ∀ j v, cs[j]? = some v → cur[o + j]? = some v) : ∀ j v, cs[j]? = some v → w.cell? ((⟨g, o, none⟩ : Addr).add j) = some v :=
  fun j v hj => by rw [Addr.add_lit]; exact h.cell _ _ (hc j v hj)
theorem cells_at {cur A B : List Value} {n : Nat} (h : cur.take n = A ++ B) : ∀ j v, B[j]? = some v → cur[A.length + j]? = some v := by
  intro j v hj
  have hl : A.length + j < n := by
    have h1 := (List.getElem?_eq_some_iff.1 hj).1
    have h2 := congrArg List.length h
    simp at h2
    omega
  have h3 : (cur.take n)[A.length + j]? = some v := by rw [h, List.getElem?_append_right (by omega), Nat.add_sub_cancel_left]; exact hj
  rwa [List.getElem?_take_of_lt hl] at h3
theorem Moved.away {w w' : World} {g : Nat} {t : TypeId} {cur : List Value} (h : Moved w w' g t cur) {b : Nat} {t' : TypeId} {cs : List Value} (hb : Whole w b t' cs) (hne : b ≠ g) : Whole w' b t' cs := hb.grown h.grown (by simpa using hne)

set_option maxRecDepth 100000 in
theorem info_mk : (Try.prog.info? 60).map (fun i => (i.zero, i.size, i.bytes)) = some (some (.agg #[.string ⟨#[]⟩, .string ⟨#[]⟩, .int .i64 0]), 3, 40) := by kernel_rfl
theorem info_mkE : ∃ i0, Try.prog.info? 60 = some i0 ∧ i0.zero = some (.agg #[.string ⟨#[]⟩, .string ⟨#[]⟩, .int .i64 0]) ∧ i0.size = 3 ∧ i0.bytes = 40 := info_parts info_mk
abbrev OwnMk (w : World) (base : Nat) (v : Value) (l : List Wr) : Prop := Own encW 3 60 w base v l

section
variable {ops : Array Oper} {rest : List Oper} {o : Oper} {a : Act} {Q : Exit → Act → World → Prop} {K1 : Act → World → Prop} {w : World}
theorem wp_copyP (d s : Operand) (ho : o.op = .call { callee := .builtin .copy, args := #[d, s], argTypes := #[49, 49] })
    (g off : Nat) (cur cs : List Value) (dp sp : Option Addr) (dLen dCap sLen sCap : Nat) (hd : a.eval d = .slice dp dLen dCap) (hs : a.eval s = .slice sp sLen sCap) (hg : Whole w g 60 cur) (hn : cs.length = Nat.min sLen dLen * 3)
    (hp : 0 < cs.length → dp = some ⟨g, off, none⟩) (hsrc : Srcs w sp cs) (hfit : off + cs.length ≤ cur.length) (h1 : ∀ v ∈ cs, v.oneCell' = true)
    (h : ∀ w', Hid (Moved w w' g 60 (splice cur off cs)) → K1 (a.put o.dst (goInt (Nat.min sLen dLen))) w') : Oper.wp Try.prog o a w K1 Q := by
  obtain ⟨i0, hi, hz0, hz1, hz2⟩ := info_mkE
  obtain ⟨w', hr, hm⟩ := run_copyK (P := Try.prog) w 49 49 o.type 60 i0 3 Try.underlying49 hi hz1 g off dLen dCap dp sp sLen sCap _ cur hg cs hn hp hsrc hfit h1
  exact wp_call2 .copy (.inl rfl) d s _ _ ho _ _ hd hs hr (h w' (Lib.hid hm))
theorem wpList_copyP (hgd : Region.wanted o (yielded ops a.tmps) = true) (d s : Operand) (ho : o.op = .call { callee := .builtin .copy, args := #[d, s], argTypes := #[49, 49] })
    (g off : Nat) (cur cs : List Value) (dp sp : Option Addr) (dLen dCap sLen sCap : Nat) (hd : a.eval d = .slice dp dLen dCap) (hs : a.eval s = .slice sp sLen sCap) (hg : Whole w g 60 cur) (hn : cs.length = Nat.min sLen dLen * 3)
    (hp : 0 < cs.length → dp = some ⟨g, off, none⟩) (hsrc : Srcs w sp cs) (hfit : off + cs.length ≤ cur.length) (h1 : ∀ v ∈ cs, v.oneCell' = true)
    (h : ∀ w', Hid (Moved w w' g 60 (splice cur off cs)) → wpList Try.prog ops Q rest (a.put o.dst (goInt (Nat.min sLen dLen))) w') : wpList Try.prog ops Q (o :: rest) a w :=
  BigFrame.wpList_want hgd fun _ hK => wp_copyP d s ho g off cur cs dp sp dLen dCap sLen sCap hd hs hg hn hp hsrc hfit h1 fun w' hm => hK _ _ (h w' hm)
theorem wpList_roomP (hgd : Region.wanted o (yielded ops a.tmps) = true) (d s : Operand) (ho : o.op = .call { callee := .builtin .append, args := #[d, s], argTypes := #[49, 49] })
    (g i cap : Nat) (cur cs : List Value) (sp : Option Addr) (m mc : Nat) (hd : a.eval d = .slice (some ⟨g, 0, none⟩) i cap) (hs : a.eval s = .slice sp m mc) (hg : Whole w g 60 cur) (hn : cs.length = m * 3)
    (hsrc : Srcs w sp cs) (hroom : i + m ≤ cap) (hfit : i * 3 + cs.length ≤ cur.length) (h1 : ∀ v ∈ cs, v.oneCell' = true)
    (h : ∀ w', Hid (Moved w w' g 60 (splice cur (i * 3) cs)) → wpList Try.prog ops Q rest (a.put o.dst (.slice (some ⟨g, 0, none⟩) (i + m) cap)) w') : wpList Try.prog ops Q (o :: rest) a w := by
  obtain ⟨i0, hi, hz0, hz1, hz2⟩ := info_mkE
  obtain ⟨w', hr, hm⟩ := run_roomK (P := Try.prog) w 49 o.type 60 i0 3 Try.underlying49 hi hz1 g i cap sp m mc _ cur hg cs hn hsrc hroom hfit h1
  exact BigFrame.wpList_want hgd fun K2 hK => wp_call2 .append (.inr rfl) d s _ _ ho _ _ hd hs hr (hK _ _ (h w' (Lib.hid hm)))
theorem wpList_clearP (hgd : Region.wanted o (yielded ops a.tmps) = true) (d : Operand) (ho : o.op = .call { callee := .builtin .clear, args := #[d], argTypes := #[49] })
    (g off : Nat) (cur : List Value) (dp : Option Addr) (n c : Nat) (hd : a.eval d = .slice dp n c) (hg : Whole w g 60 cur) (hp : 0 < n → dp = some ⟨g, off, none⟩) (hfit : off + n * 3 ≤ cur.length)
    (h : ∀ w' zs, zs.length = n * 3 → Hid (Moved w w' g 60 (splice cur off zs)) → wpList Try.prog ops Q rest (a.put o.dst (.tuple #[])) w') : wpList Try.prog ops Q (o :: rest) a w := by
  obtain ⟨w', zs, hr, hl, hm⟩ := run_clearK (P := Try.prog) w 49 o.type 60 (.agg #[.string ⟨#[]⟩, .string ⟨#[]⟩, .int .i64 0]) 3 Try.underlying49 Try.zeroValue60 rfl (by intro v hv; simp [Value.cells] at hv; rcases hv with rfl | rfl <;> rfl) g off n c dp _ cur hg hp hfit
  exact BigFrame.wpList_want hgd fun K2 hK => wp_clearK d _ ho _ hd hr (hK _ _ (h w' zs hl (Lib.hid hm)))
theorem wpList_zerosP (hgd : Region.wanted o (yielded ops a.tmps) = true) (d s : Operand) (ho : o.op = .call { callee := .builtin .append, args := #[d, s], argTypes := #[49, 3] })
    (ap : Option Addr) (i cap n : Nat) (olds : List Value) (hd : a.eval d = .slice ap i cap) (hs : a.eval s = .int .i64 n) (hl : olds.length = i * 3) (hsrc : Srcs w ap olds) (h0 : 0 < n) (hg : cap < i + n) (hfit : i + n ≤ 2000000)
    (h : ∀ w' c cur, Hid (Whole w' w.heap.size 60 cur ∧ cur.length = c * 3 ∧ cur.take (i * 3) = olds ∧ i + n ≤ c ∧ c ≤ maxLen ∧ w.grownBy w' none ∧ w'.heap.size = w.heap.size + 1) → i + n ≤ c → wpList Try.prog ops Q rest (a.put o.dst (.slice (some ⟨w.heap.size, 0, none⟩) (i + n) c)) w') : wpList Try.prog ops Q (o :: rest) a w := by
  obtain ⟨i0, hi, hz0, hz1, hz2⟩ := info_mkE
  obtain ⟨w', c, cur, hr, hm⟩ := run_zerosK (P := Try.prog) w 49 3 o.type 60 i0 _ 3 40 .i64 _ Try.underlying49 Try.underlying3 hi hz0 hz1 (by decide) hz2 rfl ap i cap n olds hl hsrc h0 hg (by unfold maxLen; omega) (by omega)
  exact BigFrame.wpList_want hgd fun K2 hK => wp_call2 .append (.inr rfl) d s _ _ ho _ _ hd hs hr (hK _ _ (h w' c cur (Lib.hid hm) hm.2.2.2.1))
end
theorem encW_one' (l : List Wr) : ∀ v ∈ flatG encW l, v.oneCell' = true := by
  intro u hu
  obtain ⟨y, _, hy⟩ := List.mem_flatMap.1 hu
  exact encW_one y u hy
end Go.Proofs.Ytcmpbhcldaogiaa
namespace Go.Proofs.Ytcmpbhcldaogiaa
open Go.RowKit
attribute [local go_sem] less_eq same_eq le_eq ge_eq gt_eq

set_option maxHeartbeats 400000 in
theorem empty_any (s : K × K) (w : World) : Calls Try.prog 20 #[.agg #[.string s.1, .string s.2]] w fun e w' => e = .returned (.bool (decide (s.2 ≤ s.1))) ∧ Below w.heap.size w w' := by
  go_enter Try.func20, Try.ntmps20
  go_wp2
  go_ret
  exact ⟨rfl, (Below.refl _ _).alloc (Nat.le_refl _) _⟩

/-- cmp.Compare at texts -/
def cmpKey (a b : K) : Int := if a < b then -1 else if b < a then 1 else 0
set_option maxHeartbeats 400000 in
theorem compare_any (a b : K) (w : World) : Calls Try.prog 31 #[.string a, .string b] w fun e w' => e = .returned (.int .i64 (cmpKey a b)) ∧ w' = w := by
  by_cases h1 : a < b
  · go_enter Try.func31, Try.ntmps31
    go_wp2
    go_ret
    exact ⟨by simp [cmpKey, h1], rfl⟩
  · by_cases h2 : a = b
    · subst h2
      go_enter Try.func31, Try.ntmps31
      go_wp2
      go_ret
      exact ⟨by simp [cmpKey, h1], rfl⟩
    · have h3 : b < a := by grind
      go_enter Try.func31, Try.ntmps31
      go_wp2
      go_ret
      exact ⟨by simp [cmpKey, h1, h3], rfl⟩

set_option maxHeartbeats 400000 in
theorem next_any (k : K) (w : World) (hk : k.size < 9223372036854775807) : Calls Try.prog 81 #[.string k] w fun e w' => e = .returned (.string (k ++ ⟨#[0]⟩)) ∧ w' = w := by
  go_enter Try.func81, Try.ntmps81
  go_wp2
  go_ret
  exact ⟨rfl, rfl⟩

set_option maxHeartbeats 400000 in
theorem meet_any (a b : K × K) (w : World) : Calls Try.prog 22 #[.agg #[.string a.1, .string a.2], .agg #[.string b.1, .string b.2]] w fun e w' => e = .returned (spv (meet a b)) ∧ Below w.heap.size w w' := by
  have hmax := fun (w : World) (ts : Array TypeId) (t : TypeId) (x y : ByteArray) => (Lib.run_max_strs (P := Try.prog) w ts t x y)
  have hmin := fun (w : World) (ts : Array TypeId) (t : TypeId) (x y : ByteArray) => (Lib.run_min_strs (P := Try.prog) w ts t x y)
  simp only [maxS_eq, minS_eq] at hmax hmin
  by_cases h : mn a.2 b.2 ≤ mx a.1 b.1
  · have e : meet a b = (⟨#[]⟩, ⟨#[]⟩) := by rw [meet, if_pos h]
    rw [e]
    go_enter Try.func22, Try.ntmps22
    go_wp2
    refine bodyPost_ret (v := .agg #[.string ⟨#[]⟩, .string ⟨#[]⟩]) (by simp [results, Try.results22, go_sem]) rfl ⟨rfl, ?_⟩
    ((repeat' (first | exact Below.refl _ _ | refine Below.alloc ?_ ?_ _ | refine Below.setCell ?_ ?_ _ | refine Below.drew ?_)); all_goals ((try simp only [World.size_alloc]); omega))
  · have e : meet a b = (mx a.1 b.1, mn a.2 b.2) := by rw [meet, if_neg h]
    rw [e]
    go_enter Try.func22, Try.ntmps22
    go_wp2
    refine bodyPost_ret (v := .agg #[.string (mx a.1 b.1), .string (mn a.2 b.2)]) (by simp [results, Try.results22, go_sem]) rfl ⟨rfl, ?_⟩
    ((repeat' (first | exact Below.refl _ _ | refine Below.alloc ?_ ?_ _ | refine Below.setCell ?_ ?_ _ | refine Below.drew ?_)); all_goals ((try simp only [World.size_alloc]); omega))

end Go.Proofs.Ytcmpbhcldaogiaa
namespace Go.Proofs.Ytcmpbhcldaogiaa
open Go.RowKit

section
variable {α : Type} {enc : α → List Value} {k : Nat} {P : Program}
theorem run_append_new (w : World) (base : Nat) (t ty e : TypeId) (i : TypeInfo) (z : Value) (size bytes : Nat) (ht : P.underlying t = some (.slice e)) (hi : P.info? e = some i) (hz : i.zero = some z)
    (hsize : i.size = size) (hby : i.bytes = bytes) (hzs : z.cells.size = size) (hsz : 0 < size)
    (v : Value) (n : Nat) (xs : List Value) (hown : w.ownsRow base e size v n xs)
    (a : Addr) (m c : Nat) (news : List Value) (hl : news.length = m * size) (hnews : ∀ j u, news[j]? = some u → w.cell? (a.add j) = some u) (h1 : ∀ u ∈ news, u.oneCell' = true)
    (h63 : n + m ≤ maxLen) (hbytes : ((n + m) + (n + m) / 4 + 192) * bytes ≤ 281474976710656) (v' : Value) (w' : World) (hrun : (Builtin.append_ #[t, t] ty #[v, .slice (some a) m c]).run P w = .ok v' w') : NewRow w v.ownBlock v'.ownBlock := by
  subst hsize
  subst hby
  have hsmall : n + m ≤ 9223372036854775807 := by simp only [maxLen] at h63; omega
  rcases hown.2 with ⟨rfl, rfl⟩ | ⟨g, cap, cur, rfl, hbg, hg, hnc, hcm, hcs, htake⟩
  · by_cases hm : m = 0
    · subst hm
      have hn : news = [] := List.eq_nil_of_length_eq_zero (by simpa using hl)
      subst hn
      have hr : (Builtin.append_ #[t, t] ty #[.slice none 0 0, .slice (some a) 0 c]).run P w = .ok (.slice none 0 0) w := by
        simp [Builtin.append_, run_underlying ht, sizeOf, typeInfo, hi, Builtin.lenOf, Builtin.firstCells, loadCells, loadCellsFrom]
      rw [hr] at hrun
      injection hrun with h1 h2
      subst h1
      exact NewRow.refl _ _
    · have hr := run_append_nil (P := P) w t ty e i z ht hi hz a m c news hl hnews (by omega) (by omega) (by have hb := hbytes; simp only [Nat.zero_add] at hb; exact Nat.le_trans (Nat.mul_le_mul_right _ (by omega)) hb)
      rw [hr] at hrun
      injection hrun with h1 h2
      subst h1
      intro g hg
      injection hg with hg
      exact .inr (by simp only at hg; omega)
  · by_cases hroom : n + m ≤ cap
    · have hfit : n * i.size + news.length ≤ cur.size := by rw [hl, hcs, ← Nat.add_mul]; exact Nat.mul_le_mul_right _ hroom
      have hr := run_append_room (P := P) w t ty e i ht hi g n cap cur hg a m c news hl hnews h1 hroom hfit
      rw [hr] at hrun
      injection hrun with h1 h2
      subst h1
      exact fun _ h => .inl h
    · have holds : ∀ j u, xs[j]? = some u → w.cell? ((⟨g, 0, none⟩ : Addr).add j) = some u := hown.cells (g := g) rfl
      have hr := run_append_grow (P := P) w t ty e i z ht hi hz ⟨g, 0, none⟩ n cap xs hown.1 holds a m c news hl hnews (by omega) (by omega) (growslice_fits_wide (by omega) hbytes)
      rw [hr] at hrun
      injection hrun with h1 h2
      subst h1
      intro g2 hg2
      injection hg2 with hg2
      exact .inr (by simp only at hg2; omega)

/-- append to a slice of the call's own; its block is the old one or a new one -/
theorem wp_addAnyN (t e : TypeId) (bytes : Nat) (i0 : TypeInfo) (z : Value) (ht : P.underlying t = some (.slice e)) (hi : P.info? e = some i0) (hz0 : i0.zero = some z) (hz1 : i0.size = k) (hz2 : i0.bytes = bytes) (hzs : z.cells.size = k) (hk0 : 0 < k)
    (hk : ∀ x, (enc x).length = k) (hone : ∀ x, ∀ u ∈ enc x, u.oneCell' = true) {o : Oper} {a : Act} {K : Act → World → Prop} {Q : Exit → Act → World → Prop} {w : World} (s x : Operand)
    (ho : o.op = .call { callee := .builtin .append, args := #[s, x], argTypes := #[t, t] })
    (base : Nat) (v : Value) (l : List α) (hs : a.eval s = v) (hown : Own enc k e w base v l) (B : Nat) (v2 : Value) (p : List α) (hx : a.eval x = v2) (hp : Rd enc k w B v2 p)
    (h63 : l.length + p.length ≤ maxLen) (hbytes : ((l.length + p.length) + (l.length + p.length) / 4 + 192) * bytes ≤ 281474976710656) (hbase : base ≤ w.heap.size)
    (h : ∀ A' c' w', Own enc k e w' base (.slice A' (l ++ p).length c') (l ++ p) → w.grownBy w' v.ownBlock → NewRow w v.ownBlock (Value.ownBlock (.slice A' (l ++ p).length c')) → K (a.put o.dst (.slice A' (l ++ p).length c')) w') : o.wp P a w K Q := by
  obtain ⟨A, c, rfl, hc, hi2⟩ := hp
  have main : ∃ v' w', (Builtin.append_ #[t, t] o.type #[v, .slice A p.length c]).run P w = .ok v' w' ∧ w'.ownsRow base e k v' (l ++ p).length (flatG enc (l ++ p)) ∧ w.grownBy w' v.ownBlock ∧ NewRow w v.ownBlock v'.ownBlock := by
    cases A with
    | none =>
      have hp0 : p = [] := by
        cases p with
        | nil => rfl
        | cons y r =>
          obtain ⟨b, o', hA, _⟩ := hi2 0 (by simp)
          cases hA
      subst hp0
      refine ⟨v, w, ?_, by rw [List.append_nil]; exact hown, ⟨rfl, rfl, rfl, Nat.le_refl _, fun _ _ _ => rfl⟩, NewRow.refl _ _⟩
      rcases hown.2 with ⟨rfl, _⟩ | ⟨g, cap, cur, rfl, _, _, hnc, _⟩
      · simp [Builtin.append_, run_underlying ht, sizeOf, typeInfo, hi, Builtin.lenOf, Builtin.firstCells]
      · simp [Builtin.append_, run_underlying ht, sizeOf, typeInfo, hi, Builtin.lenOf, Builtin.firstCells, hnc, storeCells]
    | some ad =>
      have hcells : ∀ j u, (flatG enc p)[j]? = some u → w.cell? (ad.add j) = some u := by
        intro j u hu
        have hjl : j < p.length * k := by
          rcases Nat.lt_or_ge j (p.length * k) with h' | h'
          · exact h'
          · rw [List.getElem?_eq_none (by rw [flatG_length hk]; exact h')] at hu; cases hu
        have hil : j / k < p.length := by rw [Nat.div_lt_iff_lt_mul hk0]; exact hjl
        obtain ⟨b, o', hA, _, h1⟩ := hi2 (j / k) hil
        have hm : j % k < k := Nat.mod_lt _ hk0
        have e1 : j / k * k + j % k = j := Nat.div_add_mod' j k
        have hg := flatG_get hk p (j / k) hil (j % k) hm
        rw [e1, hu] at hg
        have := h1 (j % k) u hg.symm
        injection hA with hA
        rw [hA]
        have hadd : (⟨b, o', none⟩ : Addr).add j = ⟨b, o' + j, none⟩ := by unfold Addr.add; split <;> simp_all
        rw [hadd, ← this]
        congr 2
        omega
      obtain ⟨v', w', hrun, h2, h3, _⟩ := run_append_own_wide (P := P) w base t o.type e i0 z k bytes ht hi hz0 hz1 hz2 hzs hk0 v l.length (flatG enc l) hown ad p.length c (flatG enc p) (flatG_length hk p) hcells
        (fun u hu => by obtain ⟨y, _, hy⟩ := List.mem_flatMap.1 hu; exact hone y u hy) h63 hbytes hbase
      have h9 := run_append_new (P := P) w base t o.type e i0 z k bytes ht hi hz0 hz1 hz2 hzs hk0 v l.length (flatG enc l) hown ad p.length c (flatG enc p) (flatG_length hk p) hcells
        (fun u hu => by obtain ⟨y, _, hy⟩ := List.mem_flatMap.1 hu; exact hone y u hy) h63 hbytes v' w' hrun
      exact ⟨v', w', hrun, by rw [List.length_append, flatG_append]; exact h2, h3, h9⟩
  obtain ⟨v', w', hrun, h2, h3, h9⟩ := main
  have h4 : Own enc k e w' base v' (l ++ p) := h2
  have hv : ∃ A' c', v' = .slice A' (l ++ p).length c' := by
    rcases h4.form with ⟨hv, h0⟩ | ⟨g, cap, hv, _⟩
    · exact ⟨none, 0, by rw [h0]; exact hv⟩
    · exact ⟨_, _, hv⟩
  obtain ⟨A', c', rfl⟩ := hv
  unfold Oper.wp execOp
  simp only [ho, resolve, invoke, builtin, Sem.run_bind, Sem.run_pure, Result.andThen_ok, List.map_toArray, List.map_cons, List.map_nil, hs, hx, hrun]
  exact h A' c' w' h4 h3 h9

end
end Go.Proofs.Ytcmpbhcldaogiaa

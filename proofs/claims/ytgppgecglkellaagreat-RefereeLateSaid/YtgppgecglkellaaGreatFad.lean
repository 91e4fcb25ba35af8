/- A region whose operations may come in more than one order, walked along a tree of orders that is laid down beforehand. Transactions: what is known of them, and whether the reference finds them sound (for seats that have no more of frame). When keys were written last, as a state: pure. Marks as a state: what each call answers; pure. What the reference's Spans answers (for seats without pairs). (For seats without bytes; others have it in Hold.) What moves and what stays. What a slice reads as, and which blocks it does not lie in: for whatever element type. -/
import Derived.Test.YtgppgecglkellaaGreatFab
import Derived.Test.YtgppgecglkellaaGreatFac
import Derived.Test.YtgppgecglkellaaGreatFaa
namespace Go.Proofs.YtgppgecglkellaaGreat
open Go.RowKit

/-- take i: number i yields the same whenever it comes up; step i: it comes up alone; fork: one of two comes up -/
inductive PT
  | done
  | take (i : Nat) (n : PT)
  | step (i : Nat) (n : PT)
  | fork (i : Nat) (n : PT) (j : Nat) (m : PT)
  | fork3 (i : Nat) (n : PT) (j : Nat) (m : PT) (k : Nat) (q : PT)
def PT.depth : PT → Nat
  | .done => 0
  | .take _ n => n.depth + 1
  | .step _ n => n.depth + 1
  | .fork _ n _ m => max n.depth m.depth + 1
  | .fork3 _ n _ m _ q => max n.depth (max m.depth q.depth) + 1
def ptOk (ops : Array Oper) : PT → Array Bool → Bool
  | .done, listed => (Region.ready .any ops listed).isEmpty
  | .take i n, listed => Region.free .any ops listed i && (Region.ready .any ops listed).contains i && ptOk ops n (listed.setIfInBounds i true)
  | .step i n, listed => Region.ready .any ops listed == [i] && ptOk ops n (listed.setIfInBounds i true)
  | .fork i n j m, listed => Region.ready .any ops listed == [i, j] && (ptOk ops n (listed.setIfInBounds i true) && ptOk ops m (listed.setIfInBounds j true))
  | .fork3 i n j m k q, listed => Region.ready .any ops listed == [i, j, k] && (ptOk ops n (listed.setIfInBounds i true) && (ptOk ops m (listed.setIfInBounds j true) && ptOk ops q (listed.setIfInBounds k true)))
section
variable {P : Program} {ops : Array Oper} {Q : Exit → Act → World → Prop} {S : World → Prop}
def PlanT (P : Program) (ops : Array Oper) (S : World → Prop) (Q : Exit → Act → World → Prop) : PT → Act → World → Prop
  | .done, a, w => Q .normal a w
  | .take i n, a, w => ∃ o v, ops[i]? = some o ∧ YieldsIf P ops S o v a ∧ PlanT P ops S Q n (a.put o.dst v) w
  | .step i n, a, w => wpOp P ops Q i (fun a' w' => S w' ∧ PlanT P ops S Q n a' w') a w
  | .fork i n j m, a, w => wpOp P ops Q i (fun a' w' => S w' ∧ PlanT P ops S Q n a' w') a w ∧ wpOp P ops Q j (fun a' w' => S w' ∧ PlanT P ops S Q m a' w') a w
  | .fork3 i n j m k q, a, w => wpOp P ops Q i (fun a' w' => S w' ∧ PlanT P ops S Q n a' w') a w ∧ wpOp P ops Q j (fun a' w' => S w' ∧ PlanT P ops S Q m a' w') a w ∧ wpOp P ops Q k (fun a' w' => S w' ∧ PlanT P ops S Q q a' w') a w

theorem PlanT.any (hs : Region.noSelect ops = true) (hQ : ∀ c a d v w, Q (.panic c) (Act.put a d v) w → Q (.panic c) a w) : ∀ (plan : PT) (fuel : Nat) (listed : Array Bool) (a : Act) (w : World),
    plan.depth ≤ fuel → ptOk ops plan listed = true → S w → PlanT P ops S Q plan a w → wpAnyH P .any ops Q S fuel listed a w
  | .done, fuel, listed, a, w, _, hp, _, h => wpAnyH_done (by simpa [ptOk] using hp) h fuel
  | .take i r, fuel + 1, listed, a, w, hf, hp, hS, h => by
    obtain ⟨o, v, ho, hy, hr⟩ := h
    simp only [ptOk, Bool.and_eq_true] at hp
    exact wpAnyH_take ho hs hp.1.1 hp.1.2 (fun c a w => hQ c a _ _ w) hy hS (PlanT.any hs hQ r fuel _ _ _ (by simpa [PT.depth] using hf) hp.2 hS hr)
  | .step i r, fuel + 1, listed, a, w, hf, hp, _, h => by
    simp only [ptOk, Bool.and_eq_true, beq_iff_eq] at hp
    refine wpAnyH_all hp.1 (by simp) fun j hj => ?_
    obtain rfl : j = i := by simpa using hj
    exact wpOp_mono (fun a' w' h' => ⟨h'.1, PlanT.any hs hQ r fuel _ _ _ (by simpa [PT.depth] using hf) hp.2 h'.1 h'.2⟩) h
  | .fork i r j m, fuel + 1, listed, a, w, hf, hp, _, h => by
    simp only [ptOk, Bool.and_eq_true, beq_iff_eq] at hp
    simp only [PT.depth] at hf
    refine wpAnyH_all hp.1 (by simp) fun k hk => ?_
    rcases (by simpa using hk : k = i ∨ k = j) with rfl | rfl
    · exact wpOp_mono (fun a' w' h' => ⟨h'.1, PlanT.any hs hQ r fuel _ _ _ (by omega) hp.2.1 h'.1 h'.2⟩) h.1
    · exact wpOp_mono (fun a' w' h' => ⟨h'.1, PlanT.any hs hQ m fuel _ _ _ (by omega) hp.2.2 h'.1 h'.2⟩) h.2
  | .fork3 i r j m l q, fuel + 1, listed, a, w, hf, hp, _, h => by
    simp only [ptOk, Bool.and_eq_true, beq_iff_eq] at hp
    simp only [PT.depth] at hf
    refine wpAnyH_all hp.1 (by simp) fun k hk => ?_
    rcases (by simpa using hk : k = i ∨ k = j ∨ k = l) with rfl | rfl | rfl
    · exact wpOp_mono (fun a' w' h' => ⟨h'.1, PlanT.any hs hQ r fuel _ _ _ (by omega) hp.2.1 h'.1 h'.2⟩) h.1
    · exact wpOp_mono (fun a' w' h' => ⟨h'.1, PlanT.any hs hQ m fuel _ _ _ (by omega) hp.2.2.1 h'.1 h'.2⟩) h.2.1
    · exact wpOp_mono (fun a' w' h' => ⟨h'.1, PlanT.any hs hQ q fuel _ _ _ (by omega) hp.2.2.2 h'.1 h'.2⟩) h.2.2
  | .take _ _, 0, _, _, _, hf, _, _, _ => by simp [PT.depth] at hf
  | .step _ _, 0, _, _, _, hf, _, _, _ => by simp [PT.depth] at hf
  | .fork _ _ _ _, 0, _, _, _, hf, _, _, _ => by simp [PT.depth] at hf
  | .fork3 _ _ _ _ _ _, 0, _, _, _, hf, _, _, _ => by simp [PT.depth] at hf

theorem wp_region_planT (S : World → Prop) (plan : PT) {id : Nat} {a : Act} {w : World} (hm : P.follows .mixedOrders = true) (hs : (Region.noSelect ops && ptOk ops plan (Array.replicate ops.size false) && decide (plan.depth ≤ ops.size)) = true)
    (hQ : ∀ c a d v w, Q (.panic c) (Act.put a d v) w → Q (.panic c) a w) (hS : S w.drew) (h : PlanT P ops S Q plan a w.drew) : (Code.region id ops true).wp P Q a w := by
  simp only [Bool.and_eq_true, decide_eq_true_eq] at hs
  exact wp_region_held hm (PlanT.any hs.1.1 hQ plan _ _ _ _ hs.2 hs.1.2 hS h)

theorem PlanT.takeI {i : Nat} {o : Oper} {v : Value} {r : PT} {a : Act} {w : World} (hi : ops.toList[i]? = some o) (hw : Region.wanted o (yielded ops a.tmps) = true)
    (hy : ∀ W, S W → (execOp a.eval o).run P W = .ok (.value v) W) (h : PlanT P ops S Q r (a.put o.dst v) w) : PlanT P ops S Q (.take i r) a w :=
  ⟨o, v, by simpa using hi, .inl ⟨hw, hy⟩, h⟩
theorem PlanT.skip {i : Nat} {o : Oper} {r : PT} {a : Act} {w : World} (hi : ops.toList[i]? = some o) (hw : Region.wanted o (yielded ops a.tmps) = false)
    (h : PlanT P ops S Q r (a.put o.dst undef) w) : PlanT P ops S Q (.take i r) a w :=
  ⟨o, undef, by simpa using hi, .inr ⟨hw, rfl⟩, h⟩
theorem wpOp_stepT {i : Nat} {o : Oper} {r : PT} {a : Act} {w : World} (hi : ops.toList[i]? = some o) (hw : Region.wanted o (yielded ops a.tmps) = true)
    (h : ∀ K : Act → World → Prop, Shut (∀ a w, S w → PlanT P ops S Q r a w → K a w) → Oper.wp P o a w K Q) : wpOp P ops Q i (fun a' w' => S w' ∧ PlanT P ops S Q r a' w') a w := by
  refine wpOp_step (o := o) (by simpa using hi) fun K' hK => ?_
  rw [if_pos hw]
  exact h K' fun a w h1 h2 => hK a w ⟨h1, h2⟩
end
end Go.Proofs.YtgppgecglkellaaGreat
namespace Go.Proofs.YtgppgecglkellaaGreat
open Go.RowKit
attribute [local go_sem] less_eq same_eq le_eq ge_eq gt_eq

structure Txn where
  read : Int
  reads : List (K × K)
  chgs : List Chg
instance : DecidableEq Txn := fun x y => decidable_of_iff (x.read = y.read ∧ x.reads = y.reads ∧ x.chgs = y.chgs) ⟨fun h => by cases x; cases y; simp only at h; obtain ⟨rfl, rfl, rfl⟩ := h; rfl, fun h => by subst h; simp⟩
def zeroT : Txn := ⟨0, [], []⟩
def okSpan (s : K × K) : Prop := s.1.size ≤ 17 ∧ s.2.size ≤ 17 ∧ ¬ s.2 < s.1
instance (s : K × K) : Decidable (okSpan s) := by unfold okSpan; exact inferInstance
def soundT (t : Txn) : Prop := 0 ≤ t.read ∧ t.reads.length ≤ 24 ∧ (∀ s ∈ t.reads, okSpan s) ∧ t.chgs.length ≤ 24 ∧ allAns t.chgs = 0
instance (t : Txn) : Decidable (soundT t) := by unfold soundT; exact inferInstance
def tval (t : Txn) (v1 v2 : Value) : Value := .agg #[.int .i64 t.read, v1, v2]
/-- lengths that a walk needs -/
def fitT (t : Txn) : Prop := t.reads.length < 4611686018427387904 ∧ (∀ s ∈ t.reads, s.1.size < 4611686018427387904 ∧ s.2.size < 4611686018427387904) ∧ t.chgs.length < 4611686018427387904 ∧ ∀ c ∈ t.chgs, smallC c
theorem box_cell {w W : World} {cs : List Value} {t : TypeId} (h : Below (w.heap.size + 1) (w.alloc (.cells cs.toArray t)) W) (i : Nat) (v : Value) (hv : cs[i]? = some v) : W.cell? ⟨w.heap.size, i, none⟩ = some v :=
  (h.cell (p := ⟨w.heap.size, i, none⟩) (Nat.lt_succ_self _)).trans ((Whole.fresh w t cs).cell i v hv)


set_option maxHeartbeats 4000000 in
set_option maxRecDepth 100000 in
theorem rsoundT_any (t : Txn) (hft : fitT t) (v1 v2 : Value) (w : World) (hv1 : RdP w w.heap.size v1 t.reads) (hv2 : RdC w w.heap.size v2 t.chgs) :
    Calls Tryz.prog 14 #[tval t v1 v2] w fun e w' => e = .returned (.bool (decide (soundT t))) ∧ Below w.heap.size w w' := by
  obtain ⟨h1, h2, h3, h4⟩ := hft
  obtain ⟨read, reads, chgs⟩ := t
  obtain ⟨R, hR⟩ : ∃ R, R = decide (soundT ⟨read, reads, chgs⟩) := ⟨_, rfl⟩
  rw [← hR]
  unfold soundT at hR
  unfold tval
  simp only at hR h1 h2 h3 h4 hv1 hv2 ⊢
  obtain ⟨A1, c1, rfl, _, hi⟩ := hv1.at
  obtain ⟨A2, c2, rfl, _, _⟩ := hv2.at
  have hno : ¬ (0 ≤ read ∧ reads.length ≤ 24 ∧ (∀ s ∈ reads, okSpan s) ∧ chgs.length ≤ 24 ∧ allAns chgs = 0) → R = false := fun h => by rw [hR]; exact decide_eq_false h
  have hyes : 0 ≤ read ∧ reads.length ≤ 24 ∧ (∀ s ∈ reads, okSpan s) ∧ chgs.length ≤ 24 ∧ allAns chgs = 0 → R = true := fun h => by rw [hR]; exact decide_eq_true h
  have HNO := Lib.hid hno; clear hno
  have HYES := Lib.hid hyes; clear hyes
  have hb1 : Below w.heap.size w (w.alloc (.cells #[.int .i64 read, .slice A1 reads.length c1, .slice A2 chgs.length c2] 47)) := (Below.refl _ _).alloc (Nat.le_refl _) _
  have hA := rall_any chgs h4 (.slice A2 chgs.length c2) _ (hv2.next hb1) h3
  have HA := Lib.hid hA; clear hA
  have HB1 := Lib.hid hb1; clear hb1
  have HI := Lib.hid hi; clear hi
  have HS := Lib.hid h2; clear h2
  clear hR hv1 hv2 h4
  by_cases g1 : read < 0
  · go_enter Tryz.func14, Tryz.ntmps14
    go_wp2_with fail
    go_ret
    exact ⟨by rw [HNO.out (by omega)]; rfl, HB1.out⟩
  by_cases g2 : (24 : Int) < (reads.length : Int)
  · go_enter Tryz.func14, Tryz.ntmps14
    go_wp2_with fail
    go_ret
    exact ⟨by rw [HNO.out (by omega)]; rfl, HB1.out⟩
  by_cases g3 : (24 : Int) < (chgs.length : Int)
  · go_enter Tryz.func14, Tryz.ntmps14
    go_wp2_with fail
    go_ret
    exact ⟨by rw [HNO.out (by omega)]; rfl, HB1.out⟩
  generalize allAns chgs = q at HA HNO HYES
  go_enter Tryz.func14, Tryz.ntmps14
  go_wp2_with fail
  refine HA.out.mono ?_
  rintro e w2 ⟨rfl, hb2⟩
  rw [World.size_alloc] at hb2
  have HB2 := Lib.hid hb2; clear hb2
  have HBW := Lib.hid (show Below w.heap.size w w2 from HB1.out.trans (HB2.out.mono (by omega)))
  by_cases g4 : q = 0
  · subst g4
    go_wp2_with fail
    go_loopw [3] (fun iv wr => ∃ i : Nat, i ≤ reads.length ∧ iv = .int .i64 i ∧ Below (w.heap.size + 1) (w.alloc (.cells #[.int .i64 read, .slice A1 reads.length c1, .slice A2 chgs.length c2] 47)) wr ∧ Hid (∀ s ∈ reads.take i, okSpan s)) (fun iv _ => reads.length - (intOf iv).toNat)
    case atStart => exact ⟨0, Nat.zero_le _, rfl, HB2.out, Lib.hid (by simp)⟩
    case round =>
      obtain ⟨i, hil, rfl, hbw, HALL⟩ := hrel
      have hBw : Below w.heap.size w wr := HB1.out.trans (hbw.mono (by omega))
      have p1 := box_cell hbw 1 _ rfl
      have HBR := Lib.hid hbw; clear hbw
      have HBW2 := Lib.hid hBw; clear hBw
      by_cases hlt : i < reads.length
      · obtain ⟨b, o, rfl, hbB, k0, k1⟩ := HI.out i hlt
        rw [← HBW2.out.cell (p := ⟨b, _, none⟩) hbB] at k0 k1
        have hsm := HS.out reads[i] (List.getElem_mem hlt)
        have hyes : okSpan reads[i] → ∀ s ∈ reads.take (i + 1), okSpan s := fun h n hn => by
          rw [List.take_add_one, List.getElem?_eq_getElem hlt, List.mem_append] at hn
          rcases hn with hn | hn
          · exact HALL.out n hn
          · simp only [Option.toList_some, List.mem_singleton] at hn; rw [hn]; exact h
        have hno : ¬ okSpan reads[i] → R = false := fun h => HNO.out fun hall => h (hall.2.2.1 _ (List.getElem_mem hlt))
        generalize reads[i] = z at k0 k1 hyes hno hsm
        obtain ⟨x, y⟩ := z
        unfold okSpan at hyes hno
        simp only at k0 k1 hsm hyes hno
        have HY := Lib.hid hyes; clear hyes
        have HN := Lib.hid hno; clear hno
        have hwr : wr.heap.size ≤ wr.drew.heap.size := Nat.le_refl _
        have hbs2 : b < wr.heap.size := by have := HBW2.out.size; omega
        have hws2 : w.heap.size < wr.heap.size := by have := HBR.out.size; simp at this; omega
        have HK0 := Lib.hid (fun W (hW : Below wr.heap.size wr W) => (hW.cell (p := ⟨b, o + i * 2, none⟩) hbs2).trans k0)
        have HK1 := Lib.hid (fun W (hW : Below wr.heap.size wr W) => (hW.cell (p := ⟨b, o + i * 2 + 1, none⟩) hbs2).trans k1)
        have HK2 := Lib.hid (fun W (hW : Below wr.heap.size wr W) => (hW.cell (p := ⟨w.heap.size, 1, none⟩) hws2).trans p1)
        have hi1 : (i : Int) < (reads.length : Int) := by omega
        have hi0 : (0 : Int) ≤ (i : Int) := by omega
        clear hbs2 hws2 hwr
        have HBD := Lib.hid (show Below w.heap.size w wr.drew from HBW2.out.drew)
        have HBRD := Lib.hid (HBR.out.drew)
        by_cases ha : (17 : Int) < (x.size : Int)
        · have hf := HN.out (fun h => by omega)
          have HF := Lib.hid hf; clear hf
          go_wp2_with fail
          clear k0 k1 p1
          refine wp_region_planT (fun W => Below wr.heap.size wr W) (.take 0 (.take 1 (.take 2 (.take 3 (.take 4 (.take 5 (.take 6 (.take 7 (.take 8 (.take 9 (.take 10 (.take 11 (.take 12 (.take 13 (.take 14 (.take 15 (.take 16 (.take 17 (.take 18 (.take 19 (.take 20 (.take 21 (.take 22 (.take 23 (.take 24 (.take 25 (.take 26 (.take 27 (.take 28 (.take 29 (.take 30 (.take 31 (.take 32 .done))))))))))))))))))))))))))))))))) (by kernel_rfl) (by kernel_rfl) (fun _ _ d _ _ h => by cases d <;> exact h) ((Below.refl _ _).drew) ?_
          repeat (first | (refine PlanT.takeI (v := ?_) rfl rfl ?_ ?_; rotate_left; (focus (intro W hW; have k0 := HK0.out W hW; have k1 := HK1.out W hW; have k2 := HK2.out W hW; go_simp; (try with_reducible rfl); done)); (try simp only [Act.put, List.setIfInBounds_toArray, List.set_cons_zero, List.set_cons_succ])) | (refine PlanT.skip rfl rfl ?_; (try simp only [Act.put, List.setIfInBounds_toArray, List.set_cons_zero, List.set_cons_succ])))
          simp only [PlanT]
          go_wp2_with fail
          go_ret
          exact ⟨by rw [HF.out]; rfl, HBD.out⟩
        have HDA := Lib.hid (show decide ((17 : Int) < (x.size : Int)) = false from decide_eq_false ha)
        by_cases hb : (17 : Int) < (y.size : Int)
        · have hf := HN.out (fun h => by omega)
          have HF := Lib.hid hf; clear hf
          go_wp2_with fail
          clear k0 k1 p1
          refine wp_region_planT (fun W => Below wr.heap.size wr W) (.take 0 (.take 1 (.take 2 (.take 3 (.take 4 (.take 5 (.take 6 (.take 7 (.take 8 (.take 9 (.take 10 (.take 11 (.take 12 (.take 13 (.take 14 (.take 15 (.take 16 (.take 17 (.take 18 (.take 19 (.take 20 (.take 21 (.take 22 (.take 23 (.take 24 (.take 25 (.take 26 (.take 27 (.take 28 (.take 29 (.take 30 (.take 31 (.take 32 .done))))))))))))))))))))))))))))))))) (by kernel_rfl) (by kernel_rfl) (fun _ _ d _ _ h => by cases d <;> exact h) ((Below.refl _ _).drew) ?_
          repeat (first | (refine PlanT.takeI (v := ?_) rfl rfl ?_ ?_; rotate_left; (focus (intro W hW; have k0 := HK0.out W hW; have k1 := HK1.out W hW; have k2 := HK2.out W hW; have kda := HDA.out; go_simp; (try with_reducible rfl); done)); (try simp only [Act.put, List.setIfInBounds_toArray, List.set_cons_zero, List.set_cons_succ])) | (refine PlanT.skip rfl rfl ?_; (try simp only [Act.put, List.setIfInBounds_toArray, List.set_cons_zero, List.set_cons_succ])))
          simp only [PlanT]
          go_wp2_with fail
          go_ret
          exact ⟨by rw [HF.out]; rfl, HBD.out⟩
        have HDB := Lib.hid (show decide ((17 : Int) < (y.size : Int)) = false from decide_eq_false hb)
        by_cases hxy : y < x
        · have hf := HN.out (fun h => h.2.2 hxy)
          have HF := Lib.hid hf; clear hf
          go_wp2_with fail
          clear k0 k1 p1
          refine wp_region_planT (fun W => Below wr.heap.size wr W) (.take 0 (.take 1 (.take 2 (.take 3 (.take 4 (.take 5 (.take 6 (.take 7 (.take 8 (.take 9 (.take 10 (.take 11 (.take 12 (.take 13 (.take 14 (.take 15 (.take 16 (.take 17 (.take 18 (.take 19 (.take 20 (.take 21 (.take 22 (.take 23 (.take 24 (.take 25 (.take 26 (.take 27 (.take 28 (.take 29 (.take 30 (.take 31 (.take 32 .done))))))))))))))))))))))))))))))))) (by kernel_rfl) (by kernel_rfl) (fun _ _ d _ _ h => by cases d <;> exact h) ((Below.refl _ _).drew) ?_
          repeat (first | (refine PlanT.takeI (v := ?_) rfl rfl ?_ ?_; rotate_left; (focus (intro W hW; have k0 := HK0.out W hW; have k1 := HK1.out W hW; have k2 := HK2.out W hW; have kda := HDA.out; have kdb := HDB.out; go_simp; (try with_reducible rfl); done)); (try simp only [Act.put, List.setIfInBounds_toArray, List.set_cons_zero, List.set_cons_succ])) | (refine PlanT.skip rfl rfl ?_; (try simp only [Act.put, List.setIfInBounds_toArray, List.set_cons_zero, List.set_cons_succ])))
          simp only [PlanT]
          go_wp2_with fail
          go_ret
          exact ⟨by rw [HF.out]; rfl, HBD.out⟩
        · have HDC := Lib.hid (show decide (y < x) = false from decide_eq_false hxy)
          have hok := HY.out ⟨by omega, by omega, hxy⟩
          have HOK := Lib.hid hok; clear hok
          go_wp2_with fail
          clear k0 k1 p1
          refine wp_region_planT (fun W => Below wr.heap.size wr W) (.take 0 (.take 1 (.take 2 (.take 3 (.take 4 (.take 5 (.take 6 (.take 7 (.take 8 (.take 9 (.take 10 (.take 11 (.take 12 (.take 13 (.take 14 (.take 15 (.take 16 (.take 17 (.take 18 (.take 19 (.take 20 (.take 21 (.take 22 (.take 23 (.take 24 (.take 25 (.take 26 (.take 27 (.take 28 (.take 29 (.take 30 (.take 31 (.take 32 .done))))))))))))))))))))))))))))))))) (by kernel_rfl) (by kernel_rfl) (fun _ _ d _ _ h => by cases d <;> exact h) ((Below.refl _ _).drew) ?_
          repeat (first | (refine PlanT.takeI (v := ?_) rfl rfl ?_ ?_; rotate_left; (focus (intro W hW; have k0 := HK0.out W hW; have k1 := HK1.out W hW; have k2 := HK2.out W hW; have kda := HDA.out; have kdb := HDB.out; have kdc := HDC.out; go_simp; (try with_reducible rfl); done)); (try simp only [Act.put, List.setIfInBounds_toArray, List.set_cons_zero, List.set_cons_succ])) | (refine PlanT.skip rfl rfl ?_; (try simp only [Act.put, List.setIfInBounds_toArray, List.set_cons_zero, List.set_cons_succ])))
          simp only [PlanT]
          go_wp2_with fail
          go_roundw
          case rel => exact ⟨i + 1, by omega, by go_num, HBRD.out, Lib.hid HOK.out⟩
          case measure => simp [intOf]; omega
      · have hd : R = true := HYES.out ⟨by omega, by omega, by
          have := HALL.out
          rwa [List.take_of_length_le (by omega)] at this, by omega, trivial⟩
        have HD2 := Lib.hid hd; clear hd
        go_wp2_with fail
        go_ret
        exact ⟨by rw [HD2.out]; rfl, HBW2.out⟩
  · have hf := HNO.out (fun h => g4 h.2.2.2.2)
    have HF := Lib.hid hf; clear hf
    go_wp2_with fail
    go_ret
    exact ⟨by rw [HF.out]; rfl, HBW.out⟩
end Go.Proofs.YtgppgecglkellaaGreat
namespace Go.Proofs.YtgppgecglkellaaGreat

/-- a span that was written at a version -/
structure Wr where
  s : K × K
  v : Int
instance : Inhabited Wr := ⟨⟨(⟨#[]⟩, ⟨#[]⟩), 0⟩⟩
instance (s : K × K) (k : K) : Decidable (has s k) := by unfold has; exact inferInstance
/-- when a key was written last; 0: never -/
def ver (L : List Wr) (k : K) : Int := L.foldl (fun n x => if has x.s k then x.v else n) 0
theorem ver_nil (k : K) : ver [] k = 0 := rfl
theorem ver_snoc (L : List Wr) (x : Wr) (k : K) : ver (L ++ [x]) k = if has x.s k then x.v else ver L k := by simp [ver]
theorem ver_pass : ∀ (B A : List Wr) (k : K), (∀ y ∈ B, ¬ has y.s k) → ver (A ++ B) k = ver A k
  | [], A, k, _ => by simp
  | y :: B, A, k, h => by
    rw [show A ++ y :: B = (A ++ [y]) ++ B by simp, ver_pass B _ k (fun z hz => h z (by simp [hz])), ver_snoc, if_neg (h y (by simp))]
/-- the j-th one is the last that has the key -/
def Left (L : List Wr) (j : Nat) (k : K) : Prop := ∃ x, L[j]? = some x ∧ has x.s k ∧ ∀ y ∈ L.drop (j + 1), ¬ has y.s k
theorem ver_left {L : List Wr} {j : Nat} {k : K} {x : Wr} (h : Left L j k) (hx : L[j]? = some x) : ver L k = x.v := by
  obtain ⟨x', hx', hk, hn⟩ := h
  rw [hx] at hx'
  injection hx' with hx'
  subst hx'
  have hj := (List.getElem?_eq_some_iff.1 hx).1
  have h1 := ver_pass (L.drop (j + 1)) (L.take (j + 1)) k hn
  rw [List.take_append_drop] at h1
  rw [h1, List.take_add_one, hx, Option.toList_some, ver_snoc, if_pos hk]
theorem left_of : ∀ (n : Nat) (L : List Wr) (k : K), L.length = n → (∃ y ∈ L, has y.s k) → ∃ j, Left L j k
  | 0, L, k, hn, ⟨y, hy, _⟩ => by rw [List.eq_nil_of_length_eq_zero hn] at hy; simp at hy
  | n + 1, L, k, hn, ⟨y, hy, hk⟩ => by
    rcases List.eq_nil_or_concat L with rfl | ⟨A, x, rfl⟩
    · simp at hn
    · rw [List.concat_eq_append] at *
      by_cases hx : has x.s k
      · exact ⟨A.length, x, by simp, hx, by simp⟩
      · have hyA : y ∈ A := by
          rcases List.mem_append.1 hy with hy | hy
          · exact hy
          · rw [List.mem_singleton] at hy; subst hy; exact absurd hk hx
        obtain ⟨j, z, hz, hzk, hzn⟩ := left_of n A k (by simpa using hn) ⟨y, hyA, hk⟩
        have hj := (List.getElem?_eq_some_iff.1 hz).1
        refine ⟨j, z, by rw [List.getElem?_append_left hj]; exact hz, hzk, fun u hu => ?_⟩
        rw [List.drop_append_of_le_length (by omega)] at hu
        rcases List.mem_append.1 hu with hu | hu
        · exact hzn u hu
        · rw [List.mem_singleton] at hu; subst hu; exact hx
theorem ver_cases (L : List Wr) (k : K) : (ver L k = 0 ∧ ∀ j, ¬ Left L j k) ∨ ∃ j x, L[j]? = some x ∧ Left L j k ∧ ver L k = x.v := by
  by_cases h : ∃ y ∈ L, has y.s k
  · obtain ⟨j, hj⟩ := left_of _ L k rfl h
    obtain ⟨x, hx, _⟩ := id hj
    exact .inr ⟨j, x, hx, hj, ver_left hj hx⟩
  · refine .inl ⟨?_, ?_⟩
    · have := ver_pass L [] k (fun y hy hk => h ⟨y, hy, hk⟩)
      simpa [ver_nil] using this
    · rintro j ⟨x, hx, hk, _⟩
      exact h ⟨x, List.mem_of_getElem? hx, hk⟩

/-! ### where what was written at one version begins -/
/-- a key is the first of those that were written at its version, above b -/
def isStart (f : K → Int) (b : Int) (k : K) : Prop := b < f k ∧ ∀ j, j < k → ∃ x, j ≤ x ∧ x < k ∧ f x ≠ f k
/-- as many such keys there are -/
def SizeIs (f : K → Int) (b : Int) (n : Nat) : Prop := ∃ l : List K, l.Nodup ∧ l.length = n ∧ ∀ k, k ∈ l ↔ isStart f b k
theorem nodup_len {α : Type} [DecidableEq α] : ∀ (l r : List α), l.Nodup → (∀ x ∈ l, x ∈ r) → l.length ≤ r.length
  | [], r, _, _ => Nat.zero_le _
  | x :: l, r, hn, h => by
    obtain ⟨h1, h2⟩ := List.nodup_cons.1 hn
    have hx := h x (by simp)
    have ih := nodup_len l (r.erase x) h2 (fun y hy => (List.mem_erase_of_ne (fun e => h1 (by rw [← e]; exact hy))).2 (h y (by simp [hy])))
    rw [List.length_erase_of_mem hx] at ih
    have := List.length_pos_of_mem hx
    simp only [List.length_cons]
    omega
theorem SizeIs.eq {f : K → Int} {b : Int} {n m : Nat} (h : SizeIs f b n) (h2 : SizeIs f b m) : n = m := by
  obtain ⟨l, hn, rfl, hl⟩ := h
  obtain ⟨r, hm, rfl, hr⟩ := h2
  have h1 := nodup_len l r hn (fun x hx => (hr x).2 ((hl x).1 hx))
  have h2 := nodup_len r l hm (fun x hx => (hl x).2 ((hr x).1 hx))
  omega
/-- pieces that say of all keys above b when they were written last -/
structure Pieces (f : K → Int) (b : Int) (A : List Wr) : Prop where
  ne : ∀ x ∈ A, x.s.1 < x.s.2 ∧ b < x.v
  all : ∀ k, b < f k → ∃ x ∈ A, has x.s k
  says : ∀ x ∈ A, ∀ k, has x.s k → f k = x.v
  apart : A.Pairwise fun x y => ∀ k, has x.s k → ¬ has y.s k
theorem Pieces.one {f : K → Int} {b : Int} {A : List Wr} (h : Pieces f b A) {x y : Wr} (hx : x ∈ A) (hy : y ∈ A) {k : K} (h1 : has x.s k) (h2 : has y.s k) : x = y := by
  by_cases e : x = y
  · exact e
  · obtain ⟨i, hi, rfl⟩ := List.mem_iff_getElem.1 hx
    obtain ⟨j, hj, rfl⟩ := List.mem_iff_getElem.1 hy
    have hp := List.pairwise_iff_getElem.1 h.apart
    rcases Nat.lt_trichotomy i j with hij | hij | hij
    · exact absurd h2 (hp i j hi hj hij k h1)
    · subst hij; rfl
    · exact absurd h1 (hp j i hj hi hij k h2)
/-- the one that reaches furthest of those that do not reach behind k -/
theorem furthest : ∀ (A : List Wr) (j k : K), (∀ x ∈ A, x.s.1 < x.s.2) → (∃ x ∈ A, ∃ u, has x.s u ∧ j ≤ u ∧ x.s.2 ≤ k) → ∃ x ∈ A, x.s.2 ≤ k ∧ j < x.s.2 ∧ ∀ y ∈ A, y.s.2 ≤ k → y.s.2 ≤ x.s.2
  | [], _, _, _, ⟨x, hx, _⟩ => by simp at hx
  | z :: A, j, k, hne, hex => by
    by_cases hA : ∃ x ∈ A, ∃ u, has x.s u ∧ j ≤ u ∧ x.s.2 ≤ k
    · obtain ⟨x, hx, h1, h2, h3⟩ := furthest A j k (fun x hx => hne x (by simp [hx])) hA
      by_cases hz : z.s.2 ≤ k ∧ x.s.2 < z.s.2
      · refine ⟨z, by simp, hz.1, by have := hz.2; grind, fun y hy hyk => ?_⟩
        rcases List.mem_cons.1 hy with rfl | hy
        · exact Std.IsPreorder.le_refl _
        · have := h3 y hy hyk; have := hz.2; grind
      · refine ⟨x, by simp [hx], h1, h2, fun y hy hyk => ?_⟩
        rcases List.mem_cons.1 hy with rfl | hy
        · by_cases hc : x.s.2 < y.s.2
          · exact absurd ⟨hyk, hc⟩ hz
          · grind
        · exact h3 y hy hyk
    · obtain ⟨x, hx, u, h1, h2, h3⟩ := hex
      rcases List.mem_cons.1 hx with rfl | hx
      · refine ⟨x, by simp, h3, by unfold has at h1; grind, fun y hy hyk => ?_⟩
        rcases List.mem_cons.1 hy with rfl | hy
        · exact Std.IsPreorder.le_refl _
        · by_cases hc : x.s.2 < y.s.2
          · have hy1 := hne y (by simp [hy])
            exact absurd ⟨y, hy, mx y.s.1 j, by rcases mx_cases y.s.1 j with ⟨e1, e2⟩ | ⟨e1, e2⟩ <;> rw [e2] <;> unfold has at * <;> grind, by rcases mx_cases y.s.1 j with ⟨e1, e2⟩ | ⟨e1, e2⟩ <;> rw [e2] <;> grind, hyk⟩ hA
          · grind
      · exact absurd ⟨x, hx, u, h1, h2, h3⟩ hA
theorem Pieces.start {f : K → Int} {b : Int} {A : List Wr} (h : Pieces f b A) (k : K) : isStart f b k ↔ ∃ x ∈ A, x.s.1 = k ∧ ∀ y ∈ A, ¬ (y.s.2 = k ∧ y.v = x.v) := by
  constructor
  · rintro ⟨hb, hj⟩
    obtain ⟨x, hx, hxk⟩ := h.all k hb
    have hfx := h.says x hx k hxk
    have e : x.s.1 = k := by
      by_cases hlt : x.s.1 < k
      · obtain ⟨u, h1, h2, h3⟩ := hj x.s.1 hlt
        refine absurd ?_ h3
        rw [hfx, h.says x hx u ⟨h1, by unfold has at hxk; grind⟩]
      · unfold has at hxk; grind
    refine ⟨x, hx, e, fun y hy hyk => ?_⟩
    have hy1 := (h.ne y hy).1
    obtain ⟨u, h1, h2, h3⟩ := hj y.s.1 (by rw [← hyk.1]; exact hy1)
    refine h3 ?_
    rw [hfx, h.says y hy u ⟨h1, by rw [hyk.1]; exact h2⟩, hyk.2]
  · rintro ⟨x, hx, rfl, hno⟩
    have hx1 := (h.ne x hx).1
    have hxk : has x.s x.s.1 := ⟨Std.IsPreorder.le_refl _, hx1⟩
    have hfx := h.says x hx _ hxk
    refine ⟨by rw [hfx]; exact (h.ne x hx).2, fun j hj => Classical.byContradiction fun hcon => ?_⟩
    have hall : ∀ u, j ≤ u → u < x.s.1 → f u = x.v := fun u h1 h2 => Classical.byContradiction fun hne => hcon ⟨u, h1, h2, by rw [hfx]; exact hne⟩
    have hreach : ∀ u, j ≤ u → u < x.s.1 → ∃ y ∈ A, has y.s u ∧ y.s.2 ≤ x.s.1 := fun u h1 h2 => by
      obtain ⟨y, hy, hyu⟩ := h.all u (by rw [hall u h1 h2]; exact (h.ne x hx).2)
      refine ⟨y, hy, hyu, ?_⟩
      by_cases hc : x.s.1 < y.s.2
      · have := h.one hx hy hxk ⟨by unfold has at hyu; grind, hc⟩
        subst this
        unfold has at hyu
        grind
      · grind
    obtain ⟨y0, hy0, hyu0, hyk0⟩ := hreach j (Std.IsPreorder.le_refl _) hj
    obtain ⟨z, hz, hz1, hz2, hz3⟩ := furthest A j x.s.1 (fun x hx => (h.ne x hx).1) ⟨y0, hy0, j, hyu0, Std.IsPreorder.le_refl _, hyk0⟩
    by_cases he : z.s.2 = x.s.1
    · have hzne := (h.ne z hz).1
      have hzu : has z.s (mx z.s.1 j) ∧ j ≤ mx z.s.1 j ∧ mx z.s.1 j < x.s.1 := by
        rcases mx_cases z.s.1 j with ⟨e1, e2⟩ | ⟨e1, e2⟩ <;> rw [e2] <;> unfold has <;> grind
      have h1 := h.says z hz _ hzu.1
      rw [hall _ hzu.2.1 hzu.2.2] at h1
      exact hno z hz ⟨he, h1.symm⟩
    · have hlt : z.s.2 < x.s.1 := by
        rcases Std.le_iff_lt_or_eq.1 hz1 with h1 | h1
        · exact h1
        · exact absurd h1 he
      obtain ⟨y, hy, hyu, hyk⟩ := hreach z.s.2 (Std.le_of_lt hz2) hlt
      have := hz3 y hy hyk
      unfold has at hyu
      grind

/-! ### how the reference counts them -/
def touch (x y : Wr) : Bool := decide (x.s.2 = y.s.1) && decide (x.v = y.v)
def pairsOf (A B : List Wr) : Nat := (A.map fun x => (B.filter (touch x)).length).sum
theorem pairs_swap (p : Wr → Wr → Bool) : ∀ A B : List Wr, (A.map fun x => (B.filter (p x)).length).sum = (B.map fun y => (A.filter fun x => p x y).length).sum
  | [], B => by
    induction B with
    | nil => rfl
    | cons y B ih => simpa using ih
  | x :: A, B => by
    rw [List.map_cons, List.sum_cons, pairs_swap p A B]
    induction B with
    | nil => simp
    | cons y B ih =>
      rw [List.map_cons, List.map_cons, List.sum_cons, List.sum_cons, ← ih]
      by_cases h : p x y = true
      · rw [List.filter_cons_of_pos h, List.filter_cons_of_pos (by exact h)]
        simp only [List.length_cons]
        omega
      · rw [List.filter_cons_of_neg h, List.filter_cons_of_neg (by exact h)]
        omega
theorem sum_ind (q : Wr → Bool) (g : Wr → Nat) : ∀ A : List Wr, (∀ x ∈ A, g x = if q x then 1 else 0) → (A.map g).sum = (A.filter q).length
  | [], _ => rfl
  | x :: A, h => by
    rw [List.map_cons, List.sum_cons, sum_ind q g A (fun y hy => h y (by simp [hy])), h x (by simp)]
    by_cases hq : q x = true
    · rw [if_pos hq, List.filter_cons_of_pos hq, List.length_cons]; omega
    · rw [if_neg hq, List.filter_cons_of_neg hq]; omega
theorem Pieces.ends {f : K → Int} {b : Int} {A : List Wr} (h : Pieces f b A) (y : Wr) : (A.filter fun x => touch x y).length = if (A.any fun x => touch x y) then 1 else 0 := by
  have hp := h.apart.sublist (List.filter_sublist (p := fun x => touch x y) (l := A))
  have hm : ∀ x ∈ A.filter (fun x => touch x y), x.s.2 = y.s.1 ∧ x.s.1 < x.s.2 := fun x hx => by
    obtain ⟨h1, h2⟩ := List.mem_filter.1 hx
    simp only [touch, Bool.and_eq_true, decide_eq_true_eq] at h2
    exact ⟨h2.1, (h.ne x h1).1⟩
  by_cases ha : (A.any fun x => touch x y) = true
  · rw [if_pos ha]
    obtain ⟨x, hx, hxt⟩ := List.any_eq_true.1 ha
    have hmem : x ∈ A.filter (fun x => touch x y) := List.mem_filter.2 ⟨hx, hxt⟩
    generalize A.filter (fun x => touch x y) = F at hp hm hmem
    match F, hp, hm, hmem with
    | [_], _, _, _ => rfl
    | u :: v :: F, hp, hm, _ =>
      exfalso
      have h1 := hm u (by simp)
      have h2 := hm v (by simp)
      have h3 := (List.pairwise_cons.1 hp).1 v (by simp) (mx u.s.1 v.s.1)
      rcases mx_cases u.s.1 v.s.1 with ⟨e1, e2⟩ | ⟨e1, e2⟩ <;> rw [e2] at h3 <;> unfold has at h3 <;> grind
  · rw [if_neg ha]
    have : A.filter (fun x => touch x y) = [] := List.filter_eq_nil_iff.2 (fun x hx hxt => ha (List.any_eq_true.2 ⟨x, hx, hxt⟩))
    rw [this]
    rfl
theorem Pieces.size {f : K → Int} {b : Int} {A : List Wr} (h : Pieces f b A) : pairsOf A A ≤ A.length ∧ SizeIs f b (A.length - pairsOf A A) := by
  have hc : pairsOf A A = (A.filter fun y => A.any fun x => touch x y).length := by
    unfold pairsOf
    rw [pairs_swap touch A A]
    exact sum_ind _ _ A (fun y _ => h.ends y)
  have hsplit : ∀ (q : Wr → Bool) (A : List Wr), (A.filter q).length + (A.filter fun x => !q x).length = A.length := fun q A => by
    induction A with
    | nil => rfl
    | cons x A ih =>
      by_cases hq : q x = true
      · rw [List.filter_cons_of_pos hq, List.filter_cons_of_neg (by simp [hq])]; simp only [List.length_cons]; omega
      · rw [List.filter_cons_of_neg hq, List.filter_cons_of_pos (by simpa using hq)]; simp only [List.length_cons]; omega
  have hs := hsplit (fun y => A.any fun x => touch x y) A
  rw [← hc] at hs
  refine ⟨by omega, (A.filter fun y => !(A.any fun x => touch x y)).map (·.s.1), ?_, by rw [List.length_map]; omega, fun k => ?_⟩
  · rw [List.nodup_iff_pairwise_ne, List.pairwise_map]
    refine (h.apart.sublist List.filter_sublist).imp_of_mem ?_
    intro x y hx hy hxy he
    have h1 := (h.ne x (List.mem_filter.1 hx).1).1
    have h2 := (h.ne y (List.mem_filter.1 hy).1).1
    exact hxy x.s.1 ⟨Std.IsPreorder.le_refl _, h1⟩ ⟨by rw [he]; exact Std.IsPreorder.le_refl _, by rw [he]; exact h2⟩
  · rw [h.start, List.mem_map]
    constructor
    · rintro ⟨x, hx, rfl⟩
      obtain ⟨h1, h2⟩ := List.mem_filter.1 hx
      refine ⟨x, h1, rfl, fun y hy hyx => ?_⟩
      have : (A.any fun x' => touch x' x) = true := List.any_eq_true.2 ⟨y, hy, by simp [touch, hyx.1, hyx.2]⟩
      rw [this] at h2
      cases h2
    · rintro ⟨x, hx, rfl, hno⟩
      refine ⟨x, List.mem_filter.2 ⟨hx, ?_⟩, rfl⟩
      rw [Bool.not_eq_true', Bool.eq_false_iff]
      intro ha
      obtain ⟨y, hy, hyt⟩ := List.any_eq_true.1 ha
      simp only [touch, Bool.and_eq_true, decide_eq_true_eq] at hyt
      exact hno y hy ⟨hyt.1, hyt.2⟩
end Go.Proofs.YtgppgecglkellaaGreat
namespace Go.Proofs.YtgppgecglkellaaGreat

structure Mk where
  floor : Int
  most : Int
  f : K → Int
/-- what Last answers of a span -/
def LastIs (m : Mk) (s : K × K) (n : Int) : Prop := (n = 0 ∧ ∀ k, has s k → m.f k ≤ m.floor) ∨ (m.floor < n ∧ (∃ k, has s k ∧ m.f k = n) ∧ ∀ k, has s k → m.f k ≤ n)
/-- a key of what it read was written above its Read -/
def clash (m : Mk) (t : Txn) : Prop := ∃ s ∈ t.reads, ∃ k, has s k ∧ m.floor < m.f k ∧ t.read < m.f k
open Classical in
noncomputable def verd (m : Mk) (t : Txn) : Int := if t.reads ≠ [] ∧ t.read < m.floor then 3 else if clash m t then 2 else 1
/-- the keys that a transaction changes -/
def keysOf (t : Txn) (k : K) : Prop := mem (t.chgs.map cspan) k
open Classical in
noncomputable def wrote (m : Mk) (v : Int) (t : Txn) : Mk := ⟨m.floor, if ∃ k, keysOf t k then v else m.most, fun k => if keysOf t k then v else m.f k⟩
noncomputable def judge1 (m : Mk) (v : Int) (t : Txn) : Mk := if verd m t = 1 then wrote m v t else m
noncomputable def judgeL : Mk → Int → List Txn → List Int
  | _, _, [] => []
  | m, v, t :: r => verd m t :: judgeL (judge1 m v t) v r
noncomputable def judgeM : Mk → Int → List Txn → Mk
  | m, _, [] => m
  | m, v, t :: r => judgeM (judge1 m v t) v r
/-- the error of a Judge -/
def jerr (m : Mk) (v : Int) (ts : List Txn) : Int := if v ≤ m.floor ∨ v ≤ m.most then 9 else if 4 < ts.length ∨ ∃ t ∈ ts, ¬ soundT t then 2 else 0
noncomputable def jout (m : Mk) (v : Int) (ts : List Txn) : List Int := if jerr m v ts = 0 then judgeL m v ts else []
noncomputable def jnext (m : Mk) (v : Int) (ts : List Txn) : Mk := if jerr m v ts = 0 then judgeM m v ts else m
def ferr (m : Mk) (v : Int) : Int := if v < m.floor then 7 else 0
def fnext (m : Mk) (v : Int) : Mk := if v < m.floor then m else { m with floor := v }
def mnew (v : Int) : Mk := ⟨if v < 0 then 0 else v, 0, fun _ => 0⟩
structure Mk.Ok (m : Mk) : Prop where
  low : 0 ≤ m.floor
  most : 0 ≤ m.most
  high : m.floor < 9223372036854775808 ∧ m.most < 9223372036854775808
  f : ∀ k, 0 ≤ m.f k ∧ m.f k ≤ m.most
theorem LastIs.eq {m : Mk} (h : m.Ok) {s : K × K} {n n' : Int} (h1 : LastIs m s n) (h2 : LastIs m s n') : n = n' := by
  have := h.low
  rcases h1 with ⟨rfl, h1⟩ | ⟨h1, ⟨k, hk, hk2⟩, h3⟩ <;> rcases h2 with ⟨rfl, h2⟩ | ⟨h2, ⟨k', hk', hk2'⟩, h3'⟩
  · rfl
  · have := h1 k' hk'; omega
  · have := h2 k hk; omega
  · have := h3 k' hk'; have := h3' k hk; omega
theorem LastIs.clash {m : Mk} {s : K × K} {n : Int} (h : m.Ok) (h1 : LastIs m s n) (r : Int) (hr : 0 ≤ r) : (∃ k, has s k ∧ m.floor < m.f k ∧ r < m.f k) ↔ r < n := by
  have := h.low
  rcases h1 with ⟨rfl, h1⟩ | ⟨h1, ⟨k, hk, hk2⟩, h3⟩
  · constructor
    · rintro ⟨k, hk, h2, h4⟩
      have := h1 k hk; omega
    · intro h; omega
  · constructor
    · rintro ⟨u, hu, h2, h4⟩
      have := h3 u hu; omega
    · intro h5
      exact ⟨k, hk, by omega, by omega⟩
theorem verd_cases (m : Mk) (t : Txn) : verd m t = 1 ∨ verd m t = 2 ∨ verd m t = 3 := by
  unfold verd
  split
  · exact .inr (.inr rfl)
  · split
    · exact .inr (.inl rfl)
    · exact .inl rfl
theorem Mk.Ok.new {v : Int} (hv : v < 9223372036854775808) : (mnew v).Ok := by
  unfold mnew
  refine ⟨?_, Int.le_refl _, ⟨?_, by simp⟩, fun k => ⟨Int.le_refl _, Int.le_refl _⟩⟩
  · simp only; split <;> omega
  · simp only; split <;> omega
theorem Mk.Ok.forget {m : Mk} (h : m.Ok) {v : Int} (hv : v < 9223372036854775808) : (fnext m v).Ok := by
  unfold fnext
  split
  · exact h
  · have := h.low
    exact ⟨by simp only; omega, h.most, ⟨hv, h.high.2⟩, h.f⟩
theorem Mk.Ok.wrote {m : Mk} (h : m.Ok) {v : Int} (t : Txn) (hv : m.most ≤ v) (hv2 : v < 9223372036854775808) : (wrote m v t).Ok := by
  have h0 := h.most
  unfold Go.Proofs.YtgppgecglkellaaGreat.wrote
  refine ⟨h.low, ?_, ⟨h.high.1, ?_⟩, fun k => ?_⟩
  · simp only; split <;> omega
  · simp only; split
    · exact hv2
    · exact h.high.2
  · have := h.f k
    simp only
    split
    · rename_i hk
      rw [if_pos ⟨k, hk⟩]
      omega
    · split <;> omega
theorem Mk.Ok.judge1 {m : Mk} (h : m.Ok) {v : Int} (t : Txn) (hv : m.most ≤ v) (hv2 : v < 9223372036854775808) : (judge1 m v t).Ok ∧ (judge1 m v t).most ≤ v ∧ (judge1 m v t).floor = m.floor := by
  unfold Go.Proofs.YtgppgecglkellaaGreat.judge1
  split
  · refine ⟨h.wrote t hv hv2, ?_, rfl⟩
    unfold Go.Proofs.YtgppgecglkellaaGreat.wrote
    simp only
    split <;> omega
  · exact ⟨h, hv, rfl⟩
theorem Mk.Ok.judgeM : ∀ (ts : List Txn) {m : Mk} {v : Int}, m.Ok → m.most ≤ v → v < 9223372036854775808 → (judgeM m v ts).Ok ∧ (judgeM m v ts).most ≤ v ∧ (judgeM m v ts).floor = m.floor
  | [], m, v, h, hv, _ => ⟨h, hv, rfl⟩
  | t :: ts, m, v, h, hv, hv2 => by
    obtain ⟨h1, h2, h3⟩ := h.judge1 t hv hv2
    obtain ⟨h4, h5, h6⟩ := Mk.Ok.judgeM ts h1 h2 hv2
    exact ⟨h4, h5, h6.trans h3⟩
theorem jerr_ok {m : Mk} {v : Int} {ts : List Txn} (h : jerr m v ts = 0) : m.floor < v ∧ m.most < v ∧ ts.length ≤ 4 ∧ ∀ t ∈ ts, soundT t := by
  unfold jerr at h
  split at h
  · cases h
  · split at h
    · cases h
    · rename_i h1 h2
      exact ⟨by omega, by omega, by omega, fun t ht => Classical.byContradiction fun hn => h2 (.inr ⟨t, ht, hn⟩)⟩
theorem Mk.Ok.jnext {m : Mk} (h : m.Ok) {v : Int} (ts : List Txn) (hv : v < 9223372036854775808) : (jnext m v ts).Ok := by
  unfold Go.Proofs.YtgppgecglkellaaGreat.jnext
  split
  · rename_i he
    exact (Mk.Ok.judgeM ts h (by have := (jerr_ok he).2.1; omega) hv).1
  · exact h
theorem judgeL_len : ∀ (ts : List Txn) (m : Mk) (v : Int), (judgeL m v ts).length = ts.length
  | [], _, _ => rfl
  | t :: ts, m, v => by simp [judgeL, judgeL_len ts]
theorem judge_snoc : ∀ (ts : List Txn) (m : Mk) (v : Int) (t : Txn), judgeL m v (ts ++ [t]) = judgeL m v ts ++ [verd (judgeM m v ts) t] ∧ judgeM m v (ts ++ [t]) = judge1 (judgeM m v ts) v t
  | [], m, v, t => ⟨rfl, rfl⟩
  | x :: ts, m, v, t => by
    obtain ⟨h1, h2⟩ := judge_snoc ts (judge1 m v x) v t
    exact ⟨by simp [judgeL, judgeM, h1], by simp [judgeM, h2]⟩
end Go.Proofs.YtgppgecglkellaaGreat
namespace Go.Proofs.YtgppgecglkellaaGreat
open Go.RowKit

theorem wpList_addT {ops : Array Oper} {rest : List Oper} {o : Oper} {a : Act} {Q : Exit → Act → World → Prop} {w : World} (hgd : Region.wanted o (yielded ops a.tmps) = true) (s x : Operand)
    (ho : o.op = .call { callee := .builtin .append, args := #[s, x], argTypes := #[44, 44] })
    (base : Nat) (v : Value) (l : List (K × K)) (hs : a.eval s = v) (hown : OwnS w base v l) (B : Nat) (v2 : Value) (p : List (K × K)) (hx : a.eval x = v2) (hp : Rd cellsS 2 w B v2 p)
    (hlen : l.length + p.length ≤ 7036874417000) (hbase : base ≤ w.heap.size) (C : Nat) (w0 : World) (hb : Below C w0 w) (hC : C ≤ base)
    (h : ∀ A' c' w', Hid (OwnS w' base (.slice A' (l ++ p).length c') (l ++ p)) → Hid (Below C w0 w') → Hid (base ≤ w'.heap.size) → wpList Tryz.prog ops Q rest (a.put o.dst (.slice A' (l ++ p).length c')) w') : wpList Tryz.prog ops Q (o :: rest) a w := by
  obtain ⟨i0, hi, hz0, hz1, hz2⟩ := info_parts info_spans
  refine BigFrame.wpList_want hgd fun K hK => ?_
  refine wp_addAny (enc := cellsS) (k := 2) 44 52 32 i0 _ Tryz.underlying44 hi hz0 hz1 hz2 rfl (by decide) cellsS_len cellsS_one s x ho base v l hs hown B v2 p hx hp (by unfold maxLen; omega) (by omega) hbase fun A' c' w' h1 h2 => ?_
  have hown2 : Own cellsS 2 52 w base v l := hown
  exact hK _ _ (h A' c' w' (Lib.hid h1) (Lib.hid (hown2.grown hb h2 hC (Nat.le_trans hC hbase))) (Lib.hid (Nat.le_trans hbase h2.size)))
set_option maxHeartbeats 2000000 in
set_option maxRecDepth 100000 in
theorem rspans_any (l : List Chg) (hs : ∀ c ∈ l, smallC c) (v : Value) (w : World) (hv : RdC w w.heap.size v l) (hl : l.length ≤ 100000) :
    Calls Tryz.prog 29 #[v] w fun e w' => ∃ v' R, e = .returned v' ∧ OwnS w' w.heap.size v' R ∧ Below w.heap.size w w' ∧ Fits R (fun k => mem (l.map cspan) k) ∧ R.length ≤ 200000 := by
  obtain ⟨A, cc, rfl, hcc, hi⟩ := hv.at
  have HI := Lib.hid hi; clear hi
  have HS := Lib.hid hs; clear hs
  obtain ⟨g, hg⟩ : ∃ g, g = w.heap.size := ⟨_, rfl⟩
  have HG := Lib.hid hg
  have hsz : g ≤ w.heap.size := by omega
  clear hv hg
  go_enter Tryz.func29, Tryz.ntmps29
  go_wp2_with fail
  go_loopw [3, 4] (fun ov iv wr => ∃ (i : Nat) (A' : Option Addr) (c' : Nat), i ≤ l.length ∧ iv = .int .i64 i ∧ ov = .slice A' i c' ∧ OwnS wr g ov ((l.take i).map cspan) ∧ Below g w wr ∧ g ≤ wr.heap.size) (fun _ iv _ => l.length - (intOf iv).toNat)
  case atStart =>
    refine ⟨0, some ⟨w.heap.size, 0, none⟩, 0, Nat.zero_le _, rfl, rfl, ?_, ?_, ?_⟩
    · rw [HG.out]; exact Own.empty _ _ (Nat.le_refl _)
    · rw [HG.out]; exact (Below.refl _ w).alloc (Nat.le_refl _) _
    · rw [HG.out]; simp
  case round =>
    obtain ⟨i, A', c', hil, rfl, rfl, ho, hbw, hbs⟩ := hrel
    have HBW := Lib.hid hbw; clear hbw
    have HBS := Lib.hid hbs; clear hbs
    have HO := Lib.hid ho; clear ho
    have hlm : ((l.take i).map cspan).length = i := by simp; omega
    by_cases hlt : i < l.length
    · obtain ⟨b, o, rfl, hbB, k0, k1, k2⟩ := HI.out i hlt
      rw [← HBW.out.cell (p := ⟨b, o + i * 3, none⟩) (by rw [HG.out]; exact hbB)] at k0
      rw [← HBW.out.cell (p := ⟨b, o + i * 3 + 1, none⟩) (by rw [HG.out]; exact hbB)] at k1
      rw [← HBW.out.cell (p := ⟨b, o + i * 3 + 2, none⟩) (by rw [HG.out]; exact hbB)] at k2
      have h1 := rspan_any l[i] wr (HS.out _ (List.getElem_mem hlt)).1
      have hnext : (l.take (i + 1)).map cspan = (l.take i).map cspan ++ [cspan l[i]] := by
        rw [List.take_succ_eq_append_getElem hlt, List.map_append]; rfl
      generalize (l.take i).map cspan = out at HO hlm hnext
      generalize cspan l[i] = sp at h1 hnext
      generalize l[i] = z at k0 k1 k2 h1
      obtain ⟨kz, xz, yz⟩ := z
      unfold cval spv at h1
      simp only at k0 k1 k2 h1
      have H1 := Lib.hid h1; clear h1
      have HN := Lib.hid hnext; clear hnext
      have HLM := Lib.hid hlm
      go_wp2_with fail
      refine H1.out.mono ?_
      rintro e w3 ⟨rfl, hb3⟩
      have HB3 := Lib.hid (show Below g w w3 from HBW.out.trans (hb3.mono HBS.out))
      have HS3 := Lib.hid (show g ≤ w3.heap.size from Nat.le_trans HBS.out hb3.size)
      have HO3 := Lib.hid (show OwnS w3 g _ _ from HO.out.below hb3 (Nat.le_refl _))
      clear hb3 k0 k1 k2
      go_wp2_with (at_builtin; go_must (refine wpList_addT rfl _ _ rfl g (.slice A' i c') out rfl ?f1 (w3.heap.size + 1) _ [sp] rfl (RdS.one w3 sp) (by simp; omega) ?f2 g w ?f3 (Nat.le_refl _) ?f4))
      case f1 => exact HO3.out.alloc _
      case f2 => have := HS3.out; simp; omega
      case f3 => exact HB3.out.alloc HS3.out _
      intro A2 c2 w4 ho4 hb4 hz4
      go_wp2_with fail
      go_roundw
      case rel => exact ⟨i + 1, A2, c2, by omega, by go_num, by simp [hlm], by rw [HN.out]; exact ho4.out, hb4.out, hz4.out⟩
      case measure => simp [intOf]; omega
    · obtain rfl : i = l.length := by omega
      have ho := HO.out
      rw [List.take_length] at ho
      have HO2 := Lib.hid (show RdS wr wr.heap.size _ _ from ho.rd)
      clear ho
      have hj := rjoin_any (l.map cspan) _ wr HO2.out (by simpa using hl)
      have HJ := Lib.hid hj; clear hj
      go_wp2_with fail
      refine HJ.out.mono ?_
      rintro e w5 ⟨v5, R, rfl, ho5, hb5, hf5, hl5⟩
      have HO5 := Lib.hid ho5; clear ho5
      have HB5 := Lib.hid hb5; clear hb5
      have HF5 := Lib.hid hf5; clear hf5
      have HL5 := Lib.hid hl5; clear hl5
      go_wp2_with fail
      have hgz : w.heap.size ≤ wr.heap.size := by rw [← HG.out]; exact HBS.out
      refine bodyPost_ret (v := v5) ?_ rfl ⟨_, _, rfl, HO5.out.lower hgz, (by have h := HBW.out; rwa [HG.out] at h : Below w.heap.size w wr).trans (HB5.out.mono hgz), HF5.out, HL5.out⟩
      simp [results, Tryz.results29, go_sem]
end Go.Proofs.YtgppgecglkellaaGreat
namespace Go.Proofs.YtgppgecglkellaaGreat
open Go.RowKit

/-- of the blocks that were there those of D alone have moved -/
structure Mv (D : Nat → Prop) (w w' : World) : Prop where
  os : w'.os = w.os
  tape : w'.tape = w.tape
  output : w'.output = w.output
  size : w.heap.size ≤ w'.heap.size
  block : ∀ i, i < w.heap.size → ¬ D i → w'.heap[i]? = w.heap[i]?
namespace Mv
variable {D D' : Nat → Prop} {w w' w2 : World}
theorem refl (D : Nat → Prop) (w : World) : Mv D w w := ⟨rfl, rfl, rfl, Nat.le_refl _, fun _ _ _ => rfl⟩
theorem mono (h : Mv D w w') (hD : ∀ i, i < w.heap.size → D i → D' i) : Mv D' w w' := ⟨h.os, h.tape, h.output, h.size, fun i hi hn => h.block i hi fun hd => hn (hD i hi hd)⟩
theorem trans (h : Mv D w w') (h2 : Mv D' w' w2) (hD : ∀ i, i < w.heap.size → D' i → D i) : Mv D w w2 :=
  ⟨h2.os.trans h.os, h2.tape.trans h.tape, h2.output.trans h.output, Nat.le_trans h.size h2.size, fun i hi hn => (h2.block i (Nat.lt_of_lt_of_le hi h.size) fun hd => hn (hD i hi hd)).trans (h.block i hi hn)⟩
theorem of_grown {row : Option Nat} (h : w.grownBy w' row) : Mv (fun i => some i = row) w w' := ⟨h.os, h.tape, h.output, h.size, fun i hi hn => h.block i hi hn⟩
theorem grown {row : Option Nat} (h : Mv D w w') (h2 : w'.grownBy w2 row) (hD : ∀ i, i < w.heap.size → some i = row → D i) : Mv D w w2 := h.trans (of_grown h2) hD
theorem alloc (h : Mv D w w') (o : Obj) : Mv D w (w'.alloc o) :=
  h.trans (D' := fun _ => False) ⟨rfl, rfl, rfl, by simp, fun i hi _ => Below.heap_alloc w' o i hi⟩ (fun _ _ h => h.elim)
theorem setCell (h : Mv D w w') {p : Addr} (hp : p.block < w.heap.size → D p.block) (u : Value) : Mv D w (w'.setCell p u) := by
  refine h.trans (D' := fun i => i = p.block) ⟨rfl, rfl, rfl, by simp, fun i hi hn => Below.heap_setCell w' p u i hn⟩ ?_
  rintro i hi rfl
  exact hp hi
theorem drew (h : Mv D w w') : Mv D w w'.drew := ⟨h.os, h.tape, h.output, h.size, h.block⟩
theorem below {B : Nat} (h : Mv D w w') (hB : B ≤ w.heap.size) (hD : ∀ i, D i → B ≤ i) : Below B w w' :=
  ⟨h.os, h.tape, h.output, h.size, fun k hk => h.block k (Nat.lt_of_lt_of_le hk hB) fun hd => by have := hD k hd; omega⟩
theorem of_below {B : Nat} (h : Below B w w') : Mv (fun i => B ≤ i) w w' := ⟨h.os, h.tape, h.output, h.size, fun i _ hn => h.block i (by omega)⟩
theorem of_new (h : Below w.heap.size w w') (D : Nat → Prop) : Mv D w w' := ⟨h.os, h.tape, h.output, h.size, fun i hi _ => h.block i hi⟩
theorem whole {g : Nat} {t : TypeId} {cs : List Value} (hg : Whole w g t cs) (h : Mv D w w') (hn : ¬ D g) : Whole w' g t cs := (h.block g hg.size hn).trans hg
end Mv

/-- the row is the same, or a new one, or none -/
def NewRow (w : World) (o o' : Option Nat) : Prop := ∀ g, o' = some g → o = some g ∨ w.heap.size ≤ g
theorem NewRow.refl (w : World) (o : Option Nat) : NewRow w o o := fun _ h => .inl h
theorem NewRow.out {w : World} {o o' : Option Nat} (h : NewRow w o o') {r : Nat} (hr : r < w.heap.size) (hn : o ≠ some r) : o' ≠ some r := by
  intro he
  rcases h r he with h1 | h1
  · exact hn h1
  · omega
theorem NewRow.low {w : World} {base : Nat} {o o' : Option Nat} (h : NewRow w o o') (hb : base ≤ w.heap.size) (hl : ∀ g, o = some g → base ≤ g) : ∀ g, o' = some g → base ≤ g := by
  intro g he
  rcases h g he with h1 | h1
  · exact hl g h1
  · omega
theorem NewRow.trans {w w' : World} {o o' o2 : Option Nat} (h : NewRow w o o') (h2 : NewRow w' o' o2) (hs : w.heap.size ≤ w'.heap.size) : NewRow w o o2 := by
  intro g he
  rcases h2 g he with h1 | h1
  · exact h g h1
  · exact .inr (Nat.le_trans hs h1)
end Go.Proofs.YtgppgecglkellaaGreat
namespace Go.Proofs.YtgppgecglkellaaGreat
open Go.RowKit

section
variable {α : Type} {enc : α → List Value} {k : Nat} {e : TypeId}
/-- cells below block B, in no block of G -/
def RdG (enc : α → List Value) (k : Nat) (w : World) (B : Nat) (G : Nat → Prop) (v : Value) (l : List α) : Prop :=
  ∃ A c, v = .slice A l.length c ∧ l.length ≤ c ∧ ∀ i (_ : i < l.length), ∃ b o, A = some ⟨b, o, none⟩ ∧ b < B ∧ ¬ G b ∧ ∀ j u, (enc l[i])[j]? = some u → w.cell? ⟨b, o + i * k + j, none⟩ = some u
variable {w w' : World} {B B' : Nat} {G G' : Nat → Prop} {v : Value} {l : List α}
theorem RdG.rd (h : RdG enc k w B G v l) : Rd enc k w B v l := by
  obtain ⟨A, c, rfl, hc, hi⟩ := h
  refine ⟨A, c, rfl, hc, fun i hs => ?_⟩
  obtain ⟨b, o, hA, hb, _, h1⟩ := hi i hs
  exact ⟨b, o, hA, hb, h1⟩
theorem RdG.of (h : Rd enc k w B v l) (hG : ∀ b, b < B → ¬ G b) : RdG enc k w B G v l := by
  obtain ⟨A, c, rfl, hc, hi⟩ := h
  refine ⟨A, c, rfl, hc, fun i hs => ?_⟩
  obtain ⟨b, o, hA, hb, h1⟩ := hi i hs
  exact ⟨b, o, hA, hb, hG b hb, h1⟩
theorem RdG.mv {D : Nat → Prop} (h : RdG enc k w B G v l) (hm : Mv D w w') (hB : B ≤ w.heap.size) (hD : ∀ b, b < B → D b → G b) : RdG enc k w' B G v l := by
  obtain ⟨A, c, rfl, hc, hi⟩ := h
  refine ⟨A, c, rfl, hc, fun i hs => ?_⟩
  obtain ⟨b, o, hA, hb, hg, h1⟩ := hi i hs
  exact ⟨b, o, hA, hb, hg, fun j u hu => by rw [World.cell?_of_block (w := w) (hm.block b (by omega) (fun h => hg (hD b hb h)))]; exact h1 j u hu⟩
theorem RdG.mono (h : RdG enc k w B G v l) (hB : B ≤ B') (hG : ∀ b, b < B → G' b → G b) : RdG enc k w B' G' v l := by
  obtain ⟨A, c, rfl, hc, hi⟩ := h
  refine ⟨A, c, rfl, hc, fun i hs => ?_⟩
  obtain ⟨b, o, hA, hb, hg, h1⟩ := hi i hs
  exact ⟨b, o, hA, by omega, fun h => hg (hG b hb h), h1⟩
theorem RdG.none_ (w : World) (B : Nat) (G : Nat → Prop) (A : Option Addr) (c : Nat) : RdG enc k w B G (.slice A 0 c) [] := ⟨A, c, rfl, Nat.zero_le _, fun i hi => by simp at hi⟩
theorem RdG.or {G1 G2 : Nat → Prop} (h : RdG enc k w B G1 v l) (h2 : RdG enc k w B G2 v l) : RdG enc k w B (fun i => G1 i ∨ G2 i) v l := by
  obtain ⟨A, c, rfl, hc, hi⟩ := h
  obtain ⟨A2, c2, ee, hc2, hi2⟩ := h2
  injection ee with e1 _ e3
  subst e1 e3
  refine ⟨A, c, rfl, hc, fun i hs => ?_⟩
  obtain ⟨b, o, hA, hb, hg, h1⟩ := hi i hs
  obtain ⟨b2, o2, hA2, _, hg2, _⟩ := hi2 i hs
  rw [hA] at hA2
  injection hA2 with hA2
  injection hA2 with e4
  subst e4
  exact ⟨b, o, hA, hb, fun h => h.elim hg hg2, h1⟩
/-- what is owned from base on -/
theorem RdG.own {base : Nat} (hk : ∀ x, (enc x).length = k) (h : Own enc k e w base v l) (hG : ∀ b, base ≤ b → b < w.heap.size → v.ownBlock = some b → ¬ G b) : RdG enc k w w.heap.size G v l := by
  obtain ⟨A, c, hv, hc, hi⟩ := Own.rd hk h
  refine ⟨A, c, hv, hc, fun i hs => ?_⟩
  obtain ⟨b, o, hA, hb, h1⟩ := hi i hs
  refine ⟨b, o, hA, hb, ?_, h1⟩
  rcases h.form with ⟨_, e0⟩ | ⟨g, cap, ee, hg, _, _⟩
  · rw [e0] at hs; simp at hs
  · rw [hv, hA] at ee
    injection ee with ee _ _
    injection ee with ee
    injection ee with ee _ _
    subst ee
    exact hG b hg hb (by rw [hv, hA]; rfl)
/-- those from n on -/
theorem RdG.drop {A : Option Addr} {c m : Nat} (h : RdG enc k w B G (.slice A m c) l) (n c' : Nat) (hn : n ≤ l.length) (hc' : l.length - n ≤ c') (A' : Option Addr) (hA' : n < l.length → A' = A.map (·.add (n * k))) :
    RdG enc k w B G (.slice A' (l.length - n) c') (l.drop n) := by
  obtain ⟨A0, c0, hv, hc, hi⟩ := h
  injection hv with h1 h2 h3
  subst h1 h3
  refine ⟨A', c', by simp, by simpa using hc', fun i hs => ?_⟩
  have hs' : n + i < l.length := by simp at hs; omega
  obtain ⟨b, o, hA, hb, hg, h1⟩ := hi (n + i) hs'
  refine ⟨b, o + n * k, ?_, hb, hg, fun j u hu => ?_⟩
  · rw [hA' (by omega), hA]
    simp only [Option.map_some, Option.some.injEq]
    unfold Addr.add
    split
    · rename_i hz; rw [hz]; rfl
    · rfl
  · have := h1 j u (by simpa using hu)
    rwa [show o + (n + i) * k + j = o + n * k + i * k + j by rw [Nat.add_mul]; omega] at this
end
end Go.Proofs.YtgppgecglkellaaGreat

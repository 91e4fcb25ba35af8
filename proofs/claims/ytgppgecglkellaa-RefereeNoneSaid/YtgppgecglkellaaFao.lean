/- The program's referee. What referees share: new memory, moved memory; the simplest facts. Numbers held against numbers, as the reference does. -/
import Derived.Test.YtgppgecglkellaaFan
import Derived.Test.YtgppgecglkellaaFac
import Derived.Test.YtgppgecglkellaaFab
namespace Go.Proofs.Ytgppgecglkellaa
open Go.RowKit
attribute [local go_sem] less_eq same_eq le_eq ge_eq gt_eq

/-- a referee at block q; its blocks are among G; no more than n transactions were written in its marks -/
structure RfAt (w : World) (base q : Nat) (G : Nat → Prop) (n : Nat) (r : Rf) : Prop where
  blk : ∃ (mp : Option Nat) (tv : Value) (Gm : Nat → Prop), Whole w q 38 [.int .i64 r.epoch, .int .i64 r.version, .bool r.judged, tv, .pointer (mp.map fun k => ⟨k, 0, none⟩)] ∧
    RdG encI 1 w w.heap.size (fun i => i = q ∨ Gm i ∨ ¬ G i) tv r.told ∧ (mp = none → r.epoch = 0) ∧ (∀ k, mp = some k → r.epoch ≠ 0 ∧ ∃ b0 n0, base ≤ b0 ∧ n0 ≤ n ∧ MkAt w b0 k Gm n0 r.mks) ∧ (∀ i, Gm i → G i) ∧ ¬ Gm q
  me : G q
  low : base ≤ w.heap.size ∧ ∀ i, G i → base ≤ i ∧ i < w.heap.size
  short : r.told.length ≤ 4
section
variable {w w' : World} {base q n : Nat} {G : Nat → Prop} {r : Rf}
theorem RfAt.mv {D : Nat → Prop} (h : RfAt w base q G n r) (hm : Mv D w w') (hn : ∀ i, G i → ¬ D i) : RfAt w' base q G n r := by
  obtain ⟨mp, tv, Gm, hW, hT, h0, h1, hs, hq⟩ := h.blk
  refine ⟨⟨mp, tv, Gm, hm.whole hW (hn q h.me), (hT.mv hm (Nat.le_refl _) (fun b _ hd => .inr (.inr fun hg => hn b hg hd))).mono hm.size (fun _ _ h => h), h0, fun k hk => ?_, hs, hq⟩, h.me, ⟨Nat.le_trans h.low.1 hm.size, fun i hi => ⟨(h.low.2 i hi).1, Nat.lt_of_lt_of_le (h.low.2 i hi).2 hm.size⟩⟩, h.short⟩
  obtain ⟨he, b0, n0, hb, hn0, hk⟩ := h1 k hk
  exact ⟨he, b0, n0, hb, hn0, hk.mv hm (fun i hi => hn i (hs i hi))⟩
theorem RfAt.fresh (h : RfAt w base q G n r) (hb : Below w.heap.size w w') : RfAt w' base q G n r := h.mv (Mv.of_new hb (fun _ => False)) (fun _ _ h => h)
theorem RfAt.wide {n' : Nat} (h : RfAt w base q G n r) (hn : n ≤ n') : RfAt w base q G n' r := by
  obtain ⟨mp, tv, Gm, hW, hT, h0, h1, hs, hq⟩ := h.blk
  exact ⟨⟨mp, tv, Gm, hW, hT, h0, fun k hk => (by obtain ⟨he, b0, n0, hb, hn0, hk⟩ := h1 k hk; exact ⟨he, b0, n0, hb, Nat.le_trans hn0 hn, hk⟩), hs, hq⟩, h.me, h.low, h.short⟩
end
set_option maxHeartbeats 1000000 in
set_option maxRecDepth 100000 in
theorem cloneI_any (l : List Int) (v : Value) (w : World) (hv : RdI w w.heap.size v l) (hl : l.length ≤ 17592186043904) :
    Calls Try.prog 12 #[v] w fun e w' => ∃ A c, e = .returned (.slice A l.length c) ∧ OwnI w' w.heap.size (.slice A l.length c) l ∧ Below w.heap.size w w' := by
  obtain ⟨A, c, rfl, hc, hi⟩ := hv.at
  have HV := Lib.hid hv; clear hv
  cases A with
  | none =>
    have hl0 : l = [] := by
      cases l with
      | nil => rfl
      | cons x r => obtain ⟨b, o, hA, _⟩ := hi 0 (by simp); cases hA
    subst hl0
    clear hi
    have hnil := fun W => Lib.run_eql_slice_nil (P := Try.prog) W 28 3 none 0 c 0 0 Try.underlying28
    go_enter Try.func12, Try.ntmps12
    go_wp2_with fail
    go_ret
    exact ⟨_, _, rfl, Own.nil _ _, Below.refl _ _⟩
  | some ad =>
    clear hi
    have hnil := fun W => Lib.run_eql_slice_nil (P := Try.prog) W 28 3 (some ad) l.length c 0 0 Try.underlying28
    go_enter Try.func12, Try.ntmps12
    go_wp2_with (at_builtin; go_must (refine wpList_addI rfl _ _ rfl w.heap.size _ [] rfl (Own.empty _ _ (Nat.le_refl _)) w.heap.size _ l rfl (HV.out.below ((Below.refl _ _).alloc (Nat.le_refl _) _) (Nat.le_refl _)) (by simp; omega) (by simp) w.heap.size w ((Below.refl _ w).alloc (Nat.le_refl _) _) (Nat.le_refl _) ?_))
    intro A' c' w' ho hg _
    have HO := Lib.hid (show OwnI w' w.heap.size (.slice A' l.length c') l from ho.out)
    have HG := Lib.hid hg.out
    go_wp2_with fail
    go_ret
    exact ⟨A', c', rfl, HO.out, HG.out⟩
set_option maxHeartbeats 1000000 in
set_option maxRecDepth 100000 in
theorem rfnew_any (w : World) : Calls Try.prog 5 #[] w fun e w' => ∃ q G, e = .returned (.pointer (some ⟨q, 0, none⟩)) ∧ RfAt w' w.heap.size q G 0 Rf.new ∧ Below w.heap.size w w' := by
  obtain ⟨w1, hw1⟩ : ∃ W, W = w.alloc (.cells #[.int .i64 0, .int .i64 0, .bool false, .slice none 0 0, .pointer none] 38) := ⟨_, rfl⟩
  have hb : Below w.heap.size w w1 := by rw [hw1]; exact (Below.refl _ w).alloc (Nat.le_refl _) _
  have hW : Whole w1 w.heap.size 38 [.int .i64 0, .int .i64 0, .bool false, .slice none 0 0, .pointer none] := by rw [hw1]; exact Whole.fresh w _ [_, _, _, _, _]
  have h1 : RfAt w1 w.heap.size w.heap.size (fun i => i = w.heap.size) 0 Rf.new :=
    ⟨⟨none, .slice none 0 0, fun _ => False, hW, RdG.none_ _ _ _ _ _, fun _ => rfl, (fun k hk => by cases hk), fun _ h => h.elim, fun h => h⟩, rfl, ⟨hb.size, fun i hi => ⟨by omega, by rw [hi]; exact hW.size⟩⟩, by simp [Rf.new]⟩
  have H1 := Lib.hid h1
  have HB := Lib.hid hb
  clear h1 hb hW
  go_enter Try.func5, Try.ntmps5
  go_wp2_with fail
  rw [← hw1]
  go_ret
  exact ⟨_, _, rfl, H1.out, HB.out⟩
set_option maxHeartbeats 4000000 in
set_option maxRecDepth 100000 in
theorem rfbegin_any (base q n : Nat) (G : Nat → Prop) (r : Rf) (e v : Int) (_he : I64 e) (hv : I64 v) (w : World) (h : RfAt w base q G n r) :
    Calls Try.prog 7 #[.pointer (some ⟨q, 0, none⟩), .int .i64 e, .int .i64 v] w fun o w' => o = .returned (.int .i64 (r.begin_ e v).1) ∧ ∃ G', RfAt w' base q G' n (r.begin_ e v).2 ∧ (∀ i, G' i → G i ∨ w.heap.size ≤ i) ∧ Mv G w w' := by
  obtain ⟨mp, tv, Gm, hW, -⟩ := h.blk
  have c0 := hW.cell 0 _ rfl
  have HW := Lib.hid hW
  have H := Lib.hid h
  have hqs := hW.size
  clear h hW
  have hcase : e < 1 ∨ (¬ e < 1 ∧ v < 0) ∨ (¬ e < 1 ∧ ¬ v < 0 ∧ e < r.epoch) ∨ (¬ e < 1 ∧ ¬ v < 0 ∧ e = r.epoch) ∨ (¬ e < 1 ∧ ¬ v < 0 ∧ r.epoch < e) := by omega
  rcases hcase with h1 | ⟨h1, h2⟩ | ⟨h1, h2, h3⟩ | ⟨h1, h2, h3⟩ | ⟨h1, h2, h3⟩
  · have hbg : r.begin_ e v = (1, r) := by unfold Rf.begin_; rw [if_pos (.inl h1)]
    rw [hbg]
    clear hbg
    have hb1 := decide_eq_true h1
    go_enter Try.func7, Try.ntmps7
    go_wp2_with fail
    go_ret
    exact ⟨rfl, G, H.out, fun _ h => .inl h, Mv.refl _ _⟩
  · have hbg : r.begin_ e v = (1, r) := by unfold Rf.begin_; rw [if_pos (.inr h2)]
    rw [hbg]
    clear hbg
    have hb1 := decide_eq_false h1
    have hb2 := decide_eq_true h2
    go_enter Try.func7, Try.ntmps7
    go_wp2_with fail
    go_ret
    exact ⟨rfl, G, H.out, fun _ h => .inl h, Mv.refl _ _⟩
  · have hbg : r.begin_ e v = (7, r) := by unfold Rf.begin_; rw [if_neg (by omega), if_pos h3]
    rw [hbg]
    clear hbg
    have hb1 := decide_eq_false h1
    have hb2 := decide_eq_false h2
    have hb3 := decide_eq_true h3
    go_enter Try.func7, Try.ntmps7
    go_wp2_with fail
    go_ret
    exact ⟨rfl, G, H.out, fun _ h => .inl h, Mv.refl _ _⟩
  · have hbg : r.begin_ e v = (0, r) := by unfold Rf.begin_; rw [if_neg (by omega), if_neg (by omega), if_pos h3]
    rw [hbg]
    clear hbg
    have hb1 := decide_eq_false h1
    have hb2 := decide_eq_false h2
    have hb3 : decide (e < r.epoch) = false := decide_eq_false (by omega)
    have hb4 : (e == r.epoch) = true := by simpa using h3
    clear h3
    go_enter Try.func7, Try.ntmps7
    go_wp2_with fail
    go_ret
    exact ⟨rfl, G, H.out, fun _ h => .inl h, Mv.refl _ _⟩
  · have hbg : r.begin_ e v = (0, ⟨e, v, mnew v, false, []⟩) := by unfold Rf.begin_; rw [if_neg (by omega), if_neg (by omega), if_neg (by omega)]
    rw [hbg]
    clear hbg
    have hb1 := decide_eq_false h1
    have hb2 := decide_eq_false h2
    have hb3 : decide (e < r.epoch) = false := decide_eq_false (by omega)
    have hb4 : (e == r.epoch) = false := by simpa using (show e ≠ r.epoch by omega)
    clear h3
    go_enter Try.func7, Try.ntmps7
    go_wp2_with fail
    refine (mknew_any v hv w).mono ?_
    rintro o w1 ⟨k, Gk, rfl, hk, hb⟩
    obtain ⟨w2, hw2⟩ : ∃ W, W = ((((w1.setCell ⟨q, 0, none⟩ (.int .i64 e)).setCell ⟨q, 1, none⟩ (.int .i64 v)).setCell ⟨q, 2, none⟩ (.bool false)).setCell ⟨q, 3, none⟩ (.slice none 0 0)).setCell ⟨q, 4, none⟩ (.pointer (some ⟨k, 0, none⟩)) := ⟨_, rfl⟩
    have hW1 := HW.out.below hb HW.out.size
    have hm2 : Mv (fun i => i = q) w1 w2 := by rw [hw2]; exact (((((Mv.refl (fun i => i = q) w1).setCell (p := ⟨q, 0, none⟩) (fun _ => rfl) _).setCell (p := ⟨q, 1, none⟩) (fun _ => rfl) _).setCell (p := ⟨q, 2, none⟩) (fun _ => rfl) _).setCell (p := ⟨q, 3, none⟩) (fun _ => rfl) _).setCell (p := ⟨q, 4, none⟩) (fun _ => rfl) _
    have hW2 : Whole w2 q 38 [.int .i64 e, .int .i64 v, .bool false, .slice none 0 0, .pointer (some ⟨k, 0, none⟩)] := by rw [hw2]; exact ((((hW1.put 0 _).put 1 _).put 2 _).put 3 _).put 4 _
    have hkq : ¬ Gk q := fun hg => by have := (hk.low.2 q hg).1; omega
    have hk2 := hk.mv hm2 (fun i hi e => hkq (e ▸ hi))
    have hfin : RfAt w2 base q (fun i => G i ∨ Gk i) n ⟨e, v, mnew v, false, []⟩ :=
      ⟨⟨some k, .slice none 0 0, Gk, hW2, RdG.none_ _ _ _ _ _, (fun h => by cases h), fun k' hk' => (by injection hk' with hk'; subst hk'; exact ⟨by show e ≠ 0; omega, w.heap.size, 0, H.out.low.1, Nat.zero_le _, hk2⟩), fun i hi => .inr hi, hkq⟩, .inl H.out.me, ⟨Nat.le_trans H.out.low.1 (Nat.le_trans hb.size hm2.size), fun i hi => by
        have e1 := hm2.size
        have e2 := hb.size
        have e3 := H.out.low.1
        rcases hi with hi | hi
        · have := H.out.low.2 i hi; exact ⟨this.1, by omega⟩
        · have := hk.low.2 i hi; exact ⟨by omega, by omega⟩⟩, by simp⟩
    have HFIN := Lib.hid hfin
    have HN2 := Lib.hid (fun i (hi : G i ∨ Gk i) => hi.elim .inl (fun hi => .inr (hk.low.2 i hi).1) : ∀ i, (G i ∨ Gk i) → G i ∨ w.heap.size ≤ i)
    have HM2 := Lib.hid (((Mv.of_new hb G).trans hm2 (fun i _ hi => by rw [hi]; exact H.out.me)))
    have q0 := hW1.cell 0 _ rfl
    have q1 := hW1.cell 1 _ rfl
    have q2 := hW1.cell 2 _ rfl
    have q3 := hW1.cell 3 _ rfl
    have q4 := hW1.cell 4 _ rfl
    have f0 := hW1.frozen 0
    have f1 := hW1.frozen 1
    have f2 := hW1.frozen 2
    have f3 := hW1.frozen 3
    have f4 := hW1.frozen 4
    clear hk hb hW1 hm2 hW2 hkq hk2 hfin c0 HW
    go_wp2_with fail
    rw [← hw2]
    go_ret
    exact ⟨rfl, _, HFIN.out, HN2.out, HM2.out⟩

set_option maxHeartbeats 4000000 in
set_option maxRecDepth 100000 in
theorem rfends_any (base q n : Nat) (G : Nat → Prop) (r : Rf) (w : World) (h : RfAt w base q G n r) :
    Calls Try.prog 10 #[.pointer (some ⟨q, 0, none⟩)] w fun o w' => o = .returned (.tuple #[.int .i64 r.epoch, .int .i64 r.version]) ∧ Below w.heap.size w w' := by
  obtain ⟨mp, tv, Gm, hW, -⟩ := h.blk
  have HW := Lib.hid hW
  clear h hW
  go_enter Try.func10, Try.ntmps10
  go_wp2_with fail
  obtain ⟨w1, hw1⟩ : ∃ W, W = w.drew := ⟨_, rfl⟩
  have hb1 : Below w.heap.size w w1 := by rw [hw1]; exact (Below.refl _ _).drew
  refine wp_region_planB [(true, 0), (true, 1), (true, 2), (true, 3), (true, 4), (true, 5), (true, 6), (true, 7), (true, 8), (true, 9)] (by kernel_rfl) (by kernel_rfl) (fun _ _ d _ _ h => by cases d <;> exact h) ?_
  rw [← hw1]
  clear hw1
  have HQ := Lib.hid (fun W (hW : Below w1.heap.size w1 W) => HW.out.below (hb1.trans (hW.mono hb1.size)) HW.out.size)
  refine PlanB.take (v := ?_) rfl rfl ?_ ?_; rotate_left; (focus (intro W hW; have k0 := (HQ.out W hW).cell 0 _ rfl; have k1 := (HQ.out W hW).cell 1 _ rfl; go_simp; (try with_reducible rfl); done)); (try simp only [Act.put, List.setIfInBounds_toArray, List.set_cons_zero, List.set_cons_succ])
  refine PlanB.take (v := ?_) rfl rfl ?_ ?_; rotate_left; (focus (intro W hW; have k0 := (HQ.out W hW).cell 0 _ rfl; have k1 := (HQ.out W hW).cell 1 _ rfl; go_simp; (try with_reducible rfl); done)); (try simp only [Act.put, List.setIfInBounds_toArray, List.set_cons_zero, List.set_cons_succ])
  refine PlanB.take (v := ?_) rfl rfl ?_ ?_; rotate_left; (focus (intro W hW; have k0 := (HQ.out W hW).cell 0 _ rfl; have k1 := (HQ.out W hW).cell 1 _ rfl; go_simp; (try with_reducible rfl); done)); (try simp only [Act.put, List.setIfInBounds_toArray, List.set_cons_zero, List.set_cons_succ])
  refine PlanB.take (v := ?_) rfl rfl ?_ ?_; rotate_left; (focus (intro W hW; have k0 := (HQ.out W hW).cell 0 _ rfl; have k1 := (HQ.out W hW).cell 1 _ rfl; go_simp; (try with_reducible rfl); done)); (try simp only [Act.put, List.setIfInBounds_toArray, List.set_cons_zero, List.set_cons_succ])
  refine PlanB.take (v := ?_) rfl rfl ?_ ?_; rotate_left; (focus (intro W hW; have k0 := (HQ.out W hW).cell 0 _ rfl; have k1 := (HQ.out W hW).cell 1 _ rfl; go_simp; (try with_reducible rfl); done)); (try simp only [Act.put, List.setIfInBounds_toArray, List.set_cons_zero, List.set_cons_succ])
  refine PlanB.take (v := ?_) rfl rfl ?_ ?_; rotate_left; (focus (intro W hW; have k0 := (HQ.out W hW).cell 0 _ rfl; have k1 := (HQ.out W hW).cell 1 _ rfl; go_simp; (try with_reducible rfl); done)); (try simp only [Act.put, List.setIfInBounds_toArray, List.set_cons_zero, List.set_cons_succ])
  refine PlanB.take (v := ?_) rfl rfl ?_ ?_; rotate_left; (focus (intro W hW; have k0 := (HQ.out W hW).cell 0 _ rfl; have k1 := (HQ.out W hW).cell 1 _ rfl; go_simp; (try with_reducible rfl); done)); (try simp only [Act.put, List.setIfInBounds_toArray, List.set_cons_zero, List.set_cons_succ])
  refine PlanB.take (v := ?_) rfl rfl ?_ ?_; rotate_left; (focus (intro W hW; have k0 := (HQ.out W hW).cell 0 _ rfl; have k1 := (HQ.out W hW).cell 1 _ rfl; go_simp; (try with_reducible rfl); done)); (try simp only [Act.put, List.setIfInBounds_toArray, List.set_cons_zero, List.set_cons_succ])
  refine PlanB.take (v := ?_) rfl rfl ?_ ?_; rotate_left; (focus (intro W hW; have k0 := (HQ.out W hW).cell 0 _ rfl; have k1 := (HQ.out W hW).cell 1 _ rfl; go_simp; (try with_reducible rfl); done)); (try simp only [Act.put, List.setIfInBounds_toArray, List.set_cons_zero, List.set_cons_succ])
  refine PlanB.take (v := ?_) rfl rfl ?_ ?_; rotate_left; (focus (intro W hW; have k0 := (HQ.out W hW).cell 0 _ rfl; have k1 := (HQ.out W hW).cell 1 _ rfl; go_simp; (try with_reducible rfl); done)); (try simp only [Act.put, List.setIfInBounds_toArray, List.set_cons_zero, List.set_cons_succ])
  simp only [PlanB]
  clear HQ
  go_wp2_with fail
  go_ret2
  exact ⟨rfl, hb1⟩
theorem rfnone_begin (e v : Int) (w : World) : Calls Try.prog 7 #[.pointer none, .int .i64 e, .int .i64 v] w fun o w' => o = .returned (.int .i64 1) ∧ Below w.heap.size w w' := by
  go_enter Try.func7, Try.ntmps7
  go_wp2_with fail
  go_ret
  exact ⟨rfl, Below.refl _ _⟩
theorem rfnone_judge (e p v : Int) (vv : Value) (w : World) : Calls Try.prog 8 #[.pointer none, .int .i64 e, .int .i64 p, .int .i64 v, vv] w fun o w' => ∃ u, o = .returned (.tuple #[u, .int .i64 1]) ∧ Below w.heap.size w w' := by
  go_enter Try.func8, Try.ntmps8
  go_wp2_with fail
  go_ret2
  exact ⟨_, rfl, Below.refl _ _⟩
theorem rfnone_ends (w : World) : Calls Try.prog 10 #[.pointer none] w fun o w' => o = .returned (.tuple #[.int .i64 0, .int .i64 0]) ∧ Below w.heap.size w w' := by
  go_enter Try.func10, Try.ntmps10
  go_wp2_with fail
  go_ret2
  exact ⟨rfl, Below.refl _ _⟩
/-- what a judge leaves -/
def RfPost (w : World) (base q : Nat) (G : Nat → Prop) (n : Nat) (J : List Int × Int × Rf) (o : Ending) (w' : World) : Prop :=
  ∃ A cap, o = .returned (.tuple #[.slice A J.1.length cap, .int .i64 J.2.1]) ∧
    ∃ G', RfAt w' base q G' (n + 4) J.2.2 ∧ (∀ i, G' i → G i ∨ w.heap.size ≤ i) ∧ Mv G w w' ∧ RdG encI 1 w' w'.heap.size (fun i => G' i ∨ Else w G i) (.slice A J.1.length cap) J.1
theorem jnext_bad' {m : Mk} {v : Int} {ts : List Txn} (h : jerr m v ts ≠ 0) : jnext m v ts = m := by
  unfold jnext
  rw [if_neg h]
set_option maxHeartbeats 8000000 in
set_option maxRecDepth 100000 in
theorem rfjudge_post (base q n : Nat) (G : Nat → Prop) (r : Rf) (e p v : Int) (_he : I64 e) (_hp : I64 p) (hv : I64 v) (ts : List TxV) (vv : Value) (w : World) (h : RfAt w base q G n r) (hr : RdTx w w.heap.size G vv ts) (hf : ∀ x ∈ ts, fitT x.t) (hi : ∀ x ∈ ts, I64 x.t.read) (hn : n ≤ 60) :
    Calls Try.prog 8 #[.pointer (some ⟨q, 0, none⟩), .int .i64 e, .int .i64 p, .int .i64 v, vv] w (RfPost w base q G n (r.judge e p v (ts.map (·.t)))) := by
  obtain ⟨mp, tv, Gm, hW, hT, hn0, hm0, hsub, hmq⟩ := h.blk
  obtain ⟨TA, tc, htv, -, -⟩ := hT.atI
  subst htv
  obtain ⟨VA, vc, rfl, _, _⟩ := hr.at
  have c0 := hW.cell 0 _ rfl
  have c1 := hW.cell 1 _ rfl
  have c2 := hW.cell 2 _ rfl
  have c3 := hW.cell 3 _ rfl
  have c4 := hW.cell 4 _ rfl
  have HW := Lib.hid hW
  have H := Lib.hid h
  have HT := Lib.hid hT
  have HN0 := Lib.hid hn0
  have HM0 := Lib.hid hm0
  have HSUB := Lib.hid hsub
  have HMQ := Lib.hid hmq
  have HTX := Lib.hid hr
  have HF := Lib.hid hf
  have HI := Lib.hid hi
  have HV := Lib.hid hv
  have HN := Lib.hid hn
  have HSTAY := Lib.hid (fun (c : Int) => show RfPost w base q G n ([], c, r) (.returned (.tuple #[.slice none 0 0, .int .i64 c])) w from ⟨none, 0, rfl, G, h.wide (by omega), fun _ h => .inl h, Mv.refl _ _, RdG.none_ _ _ _ _ _⟩)
  obtain ⟨J, hJ⟩ : ∃ J, J = r.judge e p v (ts.map (·.t)) := ⟨_, rfl⟩
  rw [← hJ]
  have HJ := Lib.hid hJ
  clear h hr hf hi hv hn hW hT hn0 hm0 hsub hmq hJ
  go_enter Try.func8, Try.ntmps8
  by_cases he : e = r.epoch
  case neg =>
    have hne : (e == r.epoch) = false := by simpa using he
    have hJe := HJ.out.trans (Rf.judge_none he)
    subst hJe
    go_wp2_with fail
    go_ret2
    exact HSTAY.out 4
  case pos =>
  subst he
  by_cases hz : r.epoch = 0
  case pos =>
    have hzb : (r.epoch == 0) = true := by simpa using hz
    have HZ := Lib.hid hz
    clear hz
    have hJe := HJ.out.trans (Rf.judge_zero HZ.out)
    subst hJe
    go_wp2_with fail
    go_ret2
    exact HSTAY.out 4
  case neg =>
  have hzb : (r.epoch == 0) = false := by simpa using hz
  have HZ := Lib.hid hz
  clear hz
  by_cases hv1 : v = r.version
  case pos =>
    subst hv1
    cases hjd : r.judged
    case true =>
      rw [hjd] at c2
      have hJe := HJ.out.trans (Rf.judge_again rfl HZ.out rfl hjd)
      subst hJe
      have HC := Lib.hid (cloneI_any r.told _ w HT.out.rd (by have := H.out.short; omega))
      go_wp2_with fail
      refine HC.out.mono ?_
      rintro o w1 ⟨A1, cc1, rfl, ho1, hb1⟩
      have hfin : RfPost w base q G n (r.told, 0, r) (.returned (.tuple #[.slice A1 r.told.length cc1, .int .i64 0])) w1 := ⟨A1, cc1, rfl, G, (H.out.fresh hb1).wide (by omega), fun _ h => .inl h, Mv.of_new hb1 _, RdG.own encI_len ho1 (fun b hb _ _ hd => by
        rcases hd with hd | ⟨_, hd⟩
        · have := (H.out.low.2 b hd).2; omega
        · omega)⟩
      have HFIN := Lib.hid hfin
      clear hfin ho1 hb1
      go_wp2_with fail
      go_ret2
      exact HFIN.out
    case false =>
      rw [hjd] at c2
      have hltb : decide (r.version < r.version) = false := decide_eq_false (by omega)
      have hvv : (r.version == r.version) = true := by simp
      have hJe := HJ.out.trans (Rf.judge_stop rfl HZ.out hjd)
      subst hJe
      by_cases hp1 : p = r.version
      · subst hp1
        go_wp2_with fail
        go_ret2
        exact HSTAY.out 9
      · have hpb : (p == r.version) = false := by simpa using hp1
        go_wp2_with fail
        go_ret2
        exact HSTAY.out 9
  case neg =>
  have hvb : (v == r.version) = false := by simpa using hv1
  by_cases hlt : v < r.version
  case pos =>
    have hltb : decide (v < r.version) = true := decide_eq_true hlt
    have hJe := HJ.out.trans (Rf.judge_old rfl HZ.out hlt)
    subst hJe
    go_wp2_with fail
    go_ret2
    exact HSTAY.out 7
  case neg =>
  have hltb : decide (v < r.version) = false := decide_eq_false hlt
  have hgt : r.version < v := by omega
  by_cases hp1 : p = r.version
  case neg =>
    have hpb : (p == r.version) = false := by simpa using hp1
    have hJe := HJ.out.trans (Rf.judge_order rfl HZ.out hgt hp1)
    subst hJe
    go_wp2_with fail
    go_ret2
    exact HSTAY.out 9
  case pos =>
  subst hp1
  have HGT := Lib.hid hgt
  rcases mp with _ | k
  case none => exact absurd (HN0.out rfl) HZ.out
  obtain ⟨-, b0, n0, hb0, hn0, hk⟩ := HM0.out k rfl
  have HK := Lib.hid hk
  have HB0 := Lib.hid hb0
  have HN1 := Lib.hid hn0
  have c4' : w.cell? ⟨q, 4, none⟩ = some (.pointer (some ⟨k, 0, none⟩)) := c4
  clear c4
  have HC := Lib.hid (mkjudge_any b0 k n0 Gm r.mks v HV.out ts _ w hk (HTX.out.mono (Nat.le_refl _) (fun i _ hi => HSUB.out i hi)) HF.out HI.out (by have := HN.out; omega))
  obtain ⟨E, hE⟩ : ∃ E, E = jerr r.mks v (ts.map (·.t)) := ⟨_, rfl⟩
  obtain ⟨O, hO⟩ : ∃ O, O = jout r.mks v (ts.map (·.t)) := ⟨_, rfl⟩
  obtain ⟨N, hN⟩ : ∃ N, N = jnext r.mks v (ts.map (·.t)) := ⟨_, rfl⟩
  have hol := jout_len r.mks v (ts.map (·.t))
  rw [← hO] at hol
  rw [← hE, ← hO, ← hN] at HC
  have HEE := Lib.hid hE
  have HOO := Lib.hid hO
  have HNN := Lib.hid hN
  have HOL := Lib.hid hol
  clear hE hO hN hk hb0 hn0 hgt hol
  go_wp2_with fail
  refine HC.out.mono ?_
  rintro o w1 ⟨A1, cc1, rfl, G1, hk1, hG1, hm1, hr1⟩
  have hW1 := hm1.whole HW.out HMQ.out
  have HK1 := Lib.hid hk1
  have HG1 := Lib.hid hG1
  have HM1 := Lib.hid hm1
  have HR1 := Lib.hid hr1
  have HW1 := Lib.hid hW1
  have HG1Q := Lib.hid (show ¬ G1 q from fun hd => by
    rcases hG1 q hd with k1 | k1
    · exact HMQ.out k1
    · have := HW.out.size; omega)
  clear hk1 hG1 hm1 hr1 HC c0 c1 c2 c3 c4'
  by_cases hE0 : E = 0
  case neg =>
    have hEb : (E == 0) = false := by simpa using hE0
    have hJe := HJ.out.trans (Rf.judge_bad rfl HZ.out HGT.out rfl (by rw [← HEE.out]; exact hE0))
    have hNm : N = r.mks := by rw [HNN.out]; exact jnext_bad' (by rw [← HEE.out]; exact hE0)
    rw [← HEE.out] at hJe
    subst hJe
    subst hNm
    have hfin : RfPost w base q G n ([], E, r) (.returned (.tuple #[.slice none 0 0, .int .i64 E])) w1 := ⟨none, 0, rfl, fun i => G i ∨ G1 i, ⟨⟨some k, _, G1, HW1.out, (HT.out.mv HM1.out (Nat.le_refl _) (fun b _ hd => .inr (.inl hd))).mono HM1.out.size (fun b hb hd => by
        rcases hd with hd | hd | hd
        · exact .inl hd
        · rcases HG1.out b hd with k1 | k1
          · exact .inr (.inl k1)
          · omega
        · exact .inr (.inr fun hg => hd (.inl hg))), (fun h => by cases h), fun k' hk' => (by injection hk' with hk'; subst hk'; exact ⟨HZ.out, b0, n0 + 4, HB0.out, by have := HN1.out; omega, HK1.out⟩), fun i hi => .inr hi, HG1Q.out⟩, .inl H.out.me, ⟨Nat.le_trans H.out.low.1 HM1.out.size, fun i hi => by
          have e1 := HM1.out.size
          rcases hi with hi | hi
          · have := H.out.low.2 i hi; exact ⟨this.1, by omega⟩
          · have := HK1.out.low.2 i hi; have e2 := HB0.out; exact ⟨by omega, this.2⟩⟩, H.out.short⟩, fun i hi => hi.elim .inl (fun hi => (HG1.out i hi).elim (fun h => .inl (HSUB.out i h)) .inr), HM1.out.mono (fun i _ hi => HSUB.out i hi), RdG.none_ _ _ _ _ _⟩
    have HFIN := Lib.hid hfin
    clear hfin
    go_wp2_with fail
    go_ret2
    exact HFIN.out
  case pos =>
    have HE := Lib.hid (HEE.out.symm.trans hE0)
    subst hE0
    obtain ⟨w2, hw2⟩ : ∃ W, W = ((w1.setCell ⟨q, 1, none⟩ (.int .i64 v)).setCell ⟨q, 2, none⟩ (.bool true)).setCell ⟨q, 3, none⟩ (.slice A1 O.length cc1) := ⟨_, rfl⟩
    have hm2 : Mv (fun i => i = q) w1 w2 := by rw [hw2]; exact (((Mv.refl (fun i => i = q) w1).setCell (p := ⟨q, 1, none⟩) (fun _ => rfl) _).setCell (p := ⟨q, 2, none⟩) (fun _ => rfl) _).setCell (p := ⟨q, 3, none⟩) (fun _ => rfl) _
    have hW2 : Whole w2 q 38 [.int .i64 r.epoch, .int .i64 v, .bool true, .slice A1 O.length cc1, .pointer (some ⟨k, 0, none⟩)] := by rw [hw2]; exact ((HW1.out.put 1 _).put 2 _).put 3 _
    have hk2 := HK1.out.mv hm2 (fun i hi e => HG1Q.out (e ▸ hi))
    have hwrap : IntKind.i64.wrap (v - 100) = v - 100 := by
      have e1 := HK.out.ok.low
      have e2 := HE.out
      have e3 := HV.out.2
      unfold jerr at e2
      rw [IntKind.wrap_i64]
      split at e2
      · omega
      · omega
    have hv100 : I64 (v - 100) := by
      have e1 := HK.out.ok.low
      have e2 := HE.out
      have e3 := HV.out.2
      unfold jerr at e2
      unfold I64
      split at e2
      · omega
      · omega
    have HC2 := Lib.hid (mkforget_any b0 k (n0 + 4) G1 N (v - 100) hv100 w2 hk2)
    have HW2 := Lib.hid hW2
    have HM2 := Lib.hid hm2
    have b0c := HW1.out.cell 0 _ rfl
    have b1c := HW1.out.cell 1 _ rfl
    have b2c := HW1.out.cell 2 _ rfl
    have b3c := HW1.out.cell 3 _ rfl
    have b4c : w1.cell? ⟨q, 4, none⟩ = some (.pointer (some ⟨k, 0, none⟩)) := HW1.out.cell 4 _ rfl
    have f1 := HW1.out.frozen 1
    have f2 := HW1.out.frozen 2
    have f3 := HW1.out.frozen 3
    clear hm2 hW2 hk2 hv100 hW1
    go_wp2_with fail
    rw [← hw2]
    refine HC2.out.mono ?_
    rintro o w3 ⟨rfl, G3, hk3, hG3, hm3⟩
    clear hw2 b0c b1c b2c b3c b4c f1 f2 f3 HC2
    have hs1 := HM1.out.size
    have hs2 := HM2.out.size
    have hs3 := hm3.size
    have hG3' : ∀ i, G3 i → G i ∨ (w.heap.size ≤ i ∧ i < w3.heap.size) := fun i hi => by
      have e1 := (hk3.low.2 i hi).2
      rcases hG3 i hi with k1 | k1
      · rcases HG1.out i k1 with k2 | k2
        · exact .inl (HSUB.out i k2)
        · exact .inr ⟨k2, e1⟩
      · exact .inr ⟨by omega, e1⟩
    have hq3 : ¬ G3 q := fun hd => by
      have e1 := HW.out.size
      rcases hG3 q hd with k1 | k1
      · exact HG1Q.out k1
      · omega
    have hW3 := hm3.whole HW2.out HG1Q.out
    have hr1' : RdG encI 1 w1 w1.heap.size (fun i => i = q ∨ G1 i ∨ ¬ (G i ∨ (w.heap.size ≤ i ∧ i < w3.heap.size))) (.slice A1 O.length cc1) O := HR1.out.mono (Nat.le_refl _) (fun b hb hd => by
      rcases hd with hd | hd | hd
      · exact .inr ⟨by rw [hd]; exact HMQ.out, by rw [hd]; exact HW.out.size⟩
      · exact .inl hd
      · refine .inr ⟨fun hg => hd (.inl (HSUB.out b hg)), ?_⟩
        by_cases hb2 : b < w.heap.size
        · exact hb2
        · exact absurd (.inr ⟨by omega, by omega⟩) hd)
    have hT3 : RdG encI 1 w3 w3.heap.size (fun i => i = q ∨ G3 i ∨ ¬ (G i ∨ (w.heap.size ≤ i ∧ i < w3.heap.size))) (.slice A1 O.length cc1) O :=
      (((hr1'.mv HM2.out (Nat.le_refl _) (fun b _ hd => .inl hd)).mv hm3 hs2 (fun b _ hd => .inr (.inl hd))).mono (by omega) (fun b hb hd => by
        rcases hd with hd | hd | hd
        · exact .inl hd
        · rcases hG3 b hd with k1 | k1
          · exact .inr (.inl k1)
          · omega
        · exact .inr (.inr hd)))
    have hfin3 : RfAt w3 base q (fun i => G i ∨ (w.heap.size ≤ i ∧ i < w3.heap.size)) (n + 4) ⟨r.epoch, v, fnext N (v - 100), true, O⟩ :=
      ⟨⟨some k, _, G3, hW3, hT3, (fun h => by cases h), fun k' hk' => (by injection hk' with hk'; subst hk'; exact ⟨HZ.out, b0, n0 + 4, HB0.out, by have := HN1.out; omega, hk3⟩), hG3', hq3⟩, .inl H.out.me, ⟨by have := H.out.low.1; omega, fun i hi => by
        rcases hi with hi | hi
        · have := H.out.low.2 i hi; exact ⟨this.1, by omega⟩
        · have := H.out.low.1; exact ⟨by omega, hi.2⟩⟩, HOL.out⟩
    have hM3 : Mv G w w3 := ((HM1.out.mono (fun i _ hi => HSUB.out i hi)).trans HM2.out (fun i _ hi => by rw [hi]; exact H.out.me)).trans hm3 (fun i hi hd => by
      rcases HG1.out i hd with k1 | k1
      · exact HSUB.out i k1
      · omega)
    have HR3 := Lib.hid hfin3
    have HM3 := Lib.hid hM3
    have HS3 := Lib.hid (show w.heap.size ≤ w3.heap.size by omega)
    have HC4 := Lib.hid (cloneI_any O (.slice A1 O.length cc1) w3 hT3.rd (by have := HOL.out; omega))
    clear hk3 hG3 hm3 hs1 hs2 hs3 hG3' hq3 hW3 hr1' hT3 hfin3 hM3
    go_wp2_with fail
    refine HC4.out.mono ?_
    rintro o w4 ⟨A4, c4, rfl, ho4, hb4⟩
    have hJe := HJ.out.trans (Rf.judge_new rfl HZ.out HGT.out rfl HE.out)
    rw [← HOO.out, ← HNN.out] at hJe
    subst hJe
    have hfin : RfPost w base q G n (O, 0, ⟨r.epoch, v, fnext N (v - 100), true, O⟩) (.returned (.tuple #[.slice A4 O.length c4, .int .i64 0])) w4 := ⟨A4, c4, rfl, _, HR3.out.fresh hb4, fun i hi => hi.elim .inl (fun hi => .inr hi.1), HM3.out.trans (Mv.of_new hb4 _) (fun _ _ h => h), RdG.own encI_len ho4 (fun b hb _ _ hd => by
      have e1 := HS3.out
      have e2 := H.out.low
      rcases hd with (hd | hd) | ⟨_, hd⟩
      · have := (e2.2 b hd).2; omega
      · omega
      · omega)⟩
    have HFIN := Lib.hid hfin
    clear hfin ho4 hb4
    go_wp2_with fail
    go_ret2
    exact HFIN.out
theorem rfjudge_any (base q n : Nat) (G : Nat → Prop) (r : Rf) (e p v : Int) (he : I64 e) (hp : I64 p) (hv : I64 v) (ts : List TxV) (vv : Value) (w : World) (h : RfAt w base q G n r) (hr : RdTx w w.heap.size G vv ts) (hf : ∀ x ∈ ts, fitT x.t) (hi : ∀ x ∈ ts, I64 x.t.read) (hn : n ≤ 60) :
    Calls Try.prog 8 #[.pointer (some ⟨q, 0, none⟩), .int .i64 e, .int .i64 p, .int .i64 v, vv] w fun o w' => ∃ A cap, o = .returned (.tuple #[.slice A (r.judge e p v (ts.map (·.t))).1.length cap, .int .i64 (r.judge e p v (ts.map (·.t))).2.1]) ∧
      ∃ G', RfAt w' base q G' (n + 4) (r.judge e p v (ts.map (·.t))).2.2 ∧ (∀ i, G' i → G i ∨ w.heap.size ≤ i) ∧ Mv G w w' ∧ RdG encI 1 w' w'.heap.size (fun i => G' i ∨ Else w G i) (.slice A (r.judge e p v (ts.map (·.t))).1.length cap) (r.judge e p v (ts.map (·.t))).1 :=
  (rfjudge_post base q n G r e p v he hp hv ts vv w h hr hf hi hn).mono (fun _ _ h => h)
end Go.Proofs.Ytgppgecglkellaa
namespace Go.Proofs.Ytgppgecglkellaa
open Go.RowKit
attribute [local go_sem] less_eq same_eq le_eq ge_eq gt_eq

theorem RfAt.new {w w' : World} {base q n : Nat} {G : Nat → Prop} {r : Rf} (h : RfAt w base q G n r) (hb : Below w.heap.size w w') : RfAt w' base q G n r := h.mv (Mv.of_new hb (fun _ => False)) (fun _ _ h => h)
theorem RfAt.below {w w' : World} {base q n : Nat} {G : Nat → Prop} {r : Rf} (h : RfAt w base q G n r) (hm : Mv G w w') : Below base w w' := hm.below h.low.1 (fun i hi => (h.low.2 i hi).1)
/-- what a call answered is there behind a later call -/
theorem RdG.later {α : Type} {enc : α → List Value} {k : Nat} {w w' : World} {G G' E : Nat → Prop} {v : Value} {l : List α} (h : RdG enc k w w.heap.size (fun i => G i ∨ E i) v l) (hm : Mv G w w') (hG : ∀ i, G' i → G i ∨ w.heap.size ≤ i) : RdG enc k w' w'.heap.size G' v l :=
  (h.mv hm (Nat.le_refl _) (fun _ _ h => .inl h)).mono hm.size (fun b hb hg => by rcases hG b hg with h1 | h1; exact .inl h1; omega)
theorem RdI.one_at {w : World} {A : Option Addr} {c : Nat} {x : Int} (h : RdI w w.heap.size (.slice A 1 c) [x]) : ∃ b o, A = some ⟨b, o, none⟩ ∧ b < w.heap.size ∧ 1 ≤ c ∧ w.cell? ⟨b, o, none⟩ = some (.int .i64 x) := by
  obtain ⟨A', c', e, hc, hi⟩ := h.at
  injection e with e1 _ e3
  subst e1 e3
  obtain ⟨b, o, hA, hb, k⟩ := hi 0 (by simp)
  exact ⟨b, o, hA, hb, hc, by simpa using k⟩
def awT : Txn := ⟨0, [], [⟨1, ⟨#[97]⟩, ⟨#[]⟩⟩]⟩
theorem awT_sound : soundT awT := by decide
theorem aw1 : Rf.new.begin_ 3 5 = (0, ⟨3, 5, mnew 5, false, []⟩) := by rfl
theorem aw2 : ∃ m, (⟨3, 5, mnew 5, false, []⟩ : Rf).judge 3 5 9 [awT] = ([1], 0, ⟨3, 9, m, true, [1]⟩) := by
  have he : jerr (mnew 5) 9 [awT] = 0 := jerr_one (by decide) (by decide) awT_sound
  obtain ⟨h1, _⟩ := jone he
  rw [verd_blind (t := awT) rfl] at h1
  refine ⟨fnext (jnext (mnew 5) 9 [awT]) (9 - 100), ?_⟩
  rw [Rf.judge_new (r := ⟨3, 5, mnew 5, false, []⟩) rfl (by decide) (by decide) rfl he, h1]

set_option maxHeartbeats 8000000 in
set_option maxRecDepth 100000 in
theorem rfawake_any (w : World) : Calls Try.prog 6 #[] w fun e w' => e = .returned (.bool true) ∧ Below w.heap.size w w' := by
  have HN := Lib.hid (rfnew_any w)
  go_enter Try.func6, Try.ntmps6
  go_wp2_with fail
  refine HN.out.mono ?_
  rintro e w1 ⟨q, G, rfl, hr1, hb1⟩
  have hbg := rfbegin_any w.heap.size q 0 G Rf.new 3 5 (by unfold I64; omega) (by unfold I64; omega) w1 hr1
  rw [aw1] at hbg
  simp only at hbg
  have HBG := Lib.hid hbg
  have HR1 := Lib.hid hr1
  have HB1 := Lib.hid hb1
  clear hbg hr1 hb1 HN
  go_wp2_with fail
  refine HBG.out.mono ?_
  rintro e w2 ⟨rfl, G2, hr2, hG2, hm2⟩
  have hb2 := HB1.out.trans (HR1.out.below hm2)
  obtain ⟨wx, hwx⟩ : ∃ wx, wx = (w2.alloc (.cells #[.int .i64 1, .string ⟨#[97]⟩, .string ⟨#[]⟩] 40)).alloc (.cells #[.int .i64 0, .slice none 0 0, .slice (some ⟨w2.heap.size, 0, none⟩) 1 1] 44) := ⟨_, rfl⟩
  have hbx : Below w2.heap.size w2 wx := by rw [hwx]; exact ((Below.refl _ w2).alloc (Nat.le_refl _) _).alloc (by simp) _
  have hzx : wx.heap.size = w2.heap.size + 1 + 1 := by rw [hwx]; simp
  have hG : ∀ i, w2.heap.size ≤ i → ¬ G2 i := fun i hi hg => by have := (hr2.low.2 i hg).2; omega
  have hB1 : Whole wx w2.heap.size 40 (flatG encC awT.chgs) := by rw [hwx]; exact (Whole.fresh w2 _ [_, _, _]).alloc _
  have hB2 : Whole wx (w2.heap.size + 1) 44 [.int .i64 0, .slice none 0 0, .slice (some ⟨w2.heap.size, 0, none⟩) 1 1] := by
    rw [hwx]
    have := Whole.fresh (w2.alloc (.cells #[.int .i64 1, .string ⟨#[97]⟩, .string ⟨#[]⟩] 40)) 44 [.int .i64 0, .slice none 0 0, .slice (some ⟨w2.heap.size, 0, none⟩) 1 1]
    rw [World.size_alloc] at this
    exact this
  have hT : RdTx wx wx.heap.size G2 (.slice (some ⟨w2.heap.size + 1, 0, none⟩) 1 1) [⟨awT, .slice none 0 0, .slice (some ⟨w2.heap.size, 0, none⟩) 1 1⟩] :=
    RdTx.one hB2 ⟨RdG.none_ _ _ _ _ _, Whole.rdg encC_len hB1 (by decide) (by omega) (hG _ (by omega))⟩ (hG _ (by omega))
  obtain ⟨m, hm⟩ := aw2
  have hrx := hr2.new hbx
  have hj := rfjudge_any w.heap.size q 0 G2 _ 3 5 9 (by unfold I64; omega) (by unfold I64; omega) (by unfold I64; omega) _ _ wx hrx hT (fun x hx => by
    rw [List.mem_singleton.1 hx]
    refine ⟨by simp [awT], fun s hs => by simp [awT] at hs, by simp [awT], fun c hc => ?_⟩
    simp only [awT, List.mem_cons, List.not_mem_nil, or_false] at hc
    rw [hc]
    exact ⟨by decide, by decide⟩) (fun x hx => by rw [List.mem_singleton.1 hx]; unfold I64; simp [awT]) (by omega)
  rw [show ([⟨awT, .slice none 0 0, .slice (some ⟨w2.heap.size, 0, none⟩) 1 1⟩] : List TxV).map (·.t) = [awT] from rfl, hm] at hj
  simp only [List.length_cons, List.length_nil, Nat.zero_add] at hj
  have HJ := Lib.hid hj
  have HRX := Lib.hid hrx
  have HBX := Lib.hid (hb2.trans (hbx.mono hb2.size))
  clear hj hrx hT hB1 hB2 hbx hzx hG hr2 hG2 hm2 hb2 hm HBG HR1 HB1
  go_wp2_with fail
  rw [← hwx]
  clear hwx
  refine HJ.out.mono ?_
  rintro e w3 ⟨A, cap, rfl, G3, hr3, hG3, hm3, hl3⟩
  have hb3 := HBX.out.trans (HRX.out.below hm3)
  have hj := rfjudge_any w.heap.size q _ G3 _ 3 5 9 (by unfold I64; omega) (by unfold I64; omega) (by unfold I64; omega) [] (.slice none 0 0) w3 hr3 ⟨RdG.none_ _ _ _ _ _, by simp⟩ (by simp) (by simp) (by omega)
  rw [List.map_nil, Rf.judge_again (r := ⟨3, 9, m, true, [1]⟩) rfl (by simp) rfl rfl] at hj
  simp only [List.length_cons, List.length_nil, Nat.zero_add] at hj
  have HJ := Lib.hid hj
  have HR3 := Lib.hid hr3
  have HB3 := Lib.hid hb3
  have HL3 := Lib.hid hl3
  clear hj hr3 hG3 hm3 hb3 hl3 HRX HBX
  go_wp2_with fail
  refine HJ.out.mono ?_
  rintro e w4 ⟨A4, cap4, rfl, G4, hr4, hG4, hm4, hl4⟩
  have HB4 := Lib.hid (HB3.out.trans (HR3.out.below hm4))
  have HL4 := Lib.hid (HL3.out.later hm4 hG4)
  have HE := Lib.hid (rfends_any w.heap.size q _ G4 _ w4 hr4)
  clear hr4 hG4 hm4 hl4 HR3 HB3 HL3
  go_wp2_with fail
  refine HE.out.mono ?_
  rintro e w5 ⟨rfl, hb5⟩
  have hl5 := (HL4.out.mv (Mv.of_new hb5 (fun _ => False)) (Nat.le_refl _) (fun _ _ h => h.elim)).mono (G' := fun _ => False) hb5.size (fun _ _ h => h.elim)
  obtain ⟨b, o, rfl, hbb, hcap, k0⟩ := RdI.one_at hl5.rd
  have HB5 := Lib.hid (HB4.out.trans (hb5.mono HB4.out.size))
  clear hb5 hl5 hbb HE HL4
  go_wp2_with fail
  go_ret
  exact ⟨rfl, HB5.out⟩
end Go.Proofs.Ytgppgecglkellaa
namespace Go.Proofs.Ytgppgecglkellaa
open Go.RowKit


set_option maxHeartbeats 1000000 in
set_option maxRecDepth 100000 in
theorem ints_any (a b : List Int) (va vb : Value) (w : World) (hva : RdI w w.heap.size va a) (hvb : RdI w w.heap.size vb b) (hla : a.length < 4611686018427387904) (_hlb : b.length < 4611686018427387904) :
    Calls Try.prog 9 #[va, vb] w fun e w' => e = .returned (.bool (decide (a = b))) ∧ Below w.heap.size w w' := by
  obtain ⟨A1, c1, rfl, hc1, hia⟩ := hva.at
  obtain ⟨A2, c2, rfl, hc2, hib⟩ := hvb.at
  obtain ⟨D, hD⟩ : ∃ D, D = decide (a = b) := ⟨_, rfl⟩
  rw [← hD]
  have HD := Lib.hid hD; clear hD
  clear hva hvb
  by_cases hlen : a.length = b.length
  · have HA := Lib.hid hia; clear hia
    have HB := Lib.hid hib; clear hib
    have HL := Lib.hid hlen
    rw [← hlen]
    rw [← hlen] at hc2
    clear hlen
    obtain ⟨g, hg⟩ : ∃ g, g = w.heap.size := ⟨_, rfl⟩
    have HG := Lib.hid hg; clear hg
    go_enter Try.func9, Try.ntmps9
    go_wp2_with fail
    go_loopw [5] (fun iv wr => ∃ j : Nat, j ≤ a.length ∧ iv = .int .i64 j ∧ Below g w wr ∧ ∀ k (h1 : k < a.length) (h2 : k < b.length), k < j → a[k] = b[k]) (fun iv _ => a.length - (intOf iv).toNat)
    case atStart => exact ⟨0, Nat.zero_le _, rfl, Below.refl _ _, fun k _ _ h => by omega⟩
    case round =>
      obtain ⟨j, hj, rfl, hbw, hall⟩ := hrel
      have HBW := Lib.hid hbw; clear hbw
      have HALL := Lib.hid hall; clear hall
      by_cases hlt : j < a.length
      · have hlt2 : j < b.length := by rw [← HL.out]; exact hlt
        obtain ⟨b1, o1, rfl, hb1, hx⟩ := HA.out j hlt
        obtain ⟨b2, o2, rfl, hb2, hy⟩ := HB.out j hlt2
        have hbd : Below w.heap.size w wr.drew := by have h := HBW.out.drew; rwa [HG.out] at h
        have hx2 : ∀ W, Below wr.drew.heap.size wr.drew W → W.cell? ⟨b1, o1 + j, none⟩ = some (.int .i64 a[j]) := fun W hW => ((hbd.trans (hW.mono hbd.size)).cell (p := ⟨b1, _, none⟩) hb1).trans hx
        have hy2 : ∀ W, Below wr.drew.heap.size wr.drew W → W.cell? ⟨b2, o2 + j, none⟩ = some (.int .i64 b[j]) := fun W hW => ((hbd.trans (hW.mono hbd.size)).cell (p := ⟨b2, _, none⟩) hb2).trans hy
        have hne : a[j] ≠ b[j] → D = false := fun h => by rw [HD.out]; exact decide_eq_false fun e => h (by subst e; rfl)
        have heq : a[j] = b[j] → ∀ k (h1 : k < a.length) (h2 : k < b.length), k < j + 1 → a[k] = b[k] := fun h k h1 h2 hk => by
          rcases Nat.lt_or_ge k j with h' | h'
          · exact HALL.out k h1 h2 h'
          · obtain rfl : k = j := by omega
            exact h
        generalize a[j] = x at hx2 hx hne heq
        generalize b[j] = y at hy2 hy hne heq
        have HX := Lib.hid hx2
        have HY := Lib.hid hy2
        have HNE := Lib.hid hne
        have HEQ := Lib.hid heq
        have hj0 : (0 : Int) ≤ (j : Int) := by omega
        have hj1 : (j : Int) < (a.length : Int) := by omega
        have HBD := Lib.hid hbd
        clear hx hy hx2 hy2 hne heq hbd hlt2
        by_cases hxy : x = y
        all_goals
          go_wp2_with fail
          refine wp_region_planB [(true, 0), (true, 1), (true, 2), (true, 3), (true, 4), (true, 5), (true, 6), (true, 7), (true, 8)] (by kernel_rfl) (by kernel_rfl) (fun _ _ d _ _ h => by cases d <;> exact h) ?_
          repeat (refine PlanB.take (v := ?_) rfl rfl ?_ ?_; rotate_left; (focus (intro W hW; have k1 := HX.out W hW; have k2 := HY.out W hW; go_simp; (try with_reducible rfl); done)); (try simp only [Act.put, List.setIfInBounds_toArray, List.set_cons_zero, List.set_cons_succ]))
          simp only [PlanB]
          go_wp2_with fail
        · go_roundw
          case rel => exact ⟨j + 1, by omega, by go_num, HBW.out.drew, HEQ.out hxy⟩
          case measure => simp [intOf]; omega
        · go_ret
          exact ⟨by rw [HNE.out hxy]; rfl, HBD.out⟩
      · go_wp2_with fail
        go_ret
        refine ⟨?_, by have h := HBW.out; rwa [HG.out] at h⟩
        have : D = true := by
          rw [HD.out]
          refine decide_eq_true (List.ext_getElem HL.out fun k h1 h2 => HALL.out k h1 h2 (by omega))
        rw [this]; rfl
  · have hd : D = false := by rw [HD.out]; exact decide_eq_false fun e => hlen (by rw [e])
    have HD2 := Lib.hid hd
    have hli : ¬ ((a.length : Int) = (b.length : Int)) := by omega
    clear hd hia hib
    go_enter Try.func9, Try.ntmps9
    go_wp2_with fail
    go_ret
    exact ⟨by rw [HD2.out]; rfl, Below.refl _ _⟩
end Go.Proofs.Ytgppgecglkellaa

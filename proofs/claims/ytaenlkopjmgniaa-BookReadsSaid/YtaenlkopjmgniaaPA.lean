/- What the program's Add and Reset leave. -/
import Derived.Test.YtaenlkopjmgniaaPLay
import Derived.Test.YtaenlkopjmgniaaGenN
import Derived.Test.YtaenlkopjmgniaaPlanT
namespace Go.Proofs.Ytaenlkopjmgniaa
open Go.RowKit

theorem Bks.add_put (b : Bks) (list : List (List UInt8)) : b.add list = if (b.put Tp.addS list).1 = 0 then (0, { (b.put Tp.addS list).2 with l := b.l ++ list }) else b.put Tp.addS list := by
  unfold Bks.add Bks.put Tp.addS
  by_cases h1 : b.dead = true
  · rw [if_pos h1, if_pos h1]; simp
  · rw [if_neg h1, if_neg h1]
    by_cases h2 : fits list
    · simp only [h2, not_true, if_false]
      by_cases h3 : (b.t.add (lay list)).1 = 0
      · simp only [h3, ne_eq, not_true, if_false]
        by_cases h4 : (b.t.add (lay list)).2.sync.1 = 0
        · simp [h4]
        · simp only [h4, not_false_eq_true, if_true, if_false]
      · simp only [h3, ne_eq, not_false_eq_true, if_true, if_false]
    · simp [h2]
theorem Bks.reset_put (b : Bks) (list : List (List UInt8)) : b.reset list = if (b.put Tp.repl list).1 = 0 then (0, { (b.put Tp.repl list).2 with l := list }) else b.put Tp.repl list := by
  unfold Bks.reset Bks.put
  by_cases h1 : b.dead = true
  · rw [if_pos h1, if_pos h1]; simp
  · rw [if_neg h1, if_neg h1]
    by_cases h2 : fits list
    · simp only [h2, not_true, if_false]
      by_cases h3 : (b.t.repl (lay list)).1 = 0
      · simp [h3]
      · simp only [h3, ne_eq, not_false_eq_true, if_true, if_false]
    · simp [h2]

section
variable {ops : Array Oper} {rest : List Oper} {o : Oper} {a : Act} {Q : Exit → Act → World → Prop} {w : World}
set_option maxRecDepth 100000 in
/-- rows appended in a region that draws; their block is the old one or a new one -/
theorem wp_addRN {K : Act → World → Prop} (s x : Operand)
    (ho : o.op = .call { callee := .builtin .append, args := #[s, x], argTypes := #[31, 31] })
    (base : Nat) (v : Value) (l : List Row) (hs : a.eval s = v) (hown : OwnR w base v l) (B : Nat) (v2 : Value) (p : List Row) (hx : a.eval x = v2) (hp : Rd encR 1 w B v2 p)
    (hlen : l.length + p.length ≤ 9000000000000) (hbase : base ≤ w.heap.size)
    (h : ∀ A' c' w', OwnR w' base (.slice A' (l ++ p).length c') (l ++ p) → w.grownBy w' v.ownBlock → NewRow w v.ownBlock (Value.ownBlock (.slice A' (l ++ p).length c')) → K (a.put o.dst (.slice A' (l ++ p).length c')) w') : o.wp Try.prog a w K Q := by
  obtain ⟨i0, hi, hz0, hz1, hz2⟩ := info_parts info_row
  exact wp_addAnyN (enc := encR) (k := 1) 31 36 24 i0 _ Try.underlying31 hi hz0 hz1 hz2 rfl (by decide) encR_len encR_one s x ho base v l hs hown B v2 p hx hp (by unfold maxLen; omega) (by omega) hbase fun A' c' w' h1 h2 h3 => h A' c' w' h1 h2 h3
end

set_option maxRecDepth 100000 in
/-- the book behind a new list of records -/
theorem BkAt.relist {w w3 w4 : World} {base q p : Nat} {G : Nat → Prop} {b : Bks} (hk : BkAt w base q p G b) (h3 : Below w.heap.size w w3) {A A4 : Option Addr} {c n c4 n4 : Nat} {rows0 rows4 : List Row} {vp : Value}
    (hq : Whole w q 53 [vp, .slice A n c, .bool b.dead]) (ho : OwnR w3 base (.slice A n c) rows0) (hm : Mv (fun i => some i = Value.ownBlock (.slice A n c)) w3 w4) (hn : n4 = rows4.length) (ho4 : OwnR w4 base (.slice A4 n4 c4) rows4)
    (hnew : ∀ g, Value.ownBlock (.slice A4 n4 c4) = some g → Value.ownBlock (.slice A n c) = some g ∨ w.heap.size ≤ g) (hh : HoldRs w4 base rows4) (hlen : ∀ r ∈ rows4, r.l.length ≤ 140737488351232)
    (hc : ∀ r ∈ rows4, ∀ g, r.v.ownBlock = some g → (w.heap.size ≤ g ∨ (G g ∧ ∀ ov, TapeAt w base p ov b.t → ov ≠ some g))) :
    ∃ G', BkAt (w4.setCell ⟨q, 1, none⟩ (.slice A4 n4 c4)) base q p G' { b with l := texts rows4 } ∧ (∀ i, G' i → G i ∨ w.heap.size ≤ i) ∧ Mv G w (w4.setCell ⟨q, 1, none⟩ (.slice A4 n4 c4)) := by
  obtain ⟨ov, A', c', n', rows, h1, h2, h3', h4, h5, h6, h7, h8, h9, h10, h11, h12, h13, h14, h15⟩ := hk
  have he : (Value.slice A' n' c') = .slice A n c ∧ vp = .pointer (some ⟨p, 0, none⟩) := by
    have e1 := h1.cell 1 _ rfl
    have e0 := h1.cell 0 _ rfl
    rw [hq.cell 1 _ rfl] at e1
    rw [hq.cell 0 _ rfl] at e0
    injection e1 with e1
    injection e0 with e0
    exact ⟨e1.symm, e0⟩
  obtain ⟨he1, rfl⟩ := he
  injection he1 with g1 g2 g3
  subst g1 g2 g3
  clear h3' h4 h5 h6 h8 h2 h13
  obtain ⟨k1, k2⟩ := h7.apart h1 (by decide) (by decide)
  have hz3 := h3.size
  have hz4 := hm.size
  have hw3 := Mv.of_new h3 (fun _ => False)
  have hq3 : Whole w3 q 53 _ := hw3.whole h1 (fun h => h)
  have hq4 : Whole w4 q 53 _ := hm.whole hq3 (fun h => OwnR.off ho hq3 (by decide) h.symm)
  have ht3 : TapeAt w3 base p ov b.t := h7.mv hw3 (fun h => h) (fun _ _ h => h)
  have ht4 : TapeAt w4 base p ov b.t := by
    refine ht3.mv hm ?_ ?_
    · obtain ⟨A2, c2, hb2, ho2, hv2, _⟩ := ht3
      exact fun h => OwnR.off ho hb2 (by decide) h.symm
    · intro g hg hd
      obtain ⟨A2, c2, hb2, ho2, hv2, _⟩ := ht3
      exact ho2.ne_rows ho g (hv2.trans hg) hd.symm
  obtain ⟨w5, hw5⟩ : ∃ w5, w5 = w4.setCell ⟨q, 1, none⟩ (.slice A4 n4 c4) := ⟨_, rfl⟩
  rw [← hw5]
  have hm5 : Mv (fun i => i = q) w4 w5 := by rw [hw5]; exact (Mv.refl (fun i => i = q) w4).setCell (p := ⟨q, 1, none⟩) (fun _ => rfl) _
  have hz5 : w5.heap.size = w4.heap.size := by rw [hw5]; simp
  refine ⟨fun i => G i ∨ (w.heap.size ≤ i ∧ i < w5.heap.size), ⟨ov, A4, c4, n4, rows4, by rw [hw5]; exact hq4.put 1 _, hn, OwnR.mv ho4 hm5 (fun g hg e => OwnR.off ho4 hq4 (by decide) (e ▸ hg)), hh.mv hm5 (fun r hr g hg e => (hh r hr).apart hq4 (by decide) (e ▸ hg)), rfl, hlen, ht4.mv hm5 (fun e => k1 e.symm) (fun g hg e => k2 (e ▸ hg)), ?_, .inl h9, .inl h10, fun g hg => .inl (h11 g hg), ?_, ?_, by omega, ?_⟩, ?_, ?_⟩
  · intro r hr g hg e
    rcases hc r hr g hg with h | ⟨_, h⟩
    · have := (h7.row e).2; omega
    · exact h ov h7 e
  · intro g hg
    rcases hnew g hg with h | h
    · exact .inl (h12 g h)
    · exact .inr ⟨h, by have := (ho4.low hg).2; omega⟩
  · intro r hr g hg
    rcases hc r hr g hg with h | ⟨h, _⟩
    · exact .inr ⟨h, by have := ((hh r hr).low hg).2; omega⟩
    · exact .inl h
  · rintro i (h | h)
    · have := h15 i h; exact ⟨this.1, by omega⟩
    · exact ⟨by omega, h.2⟩
  · rintro i (h | h)
    · exact .inl h
    · exact .inr h.1
  · refine ((Mv.of_new h3 G).trans hm ?_).trans hm5 ?_
    · intro i hi hd
      exact h12 i hd.symm
    · rintro i hi rfl
      exact h9

set_option maxHeartbeats 8000000 in
set_option maxRecDepth 100000 in
theorem badd_any (base q p : Nat) (G : Nat → Prop) (b : Bks) (rows : List Row) (v : Value) (w : World) (h : BkAt w base q p G b) (hv : RdRs w w.heap.size G v rows) (hl : rows.length ≤ 1000) (hr : ∀ r ∈ rows, r.l.length ≤ 140737488351232) (hbl : b.dead = false → b.l.length ≤ 4000000) :
    Calls Try.prog 10 #[.pointer (some ⟨q, 0, none⟩), v] w fun e w' => e = .returned (.int .i64 (b.add (texts rows)).1) ∧ ∃ G', BkAt w' base q p G' (b.add (texts rows)).2 ∧ (∀ i, G' i → G i ∨ w.heap.size ≤ i) ∧ Mv G w w' := by
  have hmf : ∀ (fn : Fn) (first cap : Array Value) (w : World), (Instr.makeFunc fn first cap).run Try.prog w = .ok (.func fn first cap) w := fun _ _ _ _ => rfl
  obtain ⟨R, hR⟩ : ∃ R, R = b.add (texts rows) := ⟨_, rfl⟩
  rw [← hR]
  rw [Bks.add_put] at hR
  obtain ⟨w1, hw1⟩ : ∃ w1, w1 = w.alloc (.cells #[.pointer (some ⟨q, 0, none⟩)] 27) := ⟨_, rfl⟩
  have hbx : Whole w1 w.heap.size 27 [.pointer (some ⟨q, 0, none⟩)] := by rw [hw1]; exact Whole.fresh w 27 [_]
  have hB1 : Below w.heap.size w w1 := by rw [hw1]; exact (Below.refl _ w).alloc (Nat.le_refl _) _
  have hm1 : Mv (fun _ => False) w w1 := Mv.of_new hB1 _
  have hs1 : w1.heap.size = w.heap.size + 1 := by rw [hw1]; simp
  have hv1 := hv.mv hm1 (Nat.le_refl _) (fun _ _ h => h.elim)
  have hgG : ¬ G w.heap.size := fun h2 => by have := (h.low.2 _ h2).2; omega
  have hlay := layA_any base q p w.heap.size G b rows v w1 (h.mv hm1 (fun _ _ h => h)) (hv1.mono (by omega) (fun _ _ h => h)) hl hr hbx hgG
  obtain ⟨⟨r, b2⟩, hP⟩ : ∃ P, P = b.put Tp.addS (texts rows) := ⟨_, rfl⟩
  have hb2l : b2.l = b.l := by
    have : (b.put Tp.addS (texts rows)).2.l = b.l := by unfold Bks.put; split; rfl; split <;> rfl
    rw [← hP] at this
    exact this
  have hb2d : r = 0 → b.dead = false := by
    intro h0
    have : (b.put Tp.addS (texts rows)).1 = 0 := by rw [← hP]; exact h0
    unfold Bks.put at this
    cases hd : b.dead with
    | false => rfl
    | true => rw [if_pos hd] at this; cases this
  rw [← hP] at hR hlay
  simp only at hR hlay
  have HR := Lib.hid hR
  have HLAY := Lib.hid hlay
  have HV1 := Lib.hid hv1
  have HBX := Lib.hid hbx
  have HB1 := Lib.hid hB1
  have HW1 := Lib.hid hw1
  have HGG := Lib.hid hgG
  have HLOW := Lib.hid h.low
  have HQS := Lib.hid (h.low.2 q h.at.1).2
  have HRL := Lib.hid hr
  have HBL := Lib.hid hbl
  have HB2L := Lib.hid hb2l
  have HB2D := Lib.hid hb2d
  clear hR hlay hv1 hbx hB1 hw1 hgG hP hv hm1 hr hbl hb2l hb2d h
  go_enter Try.func10, Try.ntmps10
  go_wp2_with fail
  rw [← HW1.out]
  refine HLAY.out.mono ?_
  rintro e w2 ⟨rfl, G2, hk2, hG2, hmv2⟩
  have hx2 : Whole w2 w.heap.size 27 [.pointer (some ⟨q, 0, none⟩)] := hmv2.whole HBX.out HGG.out
  have HMV := Lib.hid ((Mv.of_new HB1.out G).trans hmv2 (fun _ _ h => h))
  have HG2 := Lib.hid (show ∀ i, G2 i → G i ∨ w.heap.size ≤ i from fun i hi => by rcases hG2 i hi with h | h; exact .inl h; exact .inr (by omega))
  have hs2 := hmv2.size
  have hv2 : RdRs w2 w.heap.size G v rows := HV1.out.mv hmv2 (by omega) (fun _ _ h => h)
  have HX2 := Lib.hid hx2
  have HV2 := Lib.hid hv2
  have HK2 := Lib.hid hk2
  clear hx2 hv2 hmv2 hG2 HLAY hk2
  by_cases hz : r = 0
  · subst hz
    have hr := HR.out
    rw [if_pos rfl] at hr
    have HR2 := Lib.hid hr
    clear hr
    go_wp2_with fail
    -- what stands in the book
    have hkd : BkAt w2.drew base q p G2 b2 := HK2.out.mv ((Mv.refl (fun _ => False) w2).drew) (fun _ _ h => h)
    have hxd : Whole w2.drew w.heap.size 27 [.pointer (some ⟨q, 0, none⟩)] := HX2.out.drew
    have hvd : RdRs w2.drew w.heap.size G v rows := HV2.out.mv ((Mv.refl (fun _ => False) w2).drew) (by omega) (fun _ _ h => h.elim)
    have hMd : Mv G w w2.drew := HMV.out.drew
    have hsd : w.heap.size + 1 ≤ w2.drew.heap.size := by show _ ≤ w2.heap.size; omega
    obtain ⟨ov, A, c, n, rows0, h1, hn0, h3, h4, h5, h6, h7, h8, h9, h10, h11, h12, h13, h14, h15⟩ := id hkd
    have hqs : q < w.heap.size := by
      rcases HG2.out q h9 with h | h
      · exact (HLOW.out.2 q h).2
      · exact absurd h (by have := HQS.out; omega)
    have hr0 : rows0.length ≤ 4000000 := by
      have h2 := HBL.out (HB2D.out (by simp))
      have h3 := congrArg List.length h5
      rw [HB2L.out] at h3
      simp [texts] at h3
      omega
    have HLOWB := Lib.hid h14
    have HF := Lib.hid (bfresh_any rows G v w2.drew (hvd.mono (by omega) (fun _ _ h => h)) (by omega) HRL.out)
    clear hn0 h9 h10 h11 h12 h14 h15
    refine wp_region_planT (fun W => Whole W w.heap.size 27 [.pointer (some ⟨q, 0, none⟩)]) (.take 0 (.take 1 (.take 2 (.take 3 (.take 5 (.fork 4 (.step 6 (.step 7 (.take 8 (.take 9 (.step 10 .done))))) 6 (.step 4 (.step 7 (.take 8 (.take 9 (.step 10 .done)))))))))))  (by kernel_rfl) (by kernel_rfl) (fun _ _ d _ _ h => by cases d <;> exact h) hxd ?_
    (refine PlanT.takeI (v := ?_) rfl rfl ?_ ?_; rotate_left; (focus (intro W hW; have k0 := hW.cell 0 _ rfl; go_simp; (try with_reducible rfl); done)); (try simp only [Act.put, List.setIfInBounds_toArray, List.set_cons_zero, List.set_cons_succ]))
    (refine PlanT.takeI (v := ?_) rfl rfl ?_ ?_; rotate_left; (focus (intro W hW; have k0 := hW.cell 0 _ rfl; go_simp; (try with_reducible rfl); done)); (try simp only [Act.put, List.setIfInBounds_toArray, List.set_cons_zero, List.set_cons_succ]))
    (refine PlanT.takeI (v := ?_) rfl rfl ?_ ?_; rotate_left; (focus (intro W hW; have k0 := hW.cell 0 _ rfl; go_simp; (try with_reducible rfl); done)); (try simp only [Act.put, List.setIfInBounds_toArray, List.set_cons_zero, List.set_cons_succ]))
    (refine PlanT.takeI (v := ?_) rfl rfl ?_ ?_; rotate_left; (focus (intro W hW; have k0 := hW.cell 0 _ rfl; go_simp; (try with_reducible rfl); done)); (try simp only [Act.put, List.setIfInBounds_toArray, List.set_cons_zero, List.set_cons_succ]))
    (refine PlanT.takeI (v := ?_) rfl rfl ?_ ?_; rotate_left; (focus (intro W hW; have k0 := hW.cell 0 _ rfl; go_simp; (try with_reducible rfl); done)); (try simp only [Act.put, List.setIfInBounds_toArray, List.set_cons_zero, List.set_cons_succ]))
    refine ⟨wpOp_stepT rfl rfl (fun Kk hKk => ?_), wpOp_stepT rfl rfl (fun Kk hKk => ?_)⟩
    · have q1 := h1.cell 1 _ rfl
      go_simp
      refine hKk.out _ _ hxd ?_
      clear hKk Kk q1
      (try simp only [Act.put, List.setIfInBounds_toArray, List.set_cons_zero, List.set_cons_succ])
      refine wpOp_stepT rfl rfl (fun Kk hKk => ?_)
      go_simp
      go_at_call 25
      refine HF.out.mono ?_
      rintro e wf ⟨A1, c1, n1, rfl, rows1, hn1, ho1, hh1, ht1, hbf⟩
      have hmf2 := Mv.of_new hbf (fun _ => False)
      have HXF := Lib.hid (hmf2.whole hxd (fun h => h))
      have HQF := Lib.hid (hmf2.whole h1 (fun h => h))
      have HOF := Lib.hid (OwnR.mv h3 hmf2 (fun _ _ h => h))
      have HHF := Lib.hid (h4.mv hmf2 (fun _ _ _ _ h => h))
      have HN1 := Lib.hid hn1
      have HO1 := Lib.hid ho1
      have HH1 := Lib.hid hh1
      have HT1 := Lib.hid ht1
      have HBF := Lib.hid hbf
      have hbfs := hbf.size
      have HL1 := Lib.hid (show rows1.length = rows.length by have h2 := congrArg List.length ht1; simpa only [texts, List.length_map] using h2)
      refine hKk.out _ _ HXF.out ?_
      clear hKk Kk hn1 ho1 hh1 ht1 hbf hmf2
      (try simp only [Act.put, List.setIfInBounds_toArray, List.set_cons_zero, List.set_cons_succ])
      refine wpOp_stepT rfl rfl (fun Kk hKk => ?_)
      refine wp_addRN _ _ rfl base (.slice A n c) rows0 rfl HOF.out wf.heap.size (.slice A1 n1 c1) rows1 rfl (Own.rd encR_len HO1.out) (by have := HL1.out; omega) (Nat.le_trans HLOWB.out hbfs) (fun A4 c4 w4 ho4 hg4 hn4 => ?_)
      have hn4' : rows0.length + rows1.length = (rows0 ++ rows1).length := by simp
      rw [← hn4'] at ho4 hn4
      have HN4 := Lib.hid hn4'; clear hn4'
      have hm4 := Mv.of_grown hg4
      have hh4 : HoldRs w4 base (rows0 ++ rows1) := (HHF.out.append (HH1.out.lower HLOWB.out)).grown HOF.out hg4
      have hx4 : Whole w4 w.heap.size 27 [.pointer (some ⟨q, 0, none⟩)] := hm4.whole HXF.out (fun h => OwnR.off HOF.out HXF.out (by decide) h.symm)
      have hq4 : Whole w4 q 53 _ := hm4.whole HQF.out (fun h => OwnR.off HOF.out HQF.out (by decide) h.symm)
      refine hKk.out _ _ hx4 ?_
      clear hKk Kk hg4
      (try simp only [Act.put, List.setIfInBounds_toArray, List.set_cons_zero, List.set_cons_succ])
      (refine PlanT.takeI (v := ?_) rfl rfl ?_ ?_; rotate_left; (focus (intro W hW; have k0 := hW.cell 0 _ rfl; go_simp; (try with_reducible rfl); done)); (try simp only [Act.put, List.setIfInBounds_toArray, List.set_cons_zero, List.set_cons_succ]))
      (refine PlanT.takeI (v := ?_) rfl rfl ?_ ?_; rotate_left; (focus (intro W hW; have k0 := hW.cell 0 _ rfl; go_simp; (try with_reducible rfl); done)); (try simp only [Act.put, List.setIfInBounds_toArray, List.set_cons_zero, List.set_cons_succ]))
      refine wpOp_stepT rfl rfl (fun Kk hKk => ?_)
      have q1 := hq4.cell 1 _ rfl
      have q1f := hq4.frozen 1
      go_simp
      refine hKk.out _ _ (hx4.away (p := ⟨q, 1, none⟩) (fun h => by have : w.heap.size = q := h; omega) _) ?_
      clear hKk Kk q1 q1f
      (try simp only [Act.put, List.setIfInBounds_toArray, List.set_cons_zero, List.set_cons_succ])
      simp only [PlanT]
      obtain ⟨G5, hk5, hG5, hm5⟩ := BkAt.relist hkd HBF.out h1 HOF.out hm4 HN4.out ho4 (fun g hg => by rcases hn4 g hg with h | h; exact .inl h; exact .inr (Nat.le_trans hbfs h)) hh4
        (fun r hr => by
          rcases List.mem_append.1 hr with hr | hr
          · exact h6 r hr
          · have : r.l ∈ texts rows := by rw [← HT1.out]; exact List.mem_map.2 ⟨r, hr, rfl⟩
            obtain ⟨r2, hr2, he2⟩ := List.mem_map.1 this
            rw [← he2]; exact HRL.out r2 hr2)
        (fun r hr g hg => by
          rcases List.mem_append.1 hr with hr | hr
          · exact .inr ⟨h13 r hr g hg, fun ov2 ht2 => by rw [← h7.uniq ht2]; exact h8 r hr g hg⟩
          · exact .inl ((HH1.out r hr).low hg).1)
      have hl5 : texts (rows0 ++ rows1) = b.l ++ texts rows := by rw [texts_append, HT1.out, h5, HB2L.out]
      rw [hl5] at hk5
      have HK5 := Lib.hid hk5
      have HG5 := Lib.hid hG5
      have HM5 := Lib.hid (hMd.trans hm5 (fun i hi h => by rcases HG2.out i h with h | h; exact h; omega))
      clear hk5 hG5 hm5 hl5 hq4 hx4 hh4 hm4 ho4 hn4 h1 h3 h4 h5 h6 h7 h8 h13 hkd hxd hvd hMd
      go_wp2_with fail
      go_ret
      exact ⟨by rw [HR2.out]; rfl, G5, by rw [HR2.out]; exact HK5.out, fun i hi => by
        rcases HG5.out i hi with h | h
        · exact HG2.out i h
        · exact .inr (by omega), HM5.out⟩
    · go_simp
      go_at_call 25
      refine HF.out.mono ?_
      rintro e wf ⟨A1, c1, n1, rfl, rows1, hn1, ho1, hh1, ht1, hbf⟩
      have hmf2 := Mv.of_new hbf (fun _ => False)
      have HXF := Lib.hid (hmf2.whole hxd (fun h => h))
      have HQF := Lib.hid (hmf2.whole h1 (fun h => h))
      have HOF := Lib.hid (OwnR.mv h3 hmf2 (fun _ _ h => h))
      have HHF := Lib.hid (h4.mv hmf2 (fun _ _ _ _ h => h))
      have HN1 := Lib.hid hn1
      have HO1 := Lib.hid ho1
      have HH1 := Lib.hid hh1
      have HT1 := Lib.hid ht1
      have HBF := Lib.hid hbf
      have hbfs := hbf.size
      have HL1 := Lib.hid (show rows1.length = rows.length by have h2 := congrArg List.length ht1; simpa only [texts, List.length_map] using h2)
      refine hKk.out _ _ HXF.out ?_
      clear hKk Kk hn1 ho1 hh1 ht1 hbf hmf2
      (try simp only [Act.put, List.setIfInBounds_toArray, List.set_cons_zero, List.set_cons_succ])
      refine wpOp_stepT rfl rfl (fun Kk hKk => ?_)
      have q1 := HQF.out.cell 1 _ rfl
      go_simp
      refine hKk.out _ _ HXF.out ?_
      clear hKk Kk q1
      (try simp only [Act.put, List.setIfInBounds_toArray, List.set_cons_zero, List.set_cons_succ])
      refine wpOp_stepT rfl rfl (fun Kk hKk => ?_)
      refine wp_addRN _ _ rfl base (.slice A n c) rows0 rfl HOF.out wf.heap.size (.slice A1 n1 c1) rows1 rfl (Own.rd encR_len HO1.out) (by have := HL1.out; omega) (Nat.le_trans HLOWB.out hbfs) (fun A4 c4 w4 ho4 hg4 hn4 => ?_)
      have hn4' : rows0.length + rows1.length = (rows0 ++ rows1).length := by simp
      rw [← hn4'] at ho4 hn4
      have HN4 := Lib.hid hn4'; clear hn4'
      have hm4 := Mv.of_grown hg4
      have hh4 : HoldRs w4 base (rows0 ++ rows1) := (HHF.out.append (HH1.out.lower HLOWB.out)).grown HOF.out hg4
      have hx4 : Whole w4 w.heap.size 27 [.pointer (some ⟨q, 0, none⟩)] := hm4.whole HXF.out (fun h => OwnR.off HOF.out HXF.out (by decide) h.symm)
      have hq4 : Whole w4 q 53 _ := hm4.whole HQF.out (fun h => OwnR.off HOF.out HQF.out (by decide) h.symm)
      refine hKk.out _ _ hx4 ?_
      clear hKk Kk hg4
      (try simp only [Act.put, List.setIfInBounds_toArray, List.set_cons_zero, List.set_cons_succ])
      (refine PlanT.takeI (v := ?_) rfl rfl ?_ ?_; rotate_left; (focus (intro W hW; have k0 := hW.cell 0 _ rfl; go_simp; (try with_reducible rfl); done)); (try simp only [Act.put, List.setIfInBounds_toArray, List.set_cons_zero, List.set_cons_succ]))
      (refine PlanT.takeI (v := ?_) rfl rfl ?_ ?_; rotate_left; (focus (intro W hW; have k0 := hW.cell 0 _ rfl; go_simp; (try with_reducible rfl); done)); (try simp only [Act.put, List.setIfInBounds_toArray, List.set_cons_zero, List.set_cons_succ]))
      refine wpOp_stepT rfl rfl (fun Kk hKk => ?_)
      have q1 := hq4.cell 1 _ rfl
      have q1f := hq4.frozen 1
      go_simp
      refine hKk.out _ _ (hx4.away (p := ⟨q, 1, none⟩) (fun h => by have : w.heap.size = q := h; omega) _) ?_
      clear hKk Kk q1 q1f
      (try simp only [Act.put, List.setIfInBounds_toArray, List.set_cons_zero, List.set_cons_succ])
      simp only [PlanT]
      obtain ⟨G5, hk5, hG5, hm5⟩ := BkAt.relist hkd HBF.out h1 HOF.out hm4 HN4.out ho4 (fun g hg => by rcases hn4 g hg with h | h; exact .inl h; exact .inr (Nat.le_trans hbfs h)) hh4
        (fun r hr => by
          rcases List.mem_append.1 hr with hr | hr
          · exact h6 r hr
          · have : r.l ∈ texts rows := by rw [← HT1.out]; exact List.mem_map.2 ⟨r, hr, rfl⟩
            obtain ⟨r2, hr2, he2⟩ := List.mem_map.1 this
            rw [← he2]; exact HRL.out r2 hr2)
        (fun r hr g hg => by
          rcases List.mem_append.1 hr with hr | hr
          · exact .inr ⟨h13 r hr g hg, fun ov2 ht2 => by rw [← h7.uniq ht2]; exact h8 r hr g hg⟩
          · exact .inl ((HH1.out r hr).low hg).1)
      have hl5 : texts (rows0 ++ rows1) = b.l ++ texts rows := by rw [texts_append, HT1.out, h5, HB2L.out]
      rw [hl5] at hk5
      have HK5 := Lib.hid hk5
      have HG5 := Lib.hid hG5
      have HM5 := Lib.hid (hMd.trans hm5 (fun i hi h => by rcases HG2.out i h with h | h; exact h; omega))
      clear hk5 hG5 hm5 hl5 hq4 hx4 hh4 hm4 ho4 hn4 h1 h3 h4 h5 h6 h7 h8 h13 hkd hxd hvd hMd
      go_wp2_with fail
      go_ret
      exact ⟨by rw [HR2.out]; rfl, G5, by rw [HR2.out]; exact HK5.out, fun i hi => by
        rcases HG5.out i hi with h | h
        · exact HG2.out i h
        · exact .inr (by omega), HM5.out⟩
  · have hr := HR.out
    rw [if_neg hz] at hr
    have HR2 := Lib.hid hr
    have hz2 : (r == 0) = false := by simpa using hz
    clear hr
    go_wp2_with fail
    go_ret
    exact ⟨by rw [HR2.out]; rfl, G2, by rw [HR2.out]; exact HK2.out, HG2.out, HMV.out⟩
end Go.Proofs.Ytaenlkopjmgniaa

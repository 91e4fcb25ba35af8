/- What the program's Reset leaves; no book. -/
import Derived.Test.YtaenlkopjmgniaaPA
namespace Go.Proofs.Ytaenlkopjmgniaa
open Go.RowKit

set_option maxHeartbeats 8000000 in
set_option maxRecDepth 100000 in
theorem breset_any (base q p : Nat) (G : Nat → Prop) (b : Bks) (rows : List Row) (v : Value) (w : World) (h : BkAt w base q p G b) (hv : RdRs w w.heap.size G v rows) (hl : rows.length ≤ 1000) (hr : ∀ r ∈ rows, r.l.length ≤ 140737488351232) :
    Calls Try.prog 9 #[.pointer (some ⟨q, 0, none⟩), v] w fun e w' => e = .returned (.int .i64 (b.reset (texts rows)).1) ∧ ∃ G', BkAt w' base q p G' (b.reset (texts rows)).2 ∧ (∀ i, G' i → G i ∨ w.heap.size ≤ i) ∧ Mv G w w' := by
  have hmf : ∀ (fn : Fn) (first cap : Array Value) (w : World), (Instr.makeFunc fn first cap).run Try.prog w = .ok (.func fn first cap) w := fun _ _ _ _ => rfl
  obtain ⟨R, hR⟩ : ∃ R, R = b.reset (texts rows) := ⟨_, rfl⟩
  rw [← hR]
  rw [Bks.reset_put] at hR
  obtain ⟨w1, hw1⟩ : ∃ w1, w1 = w.alloc (.cells #[.pointer (some ⟨q, 0, none⟩)] 27) := ⟨_, rfl⟩
  have hbx : Whole w1 w.heap.size 27 [.pointer (some ⟨q, 0, none⟩)] := by rw [hw1]; exact Whole.fresh w 27 [_]
  have hB1 : Below w.heap.size w w1 := by rw [hw1]; exact (Below.refl _ w).alloc (Nat.le_refl _) _
  have hm1 : Mv (fun _ => False) w w1 := Mv.of_new hB1 _
  have hs1 : w1.heap.size = w.heap.size + 1 := by rw [hw1]; simp
  have hv1 := hv.mv hm1 (Nat.le_refl _) (fun _ _ h => h.elim)
  have hgG : ¬ G w.heap.size := fun h2 => by have := (h.low.2 _ h2).2; omega
  have hlay := layR_any base q p w.heap.size G b rows v w1 (h.mv hm1 (fun _ _ h => h)) (hv1.mono (by omega) (fun _ _ h => h)) hl hr hbx hgG
  obtain ⟨⟨r, b2⟩, hP⟩ : ∃ P, P = b.put Tp.repl (texts rows) := ⟨_, rfl⟩
  have hb2l : b2.l = b.l := by
    have : (b.put Tp.repl (texts rows)).2.l = b.l := by unfold Bks.put; split; rfl; split <;> rfl
    rw [← hP] at this
    exact this
  have hb2d : r = 0 → b.dead = false := by
    intro h0
    have : (b.put Tp.repl (texts rows)).1 = 0 := by rw [← hP]; exact h0
    unfold Bks.put at this
    cases hd : b.dead with
    | false => rfl
    | true => rw [if_pos hd] at this; cases this
  rw [← hP] at hR hlay
  simp only at hR hlay
  have HR := Lib.hid hR
  have HLAY := Lib.hid hlay
  have HV1 := Lib.hid hv1
  have HBX := Lib.hid hbx
  have HB1 := Lib.hid hB1
  have HW1 := Lib.hid hw1
  have HGG := Lib.hid hgG
  have HLOW := Lib.hid h.low
  have HQS := Lib.hid (h.low.2 q h.at.1).2
  have HRL := Lib.hid hr
  have HB2L := Lib.hid hb2l
  have HB2D := Lib.hid hb2d
  clear hR hlay hv1 hbx hB1 hw1 hgG hP hv hm1 hr  hb2l hb2d h
  go_enter Try.func9, Try.ntmps9
  go_wp2_with fail
  rw [← HW1.out]
  refine HLAY.out.mono ?_
  rintro e w2 ⟨rfl, G2, hk2, hG2, hmv2⟩
  have hx2 : Whole w2 w.heap.size 27 [.pointer (some ⟨q, 0, none⟩)] := hmv2.whole HBX.out HGG.out
  have HMV := Lib.hid ((Mv.of_new HB1.out G).trans hmv2 (fun _ _ h => h))
  have HG2 := Lib.hid (show ∀ i, G2 i → G i ∨ w.heap.size ≤ i from fun i hi => by rcases hG2 i hi with h | h; exact .inl h; exact .inr (by omega))
  have hs2 := hmv2.size
  have hv2 : RdRs w2 w.heap.size G v rows := HV1.out.mv hmv2 (by omega) (fun _ _ h => h)
  have HX2 := Lib.hid hx2
  have HV2 := Lib.hid hv2
  have HK2 := Lib.hid hk2
  clear hx2 hv2 hmv2 hG2 HLAY hk2
  by_cases hz : r = 0
  · subst hz
    have hr := HR.out
    rw [if_pos rfl] at hr
    have HR2 := Lib.hid hr
    clear hr
    go_wp2_with fail
    -- what stands in the book
    have hkd : BkAt w2.drew base q p G2 b2 := HK2.out.mv ((Mv.refl (fun _ => False) w2).drew) (fun _ _ h => h)
    have hxd : Whole w2.drew w.heap.size 27 [.pointer (some ⟨q, 0, none⟩)] := HX2.out.drew
    have hvd : RdRs w2.drew w.heap.size G v rows := HV2.out.mv ((Mv.refl (fun _ => False) w2).drew) (by omega) (fun _ _ h => h.elim)
    have hMd : Mv G w w2.drew := HMV.out.drew
    have hsd : w.heap.size + 1 ≤ w2.drew.heap.size := by show _ ≤ w2.heap.size; omega
    obtain ⟨ov, A, c, n, rows0, h1, hn0, h3, h4, h5, h6, h7, h8, h9, h10, h11, h12, h13, h14, h15⟩ := id hkd
    have hqs : q < w.heap.size := by
      rcases HG2.out q h9 with h | h
      · exact (HLOW.out.2 q h).2
      · exact absurd h (by have := HQS.out; omega)
    have HLOWB := Lib.hid h14
    have HF := Lib.hid (bfresh_any rows G v w2.drew (hvd.mono (by omega) (fun _ _ h => h)) (by omega) HRL.out)
    clear hn0 h9 h10 h11 h12 h14 h15
    refine wp_region_plan (S := fun W => Whole W w.heap.size 27 [.pointer (some ⟨q, 0, none⟩)]) [(true, 0), (true, 1), (false, 2), (true, 3), (true, 4), (false, 5)] (by kernel_rfl) (by kernel_rfl) (fun _ _ d _ _ h => by cases d <;> exact h) hxd ?_
    (refine Plan.take (v := ?_) rfl rfl ?_ ?_; rotate_left; (focus (intro W hW; have k0 := hW.cell 0 _ rfl; go_simp; (try with_reducible rfl); done)); (try simp only [Act.put, List.setIfInBounds_toArray, List.set_cons_zero, List.set_cons_succ]))
    (refine Plan.take (v := ?_) rfl rfl ?_ ?_; rotate_left; (focus (intro W hW; have k0 := hW.cell 0 _ rfl; go_simp; (try with_reducible rfl); done)); (try simp only [Act.put, List.setIfInBounds_toArray, List.set_cons_zero, List.set_cons_succ]))
    refine Plan.step rfl rfl (fun Kk hKk => ?_)
    go_simp
    go_at_call 25
    refine HF.out.mono ?_
    rintro e wf ⟨A1, c1, n1, rfl, rows1, hn1, ho1, hh1, ht1, hbf⟩
    have hmf2 := Mv.of_new hbf (fun _ => False)
    have HXF := Lib.hid (hmf2.whole hxd (fun h => h))
    have HQF := Lib.hid (hmf2.whole h1 (fun h => h))
    have HOF := Lib.hid (OwnR.mv h3 hmf2 (fun _ _ h => h))
    have HHF := Lib.hid (h4.mv hmf2 (fun _ _ _ _ h => h))
    have HN1 := Lib.hid hn1
    have HO1 := Lib.hid ho1
    have HH1 := Lib.hid hh1
    have HT1 := Lib.hid ht1
    have HBF := Lib.hid hbf
    have hbfs := hbf.size
    have HL1 := Lib.hid (show rows1.length = rows.length by have h2 := congrArg List.length ht1; simpa only [texts, List.length_map] using h2)
    refine hKk.out _ _ HXF.out ?_
    clear hKk Kk hn1 ho1 hh1 ht1 hbf hmf2
    (try simp only [Act.put, List.setIfInBounds_toArray, List.set_cons_zero, List.set_cons_succ])
    (refine Plan.take (v := ?_) rfl rfl ?_ ?_; rotate_left; (focus (intro W hW; have k0 := hW.cell 0 _ rfl; go_simp; (try with_reducible rfl); done)); (try simp only [Act.put, List.setIfInBounds_toArray, List.set_cons_zero, List.set_cons_succ]))
    (refine Plan.take (v := ?_) rfl rfl ?_ ?_; rotate_left; (focus (intro W hW; have k0 := hW.cell 0 _ rfl; go_simp; (try with_reducible rfl); done)); (try simp only [Act.put, List.setIfInBounds_toArray, List.set_cons_zero, List.set_cons_succ]))
    refine Plan.step rfl rfl (fun Kk hKk => ?_)
    have q1 := HQF.out.cell 1 _ rfl
    have q1f := HQF.out.frozen 1
    go_simp
    refine hKk.out _ _ (HXF.out.away (p := ⟨q, 1, none⟩) (fun h => by have : w.heap.size = q := h; omega) _) ?_
    clear hKk Kk q1 q1f
    (try simp only [Act.put, List.setIfInBounds_toArray, List.set_cons_zero, List.set_cons_succ])
    simp only [Plan]
    obtain ⟨G5, hk5, hG5, hm5⟩ := BkAt.relist hkd HBF.out h1 HOF.out (Mv.refl _ wf) HN1.out (HO1.out.lower HLOWB.out) (fun g hg => .inr (HO1.out.low hg).1) (HH1.out.lower HLOWB.out)
      (fun r hr => by
        have : r.l ∈ texts rows := by rw [← HT1.out]; exact List.mem_map.2 ⟨r, hr, rfl⟩
        obtain ⟨r2, hr2, he2⟩ := List.mem_map.1 this
        rw [← he2]; exact HRL.out r2 hr2)
      (fun r hr g hg => .inl ((HH1.out r hr).low hg).1)
    rw [HT1.out] at hk5
    have HK5 := Lib.hid hk5
    have HG5 := Lib.hid hG5
    have HM5 := Lib.hid (hMd.trans hm5 (fun i hi h => by rcases HG2.out i h with h | h; exact h; omega))
    clear hk5 hG5 hm5 h1 h3 h4 h5 h6 h7 h8 h13 hkd hxd hvd hMd
    go_wp2_with fail
    go_ret
    exact ⟨by rw [HR2.out]; rfl, G5, by rw [HR2.out]; exact HK5.out, fun i hi => by
      rcases HG5.out i hi with h | h
      · exact HG2.out i h
      · exact .inr (by omega), HM5.out⟩
  · have hr := HR.out
    rw [if_neg hz] at hr
    have HR2 := Lib.hid hr
    have hz2 : (r == 0) = false := by simpa using hz
    clear hr
    go_wp2_with fail
    go_ret
    exact ⟨by rw [HR2.out]; rfl, G2, by rw [HR2.out]; exact HK2.out, HG2.out, HMV.out⟩

set_option maxHeartbeats 1000000 in
set_option maxRecDepth 100000 in
theorem laynil_any (v f : Value) (w : World) : Calls Try.prog 23 #[.pointer none, v, f] w fun e w' => e = .returned (.int .i64 1) ∧ Below w.heap.size w w' := by
  have hmf : ∀ (fn : Fn) (first cap : Array Value) (w : World), (Instr.makeFunc fn first cap).run Try.prog w = .ok (.func fn first cap) w := fun _ _ _ _ => rfl
  go_enter_defers Try.func23, Try.ntmps23
  go_wp2_with fail
  obtain ⟨w3, hw3⟩ : ∃ w3, w3 = (w.alloc (.cells #[.pointer none] 27)).alloc (.cells #[.int .i64 1] 24) := ⟨_, rfl⟩
  rw [← hw3]
  have hB3 : Below w.heap.size w w3 := by rw [hw3]; exact ((Below.refl _ w).alloc (Nat.le_refl _) _).alloc (by simp) _
  have he3 : Whole w3 (w.heap.size + 1) 24 [.int .i64 1] := by
    have := Whole.fresh (w.alloc (.cells #[.pointer none] 27)) 24 [.int .i64 1]
    rw [hw3]; simpa using this
  have k0 := he3.cell 0 _ rfl
  refine ⟨.int .i64 1, by simp [results, Try.results23, go_sem, k0], rfl, hB3⟩

set_option maxHeartbeats 1000000 in
set_option maxRecDepth 100000 in
theorem bnone_add (v : Value) (w : World) : Calls Try.prog 10 #[.pointer none, v] w fun e w' => e = .returned (.int .i64 1) ∧ Below w.heap.size w w' := by
  have hmf : ∀ (fn : Fn) (first cap : Array Value) (w : World), (Instr.makeFunc fn first cap).run Try.prog w = .ok (.func fn first cap) w := fun _ _ _ _ => rfl
  have HL := Lib.hid (fun (f : Value) => laynil_any v f (w.alloc (.cells #[.pointer none] 27)))
  go_enter Try.func10, Try.ntmps10
  go_wp2_with fail
  refine (HL.out _).mono ?_
  rintro e w1 ⟨rfl, hb⟩
  have HB := Lib.hid (((Below.refl _ w).alloc (Nat.le_refl _) _).trans (hb.mono (by simp)))
  clear hb HL
  go_wp2_with fail
  go_ret
  exact ⟨rfl, HB.out⟩

set_option maxHeartbeats 1000000 in
set_option maxRecDepth 100000 in
theorem bnone_reset (v : Value) (w : World) : Calls Try.prog 9 #[.pointer none, v] w fun e w' => e = .returned (.int .i64 1) ∧ Below w.heap.size w w' := by
  have hmf : ∀ (fn : Fn) (first cap : Array Value) (w : World), (Instr.makeFunc fn first cap).run Try.prog w = .ok (.func fn first cap) w := fun _ _ _ _ => rfl
  have HL := Lib.hid (fun (f : Value) => laynil_any v f (w.alloc (.cells #[.pointer none] 27)))
  go_enter Try.func9, Try.ntmps9
  go_wp2_with fail
  refine (HL.out _).mono ?_
  rintro e w1 ⟨rfl, hb⟩
  have HB := Lib.hid (((Below.refl _ w).alloc (Nat.le_refl _) _).trans (hb.mono (by simp)))
  clear hb HL
  go_wp2_with fail
  go_ret
  exact ⟨rfl, HB.out⟩
end Go.Proofs.Ytaenlkopjmgniaa

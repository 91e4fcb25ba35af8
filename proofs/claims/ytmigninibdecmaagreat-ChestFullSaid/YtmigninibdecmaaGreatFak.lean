/- What the program's Reset leaves; no book. What Open answers, its bytes held in a block of the call's own; bytes out of a text. The records that bytes begin with, as the program reads them. What the program's Open leaves. -/
import Derived.Test.YtmigninibdecmaaGreatFaj
import Derived.Test.YtmigninibdecmaaGreatFac
import Derived.Test.YtmigninibdecmaaGreatFah
import Derived.Test.YtmigninibdecmaaGreatFai
import Derived.Test.YtmigninibdecmaaGreatFae
namespace Go.Proofs.YtmigninibdecmaaGreat
open Go.RowKit

set_option maxHeartbeats 8000000 in
set_option maxRecDepth 100000 in
theorem breset_any (base q p : Nat) (G : Nat → Prop) (b : Bks) (rows : List Row) (v : Value) (w : World) (h : BkAt w base q p G b) (hv : RdRs w w.heap.size G v rows) (hl : rows.length ≤ 1000) (hr : ∀ r ∈ rows, r.l.length ≤ 140737488351232) :
    Calls Tryz.prog 65 #[.pointer (some ⟨q, 0, none⟩), v] w fun e w' => e = .returned (.int .i64 (b.reset (texts rows)).1) ∧ ∃ G', BkAt w' base q p G' (b.reset (texts rows)).2 ∧ (∀ i, G' i → G i ∨ w.heap.size ≤ i) ∧ Mv G w w' := by
  have hmf : ∀ (fn : Fn) (first cap : Array Value) (w : World), (Instr.makeFunc fn first cap).run Tryz.prog w = .ok (.func fn first cap) w := fun _ _ _ _ => rfl
  obtain ⟨R, hR⟩ : ∃ R, R = b.reset (texts rows) := ⟨_, rfl⟩
  rw [← hR]
  rw [Bks.reset_put] at hR
  obtain ⟨w1, hw1⟩ : ∃ w1, w1 = w.alloc (.cells #[.pointer (some ⟨q, 0, none⟩)] 56) := ⟨_, rfl⟩
  have hbx : Whole w1 w.heap.size 56 [.pointer (some ⟨q, 0, none⟩)] := by rw [hw1]; exact Whole.fresh w 56 [_]
  have hB1 : Below w.heap.size w w1 := by rw [hw1]; exact (Below.refl _ w).alloc (Nat.le_refl _) _
  have hm1 : Mv (fun _ => False) w w1 := Mv.of_new hB1 _
  have hs1 : w1.heap.size = w.heap.size + 1 := by rw [hw1]; simp
  have hv1 := hv.mv hm1 (Nat.le_refl _) (fun _ _ h => h.elim)
  have hgG : ¬ G w.heap.size := fun h2 => by have := (h.low.2 _ h2).2; omega
  have hlay := layR_any base q p w.heap.size G b rows v w1 (h.mv hm1 (fun _ _ h => h)) (hv1.mono (by omega) (fun _ _ h => h)) hl hr hbx hgG
  obtain ⟨⟨r, b2⟩, hP⟩ : ∃ P, P = b.put Tp.repl (texts rows) := ⟨_, rfl⟩
  have hb2l : b2.l = b.l := by
    have : (b.put Tp.repl (texts rows)).2.l = b.l := by unfold Bks.put; split; rfl; split <;> rfl
    rw [← hP] at this
    exact this
  have hb2d : r = 0 → b.dead = false := by
    intro h0
    have : (b.put Tp.repl (texts rows)).1 = 0 := by rw [← hP]; exact h0
    unfold Bks.put at this
    cases hd : b.dead with
    | false => rfl
    | true => rw [if_pos hd] at this; cases this
  rw [← hP] at hR hlay
  simp only at hR hlay
  have HR := Lib.hid hR
  have HLAY := Lib.hid hlay
  have HV1 := Lib.hid hv1
  have HBX := Lib.hid hbx
  have HB1 := Lib.hid hB1
  have HW1 := Lib.hid hw1
  have HGG := Lib.hid hgG
  have HLOW := Lib.hid h.low
  have HQS := Lib.hid (h.low.2 q h.at.1).2
  have HRL := Lib.hid hr
  have HB2L := Lib.hid hb2l
  have HB2D := Lib.hid hb2d
  clear hR hlay hv1 hbx hB1 hw1 hgG hP hv hm1 hr  hb2l hb2d h
  go_enter Tryz.func65, Tryz.ntmps65
  go_wp2_with fail
  rw [← HW1.out]
  refine HLAY.out.mono ?_
  rintro e w2 ⟨rfl, G2, hk2, hG2, hmv2⟩
  have hx2 : Whole w2 w.heap.size 56 [.pointer (some ⟨q, 0, none⟩)] := hmv2.whole HBX.out HGG.out
  have HMV := Lib.hid ((Mv.of_new HB1.out G).trans hmv2 (fun _ _ h => h))
  have HG2 := Lib.hid (show ∀ i, G2 i → G i ∨ w.heap.size ≤ i from fun i hi => by rcases hG2 i hi with h | h; exact .inl h; exact .inr (by omega))
  have hs2 := hmv2.size
  have hv2 : RdRs w2 w.heap.size G v rows := HV1.out.mv hmv2 (by omega) (fun _ _ h => h)
  have HX2 := Lib.hid hx2
  have HV2 := Lib.hid hv2
  have HK2 := Lib.hid hk2
  clear hx2 hv2 hmv2 hG2 HLAY hk2
  by_cases hz : r = 0
  · subst hz
    have hr := HR.out
    rw [if_pos rfl] at hr
    have HR2 := Lib.hid hr
    clear hr
    go_wp2_with fail
    -- what stands in the book
    have hkd : BkAt w2.drew base q p G2 b2 := HK2.out.mv ((Mv.refl (fun _ => False) w2).drew) (fun _ _ h => h)
    have hxd : Whole w2.drew w.heap.size 56 [.pointer (some ⟨q, 0, none⟩)] := HX2.out.drew
    have hvd : RdRs w2.drew w.heap.size G v rows := HV2.out.mv ((Mv.refl (fun _ => False) w2).drew) (by omega) (fun _ _ h => h.elim)
    have hMd : Mv G w w2.drew := HMV.out.drew
    have hsd : w.heap.size + 1 ≤ w2.drew.heap.size := by show _ ≤ w2.heap.size; omega
    obtain ⟨ov, A, c, n, rows0, h1, hn0, h3, h4, h5, h6, h7, h8, h9, h10, h11, h12, h13, h14, h15⟩ := id hkd
    have hqs : q < w.heap.size := by
      rcases HG2.out q h9 with h | h
      · exact (HLOW.out.2 q h).2
      · exact absurd h (by have := HQS.out; omega)
    have HLOWB := Lib.hid h14
    have HF := Lib.hid (bfresh_any rows G v w2.drew (hvd.mono (by omega) (fun _ _ h => h)) (by omega) HRL.out)
    clear hn0 h9 h10 h11 h12 h14 h15
    refine wp_region_plan (S := fun W => Whole W w.heap.size 56 [.pointer (some ⟨q, 0, none⟩)]) [(true, 0), (true, 1), (false, 2), (true, 3), (true, 4), (false, 5)] (by kernel_rfl) (by kernel_rfl) (fun _ _ d _ _ h => by cases d <;> exact h) hxd ?_
    (refine Plan.take (v := ?_) rfl rfl ?_ ?_; rotate_left; (focus (intro W hW; have k0 := hW.cell 0 _ rfl; go_simp; (try with_reducible rfl); done)); (try simp only [Act.put, List.setIfInBounds_toArray, List.set_cons_zero, List.set_cons_succ]))
    (refine Plan.take (v := ?_) rfl rfl ?_ ?_; rotate_left; (focus (intro W hW; have k0 := hW.cell 0 _ rfl; go_simp; (try with_reducible rfl); done)); (try simp only [Act.put, List.setIfInBounds_toArray, List.set_cons_zero, List.set_cons_succ]))
    refine Plan.step rfl rfl (fun Kk hKk => ?_)
    go_simp
    go_at_call 50
    refine HF.out.mono ?_
    rintro e wf ⟨A1, c1, n1, rfl, rows1, hn1, ho1, hh1, ht1, hbf⟩
    have hmf2 := Mv.of_new hbf (fun _ => False)
    have HXF := Lib.hid (hmf2.whole hxd (fun h => h))
    have HQF := Lib.hid (hmf2.whole h1 (fun h => h))
    have HOF := Lib.hid (OwnR.mv h3 hmf2 (fun _ _ h => h))
    have HHF := Lib.hid (h4.mv hmf2 (fun _ _ _ _ h => h))
    have HN1 := Lib.hid hn1
    have HO1 := Lib.hid ho1
    have HH1 := Lib.hid hh1
    have HT1 := Lib.hid ht1
    have HBF := Lib.hid hbf
    have hbfs := hbf.size
    have HL1 := Lib.hid (show rows1.length = rows.length by have h2 := congrArg List.length ht1; simpa only [texts, List.length_map] using h2)
    refine hKk.out _ _ HXF.out ?_
    clear hKk Kk hn1 ho1 hh1 ht1 hbf hmf2
    (try simp only [Act.put, List.setIfInBounds_toArray, List.set_cons_zero, List.set_cons_succ])
    (refine Plan.take (v := ?_) rfl rfl ?_ ?_; rotate_left; (focus (intro W hW; have k0 := hW.cell 0 _ rfl; go_simp; (try with_reducible rfl); done)); (try simp only [Act.put, List.setIfInBounds_toArray, List.set_cons_zero, List.set_cons_succ]))
    (refine Plan.take (v := ?_) rfl rfl ?_ ?_; rotate_left; (focus (intro W hW; have k0 := hW.cell 0 _ rfl; go_simp; (try with_reducible rfl); done)); (try simp only [Act.put, List.setIfInBounds_toArray, List.set_cons_zero, List.set_cons_succ]))
    refine Plan.step rfl rfl (fun Kk hKk => ?_)
    have q1 := HQF.out.cell 1 _ rfl
    have q1f := HQF.out.frozen 1
    go_simp
    refine hKk.out _ _ (HXF.out.away (p := ⟨q, 1, none⟩) (fun h => by have : w.heap.size = q := h; omega) _) ?_
    clear hKk Kk q1 q1f
    (try simp only [Act.put, List.setIfInBounds_toArray, List.set_cons_zero, List.set_cons_succ])
    simp only [Plan]
    obtain ⟨G5, hk5, hG5, hm5⟩ := BkAt.relist hkd HBF.out h1 HOF.out (Mv.refl _ wf) HN1.out (HO1.out.lower HLOWB.out) (fun g hg => .inr (HO1.out.low hg).1) (HH1.out.lower HLOWB.out)
      (fun r hr => by
        have : r.l ∈ texts rows := by rw [← HT1.out]; exact List.mem_map.2 ⟨r, hr, rfl⟩
        obtain ⟨r2, hr2, he2⟩ := List.mem_map.1 this
        rw [← he2]; exact HRL.out r2 hr2)
      (fun r hr g hg => .inl ((HH1.out r hr).low hg).1)
    rw [HT1.out] at hk5
    have HK5 := Lib.hid hk5
    have HG5 := Lib.hid hG5
    have HM5 := Lib.hid (hMd.trans hm5 (fun i hi h => by rcases HG2.out i h with h | h; exact h; omega))
    clear hk5 hG5 hm5 h1 h3 h4 h5 h6 h7 h8 h13 hkd hxd hvd hMd
    go_wp2_with fail
    go_ret
    exact ⟨by rw [HR2.out]; rfl, G5, by rw [HR2.out]; exact HK5.out, fun i hi => by
      rcases HG5.out i hi with h | h
      · exact HG2.out i h
      · exact .inr (by omega), HM5.out⟩
  · have hr := HR.out
    rw [if_neg hz] at hr
    have HR2 := Lib.hid hr
    have hz2 : (r == 0) = false := by simpa using hz
    clear hr
    go_wp2_with fail
    go_ret
    exact ⟨by rw [HR2.out]; rfl, G2, by rw [HR2.out]; exact HK2.out, HG2.out, HMV.out⟩

set_option maxHeartbeats 1000000 in
set_option maxRecDepth 100000 in
theorem laynil_any (v f : Value) (w : World) : Calls Tryz.prog 88 #[.pointer none, v, f] w fun e w' => e = .returned (.int .i64 1) ∧ Below w.heap.size w w' := by
  have hmf : ∀ (fn : Fn) (first cap : Array Value) (w : World), (Instr.makeFunc fn first cap).run Tryz.prog w = .ok (.func fn first cap) w := fun _ _ _ _ => rfl
  go_enter_defers Tryz.func88, Tryz.ntmps88
  go_wp2_with fail
  obtain ⟨w3, hw3⟩ : ∃ w3, w3 = (w.alloc (.cells #[.pointer none] 56)).alloc (.cells #[.int .i64 1] 23) := ⟨_, rfl⟩
  rw [← hw3]
  have hB3 : Below w.heap.size w w3 := by rw [hw3]; exact ((Below.refl _ w).alloc (Nat.le_refl _) _).alloc (by simp) _
  have he3 : Whole w3 (w.heap.size + 1) 23 [.int .i64 1] := by
    have := Whole.fresh (w.alloc (.cells #[.pointer none] 56)) 23 [.int .i64 1]
    rw [hw3]; simpa using this
  have k0 := he3.cell 0 _ rfl
  refine ⟨.int .i64 1, by simp [results, Tryz.results88, go_sem, k0], rfl, hB3⟩

set_option maxHeartbeats 1000000 in
set_option maxRecDepth 100000 in
theorem bnone_add (v : Value) (w : World) : Calls Tryz.prog 59 #[.pointer none, v] w fun e w' => e = .returned (.int .i64 1) ∧ Below w.heap.size w w' := by
  have hmf : ∀ (fn : Fn) (first cap : Array Value) (w : World), (Instr.makeFunc fn first cap).run Tryz.prog w = .ok (.func fn first cap) w := fun _ _ _ _ => rfl
  have HL := Lib.hid (fun (f : Value) => laynil_any v f (w.alloc (.cells #[.pointer none] 56)))
  go_enter Tryz.func59, Tryz.ntmps59
  go_wp2_with fail
  refine (HL.out _).mono ?_
  rintro e w1 ⟨rfl, hb⟩
  have HB := Lib.hid (((Below.refl _ w).alloc (Nat.le_refl _) _).trans (hb.mono (by simp)))
  clear hb HL
  go_wp2_with fail
  go_ret
  exact ⟨rfl, HB.out⟩

set_option maxHeartbeats 1000000 in
set_option maxRecDepth 100000 in
theorem bnone_reset (v : Value) (w : World) : Calls Tryz.prog 65 #[.pointer none, v] w fun e w' => e = .returned (.int .i64 1) ∧ Below w.heap.size w w' := by
  have hmf : ∀ (fn : Fn) (first cap : Array Value) (w : World), (Instr.makeFunc fn first cap).run Tryz.prog w = .ok (.func fn first cap) w := fun _ _ _ _ => rfl
  have HL := Lib.hid (fun (f : Value) => laynil_any v f (w.alloc (.cells #[.pointer none] 56)))
  go_enter Tryz.func65, Tryz.ntmps65
  go_wp2_with fail
  refine (HL.out _).mono ?_
  rintro e w1 ⟨rfl, hb⟩
  have HB := Lib.hid (((Below.refl _ w).alloc (Nat.le_refl _) _).trans (hb.mono (by simp)))
  clear hb HL
  go_wp2_with fail
  go_ret
  exact ⟨rfl, HB.out⟩
end Go.Proofs.YtmigninibdecmaaGreat
namespace Go.Proofs.YtmigninibdecmaaGreat
open Go.RowKit

set_option maxRecDepth 100000 in
theorem convH_any (w : World) (t : List UInt8) : ∃ c w', (convert 9 41 (.string (strB t))).run Tryz.prog w = .ok (.slice (some ⟨w.heap.size, 0, none⟩) t.length c) w' ∧ RdB w' w'.heap.size (.slice (some ⟨w.heap.size, 0, none⟩) t.length c) t ∧ Below w.heap.size w w' ∧ w.heap.size < w'.heap.size := by
  have h := Lib.run_convert_string_bytes (P := Tryz.prog) w 9 41 5 (strB t) Tryz.underlying9 Tryz.underlying41 Tryz.underlying5
  have hsz : (strB t).size = t.length := by simp [strB, ByteArray.size]
  rw [hsz] at h
  have h2 := Lib.bytesWorld_size w 5 (strB t)
  refine ⟨_, _, h, ⟨_, _, rfl, grownCap_ge _ _ _ _, fun i hi => ⟨w.heap.size, 0, rfl, by omega, fun j u hu => ?_⟩⟩, ⟨rfl, ?_, rfl, by omega, fun j hj => Lib.bytesWorld_at_old w _ _ j hj⟩, by omega⟩
  · match j, hu with
    | 0, hu =>
      simp only [byteEnc, List.getElem?_cons_zero, Option.some.injEq] at hu
      subst hu
      have := Lib.bytesWorld_cell w 5 (strB t) i (by rw [hsz]; exact hi)
      rw [Nat.zero_add, Nat.mul_one, Nat.add_zero, this]
      simp [strB, List.getD, hi]
    | j + 1, hu => simp [byteEnc] at hu
  · rfl

set_option maxHeartbeats 1000000 in
set_option maxRecDepth 100000 in
theorem open_hold (l : List UInt8) (v : Value) (w : World) (hv : RdB w w.heap.size v l) (hl : l.length ≤ 140737488355328) : Calls Tryz.prog 76 #[v] w fun e w' => ∃ v', e = .returned (.tuple #[v', .int .i64 (openAns l).2]) ∧ HoldB w' w.heap.size v' (openAns l).1 ∧ Below w.heap.size w w' := by
  by_cases h4 : l.length < 4
  · obtain ⟨A, c, rfl, hc, _⟩ := hv.at
    rw [show openAns l = ([], 3) by rw [openAns, if_pos h4]]
    clear hv
    go_enter Tryz.func76, Tryz.ntmps76
    go_wp2_with fail
    go_ret2
    exact ⟨_, rfl, HoldB.nil _ _, Below.refl _ _⟩
  · obtain ⟨p, r, rfl, hp⟩ : ∃ p r, l = p ++ r ∧ p.length = 4 := ⟨l.take 4, l.drop 4, by simp, by simp; omega⟩
    have hah := ahead_any (p ++ r) (by omega) v w _ hv
    obtain ⟨A, c, rfl, hc, hi⟩ := hv.at
    obtain ⟨b, o, rfl, hbB, _⟩ := hi 0 (by simp [hp]; omega)
    clear hi
    obtain ⟨c', rfl⟩ : ∃ c', c = c' + 4 := ⟨c - 4, by simp [hp] at hc; omega⟩
    have hlen : (p ++ r).length = r.length + 4 := by simp [hp]; omega
    have htl := hv.tail hp c' (by simp [hp] at hc; omega)
    rw [show (p ++ r).take 4 = p by rw [← hp]; simp] at hah
    have hans : openAns (p ++ r) = if val p = sum r then (r, 0) else ([], 2) := by
      rw [openAns, if_neg h4, show (p ++ r).take 4 = p by rw [← hp]; simp, show (p ++ r).drop 4 = r by rw [← hp]; simp]
    rw [hans]
    rw [hlen] at hah hv hc hl ⊢
    clear hans hlen h4
    obtain ⟨x, hx⟩ : ∃ x, x = val p := ⟨_, rfl⟩
    rw [← hx] at hah ⊢
    clear hx
    have hcr : r.length ≤ c' := by omega
    have HA := Lib.hid hah; clear hah
    have HT := Lib.hid htl
    have HV := Lib.hid hv; clear hv
    obtain ⟨tp, htp⟩ : ∃ tp, tp = Value.slice (if c' = 0 then some ⟨b, o, none⟩ else some ⟨b, o + 4, none⟩) r.length c' := ⟨_, rfl⟩
    have hrt : RdB w w.heap.size tp r := by
      subst htp
      split
      · have : r = [] := List.eq_nil_of_length_eq_zero (by omega)
        subst this
        exact Rd.none_ _ _ _ _
      · exact HT.out
    have hsm := sum_any r tp w _ hrt (by omega)
    have HRT := Lib.hid hrt; clear hrt
    have HS := Lib.hid hsm; clear hsm
    have HX := Lib.hid htp
    clear htp HT
    by_cases hxs : x = sum r
    · rw [if_pos hxs]
      rw [← hxs] at HS
      clear hxs
      by_cases hc0 : c' = 0
      · have hr0 : r = [] := List.eq_nil_of_length_eq_zero (by omega)
        subst hc0 hr0
        have htp := HX.out
        simp only [if_true] at htp
        subst htp
        go_enter Tryz.func76, Tryz.ntmps76
        go_wp2_with fail
        refine HA.out.mono ?_
        rintro e w1 ⟨rfl, rfl⟩
        go_wp2_with fail
        refine HS.out.mono ?_
        rintro e w2 ⟨rfl, rfl⟩
        go_wp2_with (refine wpList_makeB rfl _ _ rfl 0 ?pa ?pb (by omega) ?pc)
        case pa => rfl
        case pb => rfl
        intro w3 hr3 hb3
        have hrt3 : RdB w3 w2.heap.size (.slice (some ⟨b, o, none⟩) 0 0) ([] : List UInt8) := HRT.out.below hb3 (Nat.le_refl _)
        have HR3 := Lib.hid hr3; clear hr3
        have HRT3 := Lib.hid hrt3; clear hrt3
        have HB3 := Lib.hid hb3; clear hb3
        go_wp2_with (with_reducible show wpList _ _ _ (⟨some 21, _, _, _, _, _⟩ :: _) _ _; go_must (refine wpList_copyB rfl (.tmp 19) (.tmp 20) rfl w2.heap.size 0 (some ⟨w2.heap.size, 0, none⟩) _ ([] : List UInt8) ([] : List UInt8) (.slice (some ⟨b, o, none⟩) 0 0) w2.heap.size rfl (fun _ => rfl) rfl HRT3.out HR3.out (by simp) w2.heap.size w2 HB3.out (Nat.le_refl _) ?pd))
        intro w4 hr4 hb4
        go_wp2_with fail
        go_ret2
        have hr5 : RowB w4 w2.heap.size ([] : List UInt8) := by simpa using hr4.out
        exact ⟨_, rfl, HoldB.ofOwn (hr5.own (Nat.le_refl _) (by simp [maxLen])), hb4⟩
      · have htp := HX.out
        rw [if_neg hc0] at htp
        subst htp
        go_enter Tryz.func76, Tryz.ntmps76
        go_wp2_with fail
        refine HA.out.mono ?_
        rintro e w1 ⟨rfl, rfl⟩
        go_wp2_with fail
        refine HS.out.mono ?_
        rintro e w2 ⟨rfl, rfl⟩
        go_wp2_with (refine wpList_makeB rfl _ _ rfl r.length ?qa ?qb (by omega) ?qc)
        case qa => rfl
        case qb => rfl
        intro w3 hr3 hb3
        have hrt3 : RdB w3 w2.heap.size (.slice (some ⟨b, o + 4, none⟩) r.length c') r := HRT.out.below hb3 (Nat.le_refl _)
        have HR3 := Lib.hid hr3; clear hr3
        have HRT3 := Lib.hid hrt3; clear hrt3
        have HB3 := Lib.hid hb3; clear hb3
        go_wp2_with (with_reducible show wpList _ _ _ (⟨some 21, _, _, _, _, _⟩ :: _) _ _; go_must (refine wpList_copyB rfl (.tmp 19) (.tmp 20) rfl w2.heap.size 0 (some ⟨w2.heap.size, 0, none⟩) _ (List.replicate r.length 0 : List UInt8) r (.slice (some ⟨b, o + 4, none⟩) r.length c') w2.heap.size rfl (fun _ => rfl) rfl HRT3.out HR3.out (by simp) w2.heap.size w2 HB3.out (Nat.le_refl _) ?qd))
        intro w4 hr4 hb4
        go_wp2_with fail
        go_ret2
        have hr5 : RowB w4 w2.heap.size r := by simpa using hr4.out
        exact ⟨_, rfl, HoldB.ofOwn (hr5.own (Nat.le_refl _) (by unfold maxLen; omega)), hb4⟩
    · rw [if_neg hxs]
      obtain ⟨y, hy⟩ : ∃ y, y = sum r := ⟨_, rfl⟩
      rw [← hy] at HS hxs
      clear hy
      by_cases hc0 : c' = 0
      · have hr0 : r = [] := List.eq_nil_of_length_eq_zero (by omega)
        subst hc0 hr0
        have htp := HX.out
        simp only [if_true] at htp
        subst htp
        go_enter Tryz.func76, Tryz.ntmps76
        go_wp2_with fail
        refine HA.out.mono ?_
        rintro e w1 ⟨rfl, rfl⟩
        go_wp2_with fail
        refine HS.out.mono ?_
        rintro e w2 ⟨rfl, rfl⟩
        go_wp2_with fail
        go_ret2
        exact ⟨_, rfl, HoldB.nil _ _, Below.refl _ _⟩
      · have htp := HX.out
        rw [if_neg hc0] at htp
        subst htp
        go_enter Tryz.func76, Tryz.ntmps76
        go_wp2_with fail
        refine HA.out.mono ?_
        rintro e w1 ⟨rfl, rfl⟩
        go_wp2_with fail
        refine HS.out.mono ?_
        rintro e w2 ⟨rfl, rfl⟩
        go_wp2_with fail
        go_ret2
        exact ⟨_, rfl, HoldB.nil _ _, Below.refl _ _⟩
end Go.Proofs.YtmigninibdecmaaGreat
namespace Go.Proofs.YtmigninibdecmaaGreat
open Go.RowKit

theorem readGo_none {f : Nat} {b : List UInt8} (h : oneAns b = none) : readGo f b = ([], 0) := by
  cases f with
  | zero => rfl
  | succ f => rw [readGo, h]
/-- how far the reading of l has come: the records, the bytes used -/
def ReadInv (l : List UInt8) (rs : List (List UInt8)) (u : Nat) : Prop :=
  ∃ f, f + rs.length = l.length ∧ rs.length ≤ u ∧ u ≤ l.length ∧ readAns l = (rs ++ (readGo f (l.drop u)).1, u + (readGo f (l.drop u)).2)
theorem ReadInv.start (l : List UInt8) : ReadInv l [] 0 := ⟨l.length, by simp, by simp, by simp, by simp [readAns]⟩
theorem ReadInv.stop {l : List UInt8} {rs : List (List UInt8)} {u : Nat} (h : ReadInv l rs u) (ho : oneAns (l.drop u) = none) : readAns l = (rs, u) := by
  obtain ⟨f, _, _, _, h⟩ := h
  rw [h, readGo_none ho]
  simp
theorem ReadInv.next {l : List UInt8} {rs : List (List UInt8)} {u : Nat} (h : ReadInv l rs u) {r : List UInt8} {n : Nat} (ho : oneAns (l.drop u) = some (r, n)) : ReadInv l (rs ++ [r]) (u + n) ∧ 0 < n ∧ r.length ≤ 65532 := by
  obtain ⟨f, h1, h2, h3, h4⟩ := h
  obtain ⟨hf, hn, s, hs⟩ := one_take ho
  have h5 := recB_ge r
  have hlen : n + s.length = l.length - u := by
    have := congrArg List.length hs
    rw [List.length_drop, List.length_append] at this
    omega
  match f, h1, h4 with
  | 0, h1, h4 => omega
  | f + 1, h1, h4 =>
    refine ⟨⟨f, by simp; omega, by simp; omega, by omega, ?_⟩, by omega, hf⟩
    rw [h4, readGo, ho]
    simp only [List.drop_drop, Prod.mk.injEq]
    exact ⟨by simp, by omega⟩
theorem ReadInv.len {l : List UInt8} {rs : List (List UInt8)} {u : Nat} (h : ReadInv l rs u) : rs.length ≤ l.length ∧ u ≤ l.length := by
  obtain ⟨f, h1, h2, h3, h4⟩ := h
  omega

set_option maxHeartbeats 8000000 in
set_option maxRecDepth 100000 in
theorem pread_any (l : List UInt8) (A : Option Addr) (c : Nat) (w : World) (hv : RdB w w.heap.size (.slice A l.length c) l) (hl : l.length ≤ 2000000) :
    Calls Tryz.prog 48 #[.slice A l.length c] w fun e w' => ∃ A' c' n, e = .returned (.tuple #[.slice A' n c', .int .i64 ((readAns l).2 : Int)]) ∧ ∃ rows, n = rows.length ∧ OwnR w' w.heap.size (.slice A' n c') rows ∧ HoldRs w' w.heap.size rows ∧ texts rows = (readAns l).1 ∧ Below w.heap.size w w' := by
  have hcl : l.length ≤ c := by obtain ⟨A0, c0, e, h, _⟩ := hv; injection e with _ _ e; rw [e]; exact h
  have HV := Lib.hid hv; clear hv
  obtain ⟨R, hR⟩ : ∃ R, R = readAns l := ⟨_, rfl⟩
  rw [← hR]
  have HR := Lib.hid hR; clear hR
  go_enter Tryz.func48, Tryz.ntmps48
  go_wp2_with fail
  go_loopw [2, 3] (fun ov uv wr => ∃ (u : Nat) (A' : Option Addr) (c' n : Nat) (rows : List Row), u ≤ l.length ∧ uv = .int .i64 (u : Int) ∧ ov = .slice A' n c' ∧ n = rows.length ∧ OwnR wr w.heap.size (.slice A' n c') rows ∧ HoldRs wr w.heap.size rows ∧ ReadInv l (texts rows) u ∧ Below w.heap.size w wr) (fun _ uv _ => l.length - (intOf uv).toNat)
  case atStart => exact ⟨0, _, _, 0, [], Nat.zero_le _, rfl, rfl, rfl, Own.nil _ _, HoldRs.nil _ _, ReadInv.start l, Below.refl _ _⟩
  case round =>
    obtain ⟨u, A', c', n, rows, hu, rfl, rfl, hn, ho, hh, hi, hb⟩ := hrel
    have hbs := hb.size
    have HO := Lib.hid ho
    have HH := Lib.hid hh
    have HI := Lib.hid hi
    have HB := Lib.hid hb
    have HN := Lib.hid hn
    clear ho hh hi hb hn
    by_cases hend : l.length = u
    · have hone : oneAns (l.drop u) = none := by rw [List.drop_eq_nil_of_le (by omega)]; exact one_nil
      have HK := Lib.hid (HR.out.trans (HI.out.stop hone))
      clear hone
      subst hend
      have HTX := Lib.hid (fun (A2 : Option Addr) (c2 : Nat) => text_any [] (.slice A2 0 c2) wr (Rd.none_ _ _ _ _) (by simp))
      by_cases hcu : c = l.length
      · subst hcu
        go_wp2_with fail
        refine (HTX.out _ _).mono ?_
        rintro e w1 ⟨rfl, hb1⟩
        have ht : textVal (textAns []) = .tuple #[.string (strB []), .int .i64 0, .int .i64 3] := rfl
        rw [ht]
        have HO1 := Lib.hid (HO.out.below hb1 (Nat.le_refl _))
        have HH1 := Lib.hid (HH.out.below hb1 (Nat.le_refl _))
        have HB1 := Lib.hid (HB.out.trans (hb1.mono hbs))
        clear hb1 ht
        go_wp2_with fail
        go_ret2
        exact ⟨A', c', n, by rw [HK.out]; rfl, rows, HN.out, HO1.out, HH1.out, by rw [HK.out], HB1.out⟩
      · go_wp2_with fail
        refine (HTX.out _ _).mono ?_
        rintro e w1 ⟨rfl, hb1⟩
        have ht : textVal (textAns []) = .tuple #[.string (strB []), .int .i64 0, .int .i64 3] := rfl
        rw [ht]
        have HO1 := Lib.hid (HO.out.below hb1 (Nat.le_refl _))
        have HH1 := Lib.hid (HH.out.below hb1 (Nat.le_refl _))
        have HB1 := Lib.hid (HB.out.trans (hb1.mono hbs))
        clear hb1 ht
        go_wp2_with fail
        go_ret2
        exact ⟨A', c', n, by rw [HK.out]; rfl, rows, HN.out, HO1.out, HH1.out, by rw [HK.out], HB1.out⟩
    · have hul : u < l.length := by omega
      have hcu : ¬ c = u := by omega
      have hcu2 : u ≤ c := by omega
      obtain ⟨b, o, hA⟩ : ∃ b o, A = some ⟨b, o, none⟩ := by
        obtain ⟨A0, c0, e, _, hi⟩ := HV.out.at
        injection e with e _ _
        subst e
        obtain ⟨b, o, h, _⟩ := hi 0 (by omega)
        exact ⟨b, o, h⟩
      subst hA
      have hrd : RdB wr wr.heap.size (.slice (some ⟨b, o + u, none⟩) (l.length - u) (c - u)) (l.drop u) :=
        (Rd.drop (k := 1) (HV.out.below HB.out (Nat.le_refl _)) u (c - u) hu (by omega) (some ⟨b, o + u, none⟩) (fun _ => by simp [Addr.add])).mono hbs
      have htx := text_any (l.drop u) _ wr hrd (by simp; omega)
      obtain ⟨T, hT⟩ : ∃ T, T = textAns (l.drop u) := ⟨_, rfl⟩
      rw [← hT] at htx
      have HTX := Lib.hid htx
      have HT := Lib.hid hT
      clear hrd htx hT
      obtain ⟨s, m, e⟩ := T
      simp only [textVal] at HTX
      go_wp2_with fail
      refine HTX.out.mono ?_
      rintro e' w1 ⟨rfl, hb1⟩
      have HO1 := Lib.hid (HO.out.below hb1 (Nat.le_refl _))
      have HH1 := Lib.hid (HH.out.below hb1 (Nat.le_refl _))
      have HB1 := Lib.hid (HB.out.trans (hb1.mono hbs))
      have hbs1 := HB1.out.size
      clear hb1 HTX
      by_cases he : e = 0
      · subst he
        have hm : m ≤ l.length := by
          have h := HT.out
          unfold textAns at h
          rcases hx : numAns (l.drop u) with ⟨x1, x2, x3⟩
          rw [hx] at h
          simp only at h
          split at h
          · simp only [Prod.mk.injEq] at h; omega
          · split at h
            · simp only [Prod.mk.injEq] at h; omega
            · split at h
              · simp only [Prod.mk.injEq] at h; omega
              · rename_i h5 h6 h7
                simp only [Prod.mk.injEq] at h
                obtain ⟨h8, _, _, sx, h9⟩ := numAns_once (show numAns (l.drop u) = (x1, x2, 0) by rw [hx]; simp; omega)
                have h10 : (l.drop u).length = l.length - u := by simp
                have h11 := congrArg List.length h9
                rw [List.length_append, ← h8] at h11
                omega
        have hsl : s.length ≤ 140737488355328 := by
          have h := HT.out
          unfold textAns at h
          split at h
          · simp only [Prod.mk.injEq] at h; rw [h.1]; simp
          · split at h
            · simp only [Prod.mk.injEq] at h; rw [h.1]; simp
            · split at h
              · simp only [Prod.mk.injEq] at h; rw [h.1]; simp
              · simp only [Prod.mk.injEq] at h; rw [h.1]; simp; omega
        obtain ⟨c2, w2, hkc, hr2, hb2, hlt2⟩ := convH_any w1 s
        have HO2 := Lib.hid (HO1.out.below hb2 (Nat.le_refl _))
        have HH2 := Lib.hid (HH1.out.below hb2 (Nat.le_refl _))
        have HB2 := Lib.hid (HB1.out.trans (hb2.mono hbs1))
        have hbs2 := HB2.out.size
        have HOP := Lib.hid (open_hold s _ w2 hr2 hsl)
        have hov := HOP
        clear hr2 hb2 hsl hov
        go_wp2_with fail
        refine HOP.out.mono ?_
        rintro e' w3 ⟨v3, rfl, hho, hb3⟩
        have HO3 := Lib.hid (HO2.out.below hb3 (Nat.le_refl _))
        have HH3 := Lib.hid (HH2.out.below hb3 (Nat.le_refl _))
        have HB3 := Lib.hid (HB2.out.trans (hb3.mono hbs2))
        have hho3 := hho.lower hbs2
        have hbs3 := HB3.out.size
        have hone : oneAns (l.drop u) = if (openAns s).2 = 0 then some ((openAns s).1, m) else none := by
          unfold oneAns
          rw [← HT.out]
          simp
        have HONE := Lib.hid hone
        clear hb3 hho hone hkc HOP
        obtain ⟨X, hX⟩ : ∃ X, X = openAns s := ⟨_, rfl⟩
        rw [← hX] at hho3 HONE ⊢
        clear hX
        obtain ⟨x, y⟩ := X
        simp only at hho3 HONE ⊢
        have HHO3 := Lib.hid hho3; clear hho3
        by_cases hy : y = 0
        · subst hy
          rw [if_pos rfl] at HONE
          obtain ⟨hnx, hm0, hx6⟩ := HI.out.next HONE.out
          have hle := hnx.len
          have hnl : rows.length + 1 ≤ 9000000000000 := by have := HI.out.len.1; simp [texts] at this; omega
          have HNX := Lib.hid hnx
          clear hnx
          obtain ⟨A1, c1, hv3⟩ : ∃ A1 c1, v3 = .slice A1 x.length c1 := by
            rcases HHO3.out.form with ⟨h1, h2⟩ | ⟨g, cap, h1, _⟩
            · exact ⟨none, 0, by rw [h1, h2]; rfl⟩
            · exact ⟨_, _, h1⟩
          subst hv3
          obtain ⟨w4, hw4⟩ : ∃ w4, w4 = w3.alloc (.cells #[.slice A1 x.length c1] 41) := ⟨_, rfl⟩
          have hone : Rd encR 1 w4 (w3.heap.size + 1) (.slice (some ⟨w3.heap.size, 0, none⟩) 1 1) [⟨A1, c1, x⟩] := by rw [hw4]; exact RdR.one w3 ⟨A1, c1, x⟩
          have hB4 : Below w3.heap.size w3 w4 := by rw [hw4]; exact (Below.refl _ w3).alloc (Nat.le_refl _) _
          have HO4 := Lib.hid (HO3.out.below hB4 (Nat.le_refl _))
          have HH4 := Lib.hid (HH3.out.below hB4 (Nat.le_refl _))
          have HHO4 := Lib.hid (HHO3.out.below hB4 (Nat.le_refl _))
          have HB4 := Lib.hid (HB3.out.trans (hB4.mono hbs3))
          have HON := Lib.hid hone
          have HW4 := Lib.hid hw4
          clear hone hB4 hw4
          go_wp2_with (at_builtin; go_must (refine wpList_addR rfl _ _ rfl w.heap.size (.slice A' n c') rows rfl ?x1 (w3.heap.size + 1) _ [⟨A1, c1, x⟩] rfl ?x2 (by show _ + 1 ≤ _; exact hnl) ?x3 ?_))
          case x1 => rw [← HW4.out]; exact HO4.out
          case x2 => rw [← HW4.out]; exact HON.out
          case x3 => have := HB4.out.size; rw [HW4.out] at this; exact this
          rw [← HW4.out]
          intro A5 c5 w5 ho5 hg5
          have HO5 := Lib.hid ho5.out
          have HH5 := Lib.hid ((HH4.out.append (show HoldRs w4 w.heap.size [⟨A1, c1, x⟩] from fun r hr => by rw [List.mem_singleton.1 hr]; exact HHO4.out)).grown HO4.out hg5.out)
          have HB5 := Lib.hid (HO4.out.grown HB4.out hg5.out (Nat.le_refl _) HB4.out.size)
          have ht5 : texts (rows ++ [⟨A1, c1, x⟩]) = texts rows ++ [x] := texts_append _ _
          have HT5 := Lib.hid ht5
          clear ho5 hg5 ht5
          obtain ⟨n5, hn5⟩ : ∃ n5, n5 = rows.length + 1 := ⟨_, rfl⟩
          rw [← hn5] at HO5 ⊢
          have HN5 := Lib.hid (show n5 = (rows ++ [(⟨A1, c1, x⟩ : Row)]).length by rw [hn5]; simp); clear hn5
          have hw5 : IntKind.i64.wrap ((u : Int) + (m : Int)) = (u : Int) + (m : Int) := by rw [IntKind.wrap_i64]; omega
          go_wp2_with fail
          go_roundw
          case rel => exact ⟨u + m, A5, c5, n5, _, hle.2, by go_num, rfl, HN5.out, HO5.out, HH5.out, by rw [HT5.out]; exact HNX.out, HB5.out⟩
          case measure => simp [intOf]; omega
        · rw [if_neg hy] at HONE
          have HK := Lib.hid (HR.out.trans (HI.out.stop HONE.out))
          go_wp2_with fail
          go_ret2
          exact ⟨A', c', n, by rw [HK.out]; rfl, rows, HN.out, HO3.out, HH3.out, by rw [HK.out], HB3.out⟩
      · have hone : oneAns (l.drop u) = none := one_err (by rw [← HT.out]; exact he)
        have HK := Lib.hid (HR.out.trans (HI.out.stop hone))
        clear hone
        have he2 : ¬ (e : Int) = 0 := by omega
        go_wp2_with fail
        go_ret2
        exact ⟨A', c', n, by rw [HK.out]; rfl, rows, HN.out, HO1.out, HH1.out, by rw [HK.out], HB1.out⟩
end Go.Proofs.YtmigninibdecmaaGreat
namespace Go.Proofs.YtmigninibdecmaaGreat
open Go.RowKit

set_option maxRecDepth 100000 in
/-- a new book over a tape, its records in blocks of its own -/
theorem BkAt.made {w w3 : World} {base p n c m : Nat} {ov ov3 : Option Nat} {t0 t : Tp} {A : Option Addr} {rows : List Row} (h0 : TapeAt w base p ov t0) (hs : w.heap.size ≤ w3.heap.size) (ht : TapeAt w3 base p ov3 t) (hn : n = rows.length)
    (ho : OwnR w3 w.heap.size (.slice A n c) rows) (hh : HoldRs w3 w.heap.size rows) (hf : ∀ r ∈ rows, r.l.length ≤ 140737488351232) (hd : ∀ r ∈ rows, ∀ g, r.v.ownBlock = some g → ov3 ≠ some g) (hov : ∀ g, ov3 = some g → ov = some g ∨ w.heap.size ≤ g) (hm : m = w3.heap.size) :
    ∃ G, BkAt (w3.alloc (.cells #[.pointer (some ⟨p, 0, none⟩), .slice A n c, .bool false] 102)) base m p G ⟨texts rows, false, t⟩ ∧ (∀ i, G i → TapeD p ov i ∨ w.heap.size ≤ i) := by
  subst hm
  have hb := h0.low
  refine ⟨fun i => TapeD p ov i ∨ (w.heap.size ≤ i ∧ i < w3.heap.size + 1), ⟨ov3, A, c, n, rows, Whole.fresh w3 102 [_, _, _], hn, ?_, ?_, rfl, hf, ?_, hd, .inr ⟨hs, Nat.lt_succ_self _⟩, .inl (.inl rfl), ?_, ?_, ?_, ?_, ?_⟩, ?_⟩
  · exact (ho.alloc _).lower hb.2.2
  · exact (hh.mv ((Mv.refl (fun _ => False) w3).alloc _) (fun _ _ _ _ h => h)).lower hb.2.2
  · exact ht.mv ((Mv.refl (fun _ => False) w3).alloc _) (fun h => h) (fun _ _ h => h)
  · intro g hg
    rcases hov g hg with h | h
    · exact .inl (.inr h.symm)
    · exact .inr ⟨h, Nat.lt_succ_of_lt (ht.row hg).2⟩
  · intro g hg
    exact .inr ⟨(ho.low hg).1, Nat.lt_succ_of_lt (ho.low hg).2⟩
  · intro r hr g hg
    exact .inr ⟨((hh r hr).low hg).1, Nat.lt_succ_of_lt ((hh r hr).low hg).2⟩
  · simp; omega
  · rintro i ((rfl | h) | h)
    · exact ⟨hb.1, by simp; omega⟩
    · have := h0.row h.symm
      exact ⟨this.1, by simp; omega⟩
    · exact ⟨by omega, by simpa using h.2⟩
  · rintro i (h | h)
    · exact .inl h
    · exact .inr h.1

set_option maxHeartbeats 8000000 in
set_option maxRecDepth 100000 in
theorem bopen_any (base p : Nat) (ov : Option Nat) (t : Tp) (w : World) (h : TapeAt w base p ov t) (h0 : (Bks.opens t).1 = 0) :
    Calls Tryz.prog 20 #[.pointer (some ⟨p, 0, none⟩)] w fun e w' => ∃ q G, e = .returned (.tuple #[.pointer (some ⟨q, 0, none⟩), .int .i64 0]) ∧ BkAt w' base q p G (Bks.opens t).2 ∧ (∀ i, G i → TapeD p ov i ∨ w.heap.size ≤ i) ∧ Mv (TapeD p ov) w w' := by
  have hd : t.down = false := by
    cases hd : t.down with
    | false => rfl
    | true => unfold Bks.opens at h0; rw [if_pos hd] at h0; cases h0
  have hby := bytes_any base p ov t w h
  simp only [hd, Bool.false_eq_true, if_false] at hby
  have hok := h.ok
  obtain ⟨L, hL⟩ : ∃ L, L = Bks.all t := ⟨_, rfl⟩
  have hLl : L.length ≤ 2000000 := by
    obtain ⟨k1, k2, k3⟩ := hok
    rw [hL]; unfold Bks.all; rw [List.length_append]; omega
  have hop : Bks.opens t = if (readAns L).2 < L.length then (if (t.repl (L.take (readAns L).2)).1 ≠ 0 then ((t.repl (L.take (readAns L).2)).1, ⟨[], false, (t.repl (L.take (readAns L).2)).2⟩) else (0, ⟨(readAns L).1, false, (t.repl (L.take (readAns L).2)).2⟩)) else (0, ⟨(readAns L).1, false, t⟩) := by
    unfold Bks.opens
    rw [if_neg (by rw [hd]; decide), hL]
  rw [show t.sure ++ t.loose = L from hL.symm] at hby
  rw [hop] at h0
  obtain ⟨OP, hOP⟩ : ∃ OP, OP = Bks.opens t := ⟨_, rfl⟩
  rw [← hOP]
  rw [hop] at hOP
  have hfit := (read_take L).1
  have hle : (readAns L).2 ≤ L.length := by
    obtain ⟨_, h2, s, h3, _⟩ := read_take L
    have := congrArg List.length h3
    rw [List.length_append] at this
    omega
  have H := Lib.hid h
  have HBY := Lib.hid hby
  clear hby hok hL hop h hd
  obtain ⟨RL, hRL⟩ : ∃ RL, RL = (readAns L).1 := ⟨_, rfl⟩
  obtain ⟨u, hu⟩ : ∃ u, u = (readAns L).2 := ⟨_, rfl⟩
  rw [← hRL, ← hu] at h0 hOP
  rw [← hRL] at hfit
  rw [← hu] at hle
  have HRL := Lib.hid hRL
  have HU := Lib.hid hu
  have HFIT := Lib.hid hfit
  have H0 := Lib.hid h0
  have HOP := Lib.hid hOP
  clear hRL hu hfit h0 hOP
  go_enter Tryz.func20, Tryz.ntmps20
  go_wp2_with fail
  refine HBY.out.mono ?_
  rintro e w1 ⟨A, c, rfl, ho1, hb1⟩
  have HO1 := Lib.hid (HoldB.ofOwn ho1)
  have HP := Lib.hid (pread_any L A c w1 ho1.rdB hLl)
  have HB1 := Lib.hid hb1
  have hbs1 := hb1.size
  have hcl : L.length ≤ c := by
    obtain ⟨A0, c0, e, h, _⟩ := ho1.rdB
    injection e with _ _ e
    rw [e]; exact h
  clear ho1 hb1 HBY
  go_wp2_with fail
  refine HP.out.mono ?_
  rintro e w2 ⟨A', c', n, rfl, rows, hn, ho2, hh2, ht2, hb2⟩
  rw [← HU.out]
  rw [← HRL.out] at ht2
  have HO2 := Lib.hid (ho2.lower hbs1)
  have HH2 := Lib.hid (hh2.lower hbs1)
  have HB2 := Lib.hid (HB1.out.trans (hb2.mono hbs1))
  have HO12 := Lib.hid (HO1.out.below hb2 (Nat.le_refl _))
  have HT2 := Lib.hid ht2
  have HN := Lib.hid hn
  have hbs2 := HB2.out.size
  have htp : TapeAt w2 base p ov t := H.out.mv (Mv.of_new HB2.out (fun _ => False)) (fun h => h) (fun _ _ h => h)
  have HTP := Lib.hid htp
  have hlen : ∀ r ∈ rows, r.l.length ≤ 140737488351232 := by
    intro r hr
    have := HFIT.out r.l (by rw [← HT2.out]; exact List.mem_map.2 ⟨r, hr, rfl⟩)
    unfold fitR at this
    omega
  have HLEN := Lib.hid hlen
  clear ho2 hh2 hb2 ht2 hn htp HP hlen
  by_cases hlt : u < L.length
  · have hlt2 : (u : Int) < (L.length : Int) := by omega
    have h0 := H0.out
    have hop := HOP.out
    rw [if_pos hlt] at h0 hop
    have hr0 : (t.repl (L.take u)).1 = 0 := by
      by_cases h : (t.repl (L.take u)).1 = 0
      · exact h
      · rw [if_pos h] at h0; exact absurd h0 h
    rw [if_neg (by rw [hr0]; decide)] at hop
    have HOP2 := Lib.hid hop; clear hop
    have hrep := repl_any base p ov t (.slice A u c) (L.take u) w2 HTP.out (fun wx hmx => by
      have hx := HO12.out.mv hmx (fun g hg hd => by
        have h1 := (HO12.out.low hg).1
        rcases hd with hd | hd
        · have := H.out.low; omega
        · have := (H.out.row hd.symm).2; omega)
      exact Rd.take (k := 1) hx.rdB u hle) (by simp; omega)
    rw [hr0] at hrep
    have HREP := Lib.hid hrep
    have huc : (u : Int) ≤ (c : Int) := by omega
    clear hrep hr0 h0
    go_wp2_with fail
    refine HREP.out.mono ?_
    rintro e w3 ⟨rfl, ov3, hnow, hmv, hnew⟩
    have hbs3 := hmv.size
    have hDr : ∀ g, w.heap.size ≤ g → ¬ TapeD p ov g := by
      rintro g hg (hd | hd)
      · have := H.out.low; omega
      · have := (H.out.row hd.symm).2; omega
    have HMV := Lib.hid hmv
    have HNEW := Lib.hid hnew
    have HNOW := Lib.hid hnow
    have HD := Lib.hid hDr
    clear hnow hmv hnew hDr HREP
    go_wp2_with fail
    go_ret2
    obtain ⟨G, hG1, hG2⟩ := BkAt.made (m := w3.heap.size) H.out (Nat.le_trans hbs2 hbs3) HNOW.out HN.out (OwnR.mv HO2.out HMV.out (fun g hg => HD.out g (HO2.out.low hg).1)) (HH2.out.mv HMV.out (fun r hr g hg => HD.out g ((HH2.out r hr).low hg).1)) HLEN.out
      (fun r hr g hg => HNEW.out.out ((HH2.out r hr).low hg).2 (fun e => by have := (H.out.row e).2; have := ((HH2.out r hr).low hg).1; omega)) (fun g hg => by rcases HNEW.out g hg with h | h; exact .inl h; exact .inr (Nat.le_trans hbs2 h)) rfl
    refine ⟨w3.heap.size, G, rfl, ?_, hG2, ((Mv.of_new HB2.out _).trans HMV.out (fun _ _ h => h)).alloc _⟩
    rw [HOP2.out, ← HT2.out]
    exact hG1
  · have hlt2 : ¬ (u : Int) < (L.length : Int) := by omega
    have hop := HOP.out
    rw [if_neg hlt] at hop
    have HOP2 := Lib.hid hop; clear hop
    go_wp2_with fail
    go_ret2
    obtain ⟨G, hG1, hG2⟩ := BkAt.made (m := w2.heap.size) H.out hbs2 HTP.out HN.out HO2.out HH2.out HLEN.out (fun r hr g hg e => by have := (H.out.row e).2; have := ((HH2.out r hr).low hg).1; omega) (fun g hg => .inl hg) rfl
    refine ⟨w2.heap.size, G, rfl, ?_, hG2, (Mv.of_new HB2.out _).alloc _⟩
    rw [HOP2.out, ← HT2.out]
    exact hG1

set_option maxHeartbeats 1000000 in
set_option maxRecDepth 100000 in
theorem nbytes (w : World) : Calls Tryz.prog 47 #[.pointer none] w fun e w' => e = .returned (.tuple #[.slice none 0 0, .int .i64 1]) ∧ w' = w := by
  go_enter Tryz.func47, Tryz.ntmps47
  go_wp2_with fail
  go_ret2
  exact ⟨rfl, rfl⟩
set_option maxHeartbeats 1000000 in
set_option maxRecDepth 100000 in
theorem bnone_open (w : World) : Calls Tryz.prog 20 #[.pointer none] w fun e w' => e = .returned (.tuple #[.pointer none, .int .i64 1]) ∧ Below w.heap.size w w' := by
  have HN := Lib.hid (nbytes w)
  go_enter Tryz.func20, Tryz.ntmps20
  go_wp2_with fail
  refine HN.out.mono ?_
  rintro e w1 ⟨rfl, rfl⟩
  go_wp2_with fail
  go_ret2
  exact ⟨rfl, Below.refl _ _⟩
end Go.Proofs.YtmigninibdecmaaGreat

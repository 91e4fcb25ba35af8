/- The council's Open. A region with a post of its own: what it leaves is said once, whatever order its operations come in. The council's Prepare. -/
import Derived.Test.YthoheikbpihflaaFam
import Derived.Test.YthoheikbpihflaaFad
namespace Go.Proofs.Ythoheikbpihflaa
open Go.RowKit
attribute [local go_sem] less_eq same_eq le_eq ge_eq gt_eq

theorem texts_one {rows : List Row} {x : List UInt8} (h : texts rows = [x]) : ∃ r, rows = [r] ∧ r.l = x := by
  cases rows with
  | nil => simp [texts] at h
  | cons r t =>
    simp [texts] at h
    exact ⟨r, by rw [h.2], h.1⟩
set_option maxHeartbeats 2000000 in
set_option maxRecDepth 100000 in
theorem cnone_open (w : World) : Calls Try.prog 7 #[.pointer none] w fun e w' => e = .returned (.tuple #[.pointer none, .int .i64 1]) ∧ Below w.heap.size w w' := by
  go_enter Try.func7, Try.ntmps7
  go_wp2_with fail
  refine (bnone_open w).mono ?_
  rintro e w1 ⟨rfl, hb⟩
  have HB := Lib.hid hb
  clear hb
  go_wp2_with fail
  go_ret2
  exact ⟨rfl, HB.out⟩
set_option maxHeartbeats 8000000 in
set_option maxRecDepth 100000 in
theorem copen_any (base p : Nat) (ov : Option Nat) (c : Co) (w : World) (h : TapeAt w base p ov c.t) (hok : c.Ok) (hd : c.dead = false) :
    Calls Try.prog 7 #[.pointer (some ⟨p, 0, none⟩)] w fun e w' => ∃ q G, e = .returned (.tuple #[.pointer (some ⟨q, 0, none⟩), .int .i64 0]) ∧ CoAt w' base q p G c ∧ (∀ i, G i → TapeD p ov i ∨ w.heap.size ≤ i) ∧ Mv (TapeD p ov) w w' := by
  have hop := bopen_any base p ov c.t w h (by rw [Co.opens_t hok hd])
  rw [Co.opens_t hok hd] at hop
  simp only at hop
  have htl : ∀ i, TapeD p ov i → base ≤ i ∧ i < w.heap.size := by
    rintro i (rfl | hi)
    · exact ⟨h.low.1, h.low.2.1⟩
    · exact h.row hi.symm
  have hbs := h.low.2.2
  have HOP := Lib.hid hop
  have HOK := Lib.hid hok
  have HD := Lib.hid hd
  have HTL := Lib.hid htl
  clear hop htl h hok hd
  go_enter Try.func7, Try.ntmps7
  go_wp2_with fail
  refine HOP.out.mono ?_
  rintro e w1 ⟨qb, Gb, rfl, hbk, hGb, hm1⟩
  obtain ⟨w2, hw2⟩ : ∃ w2, w2 = w1.alloc (.cells #[.pointer (some ⟨qb, 0, none⟩), .int .i64 0, .int .i64 0, .int .i64 0, .int .i64 0, .int .i64 0, .int .i64 0, .int .i64 0, .slice none 0 0, .bool false] 63) := ⟨_, rfl⟩
  have hb2 : Below w1.heap.size w1 w2 := by rw [hw2]; exact (Below.refl _ w1).alloc (Nat.le_refl _) _
  have hs2 : w2.heap.size = w1.heap.size + 1 := by rw [hw2]; simp
  have hq2 : Whole w2 w1.heap.size 63 [.pointer (some ⟨qb, 0, none⟩), .int .i64 0, .int .i64 0, .int .i64 0, .int .i64 0, .int .i64 0, .int .i64 0, .int .i64 0, .slice none 0 0, .bool false] := by rw [hw2]; exact Whole.fresh w1 _ [_, _, _, _, _, _, _, _, _, _]
  have hbk2 := hbk.mv (Mv.of_new hb2 (fun _ => False)) (fun _ _ h => h)
  have hbl : c.b.l.length ≤ 4000000 := by show c.l.length ≤ _; unfold Co.l; split <;> simp
  have hrec := brec_any base qb p Gb c.b w2 hbk2 hbl
  have HR := Lib.hid hrec
  have HBK2 := Lib.hid hbk2
  have HQ2 := Lib.hid hq2
  have HB2 := Lib.hid hb2
  have HGB := Lib.hid hGb
  have HM1 := Lib.hid hm1
  have HGL := Lib.hid (show ∀ i, Gb i → i < w1.heap.size from fun i hi => (hbk.low.2 i hi).2)
  have hs1 : w.heap.size ≤ w1.heap.size := hm1.size
  clear hbk hGb hm1 hbk2 hq2 hb2 hrec hbl HOP
  go_wp2_with fail
  rw [← hw2]
  clear hw2
  refine HR.out.mono ?_
  rintro e w3 ⟨Ar, cr, rows, rfl, hrs, htx, hb3⟩
  have hq3 := HQ2.out.below hb3 HQ2.out.size
  have hbk3 := HBK2.out.mv (Mv.of_new hb3 (fun _ => False)) (fun _ _ h => h)
  have hmt3 : Mv (TapeD p ov) w w3 := (HM1.out.trans (Mv.of_new HB2.out (TapeD p ov)) (fun i _ hi => hi)).trans (Mv.of_new hb3 (TapeD p ov)) (fun i _ hi => hi)
  have hs3 : w2.heap.size ≤ w3.heap.size := hb3.size
  have HQ3 := Lib.hid hq3
  have HBK3 := Lib.hid hbk3
  have HMT3 := Lib.hid hmt3
  have HRS := Lib.hid hrs
  clear hq3 hbk3 hmt3 hrs hb3 HR HBK2 HQ2 HB2 HM1
  change texts rows = c.l at htx
  unfold Co.l at htx
  by_cases hput : c.put = true
  case neg =>
    have hpf : c.put = false := by simpa using hput
    rw [hpf] at htx
    have hrl : rows.length = 0 := by have := congrArg List.length htx; simpa [texts] using this
    have hv0 := HOK.out.none hpf
    have HV0 := Lib.hid hv0
    clear htx hput hpf hv0
    rw [hrl]
    clear hrl
    go_wp2_with fail
    go_ret2
    refine ⟨w1.heap.size, fun i => i = w1.heap.size ∨ Gb i, rfl, ⟨qb, Gb, none, 0, ?_, HBK3.out, ?_, HOK.out, fun hg => by have := HGL.out _ hg; omega, fun g hg => ?_, .inl rfl, fun i hi => .inr hi, fun g hg => ?_, ?_⟩, ?_, HMT3.out⟩
    · rw [HV0.out, HD.out]; exact HQ3.out
    · rw [HV0.out]; exact Own.nil _ _
    · rw [HV0.out] at hg; simp [Value.ownBlock] at hg
    · rw [HV0.out] at hg; simp [Value.ownBlock] at hg
    · refine ⟨by omega, ?_⟩
      rintro i (hi | hi)
      · rw [hi]; exact ⟨by omega, by omega⟩
      · have := HBK3.out.low.2 i hi; exact this
    · rintro i (hi | hi)
      · rw [hi]; exact .inr hs1
      · exact HGB.out i hi
  rw [hput] at htx
  simp only [if_true] at htx
  obtain ⟨r, rfl, hrr⟩ := texts_one htx
  obtain ⟨ra, rc, rl⟩ := r
  simp only at hrr
  subst hrr
  have hdec := dec_encV HOK.out.sound HOK.out.fits
  have hrow : RdB w3 w3.heap.size (.slice ra (vowB c.v).length rc) (vowB c.v) := (HRS.out.row 0 (by simp)).rdB
  have hln := vowB_len HOK.out.sound HOK.out.fits
  have hde := vdecodeO_any (vowB c.v) (.slice ra (vowB c.v).length rc) w3 hrow (by omega)
  rw [hdec] at hde
  unfold vwv at hde
  simp only at hde
  obtain ⟨⟨A', c', ev, hc', hi⟩, -⟩ := HRS.out
  injection ev with ev1 _ ev3
  subst ev1 ev3
  obtain ⟨b, o, rfl, hbb, -, k0⟩ := hi 0 (by simp)
  simp only [List.getElem_cons_zero, Nat.add_zero, Row.v] at k0
  have HDE := Lib.hid hde
  simp only [List.length_cons, List.length_nil, Nat.zero_add]
  clear hdec hrow hln hde hi hc' hput htx HRS
  go_wp2_with fail
  refine HDE.out.mono ?_
  rintro e w4 ⟨v4, rfl, ho4, hb4⟩
  obtain ⟨B, m, rfl, -, -⟩ := (OwnI.rdI ho4).at
  have hs4 : w3.heap.size ≤ w4.heap.size := hb4.size
  have hq4 := HQ3.out.below hb4 HQ3.out.size
  have HQ4 := Lib.hid hq4
  have HBK4 := Lib.hid (HBK3.out.mv (Mv.of_new hb4 (fun _ => False)) (fun _ _ h => h))
  have HMT4 := Lib.hid (HMT3.out.trans (Mv.of_new hb4 (TapeD p ov)) (fun i _ hi => hi))
  have HO4 := Lib.hid ho4
  have hlt4 : w1.heap.size < w4.heap.size := HQ4.out.size
  have y1 := HQ4.out.cell 1 _ rfl
  have y2 := HQ4.out.cell 2 _ rfl
  have y3 := HQ4.out.cell 3 _ rfl
  have y4 := HQ4.out.cell 4 _ rfl
  have y5 := HQ4.out.cell 5 _ rfl
  have y6 := HQ4.out.cell 6 _ rfl
  have y7 := HQ4.out.cell 7 _ rfl
  have y8 := HQ4.out.cell 8 _ rfl
  have f1 := HQ4.out.frozen 1
  have f2 := HQ4.out.frozen 2
  have f3 := HQ4.out.frozen 3
  have f4 := HQ4.out.frozen 4
  have f5 := HQ4.out.frozen 5
  have f6 := HQ4.out.frozen 6
  have f7 := HQ4.out.frozen 7
  have f8 := HQ4.out.frozen 8
  clear hq4 hb4 k0 hbb ho4
  go_wp2_with fail
  go_ret2
  have hm5 := (((((((((Mv.refl (fun i => i = w1.heap.size) w4).one 1 (.int .i64 c.v.prom.1)).one 2 (.int .i64 c.v.prom.2)).one 3 (.int .i64 c.v.at'.1)).one 4 (.int .i64 c.v.at'.2)).one 5 (.int .i64 c.v.took.gen)).one 6 (.int .i64 c.v.took.epoch)).one 7 (.int .i64 c.v.took.recd)).one 8 (.slice B c.v.took.chests.length m))
  have hm6 := hm5
  have hq5 := ((((((((HQ4.out.put 1 (.int .i64 c.v.prom.1)).put 2 (.int .i64 c.v.prom.2)).put 3 (.int .i64 c.v.at'.1)).put 4 (.int .i64 c.v.at'.2)).put 5 (.int .i64 c.v.took.gen)).put 6 (.int .i64 c.v.took.epoch)).put 7 (.int .i64 c.v.took.recd)).put 8 (.slice B c.v.took.chests.length m))
  simp only [List.set] at hq5
  have hq6 := hq5
  have hol := fun g (hg : Value.ownBlock (.slice B c.v.took.chests.length m) = some g) => OwnI.low HO4.out hg
  have hm4s := hm6.size
  refine ⟨w1.heap.size, fun i => i = w1.heap.size ∨ Gb i ∨ Value.ownBlock (.slice B c.v.took.chests.length m) = some i, rfl, ⟨qb, Gb, B, m, ?_, HBK4.out.mv hm6 (fun i hi e => ?_), OwnI.mv (HO4.out.lower (by omega)) hm6 (fun g hg e => ?_), HOK.out, fun hg => ?_, fun g hg => ⟨fun hg2 => ?_, fun e => ?_⟩, .inl rfl, fun i hi => .inr (.inl hi), fun g hg => .inr (.inr hg), ?_⟩, ?_, HMT4.out.trans hm6 (fun i hi e => by omega)⟩
  · rw [HD.out]; exact hq6
  · have := HGL.out i hi; omega
  · have := (hol g hg).1; omega
  · have := HGL.out _ hg; omega
  · have h1 := HGL.out g hg2
    have h2 := (hol g hg).1
    omega
  · have := (hol g hg).1; omega
  · refine ⟨by omega, ?_⟩
    rintro i (hi | hi | hi)
    · rw [hi]; exact ⟨by omega, by omega⟩
    · have := HBK4.out.low.2 i hi
      exact ⟨this.1, by omega⟩
    · have := hol i hi
      exact ⟨by omega, by omega⟩
  · rintro i (hi | hi | hi)
    · rw [hi]; exact .inr hs1
    · exact HGB.out i hi
    · have := (hol i hi).1
      exact .inr (by omega)
end Go.Proofs.Ythoheikbpihflaa
namespace Go.Proofs.Ythoheikbpihflaa
open Go.RowKit
section
variable {P : Program} {ops : Array Oper} {Q : Exit → Act → World → Prop}
theorem wp_region_mid (R : Act → Act → World → Prop) {id : Nat} {b : Bool} {a : Act} {w : World} (h1 : (Code.region id ops b).wp P (fun e a' w' => e = .normal ∧ R a a' w') a w) (h2 : ∀ a' w', R a a' w' → Q .normal a' w') : (Code.region id ops b).wp P Q a w :=
  Code.wp_mono (fun e a' w' h => by obtain ⟨rfl, h⟩ := h; exact h2 a' w' h) h1
end
end Go.Proofs.Ythoheikbpihflaa
namespace Go.Proofs.Ythoheikbpihflaa
open Go.RowKit
attribute [local go_sem] less_eq same_eq le_eq ge_eq gt_eq

theorem step_may {c : Co} {b : Bal} {s : Sta} {what : Int} (h : mayC c.dead b ≠ 0) : c.step what b s = (mayC c.dead b, false, c) := by
  unfold mayC at h ⊢
  by_cases hd : c.dead = true
  · rw [if_pos hd, Co.step_dead hd]
  · rw [if_neg hd] at h ⊢
    by_cases hn : b.1 < 0 ∨ b.2 < 0
    · rw [if_pos hn]
      have e : nextV c.v what b s = (c.v, false, 1) := by unfold nextV; rw [if_pos hn]
      unfold Co.step
      rw [if_neg hd, e]
      rfl
    · rw [if_neg hn] at h; exact absurd rfl h
theorem may_zero {c : Co} {b : Bal} (h : mayC c.dead b = 0) : c.dead = false ∧ ¬ (b.1 < 0 ∨ b.2 < 0) := by
  unfold mayC at h
  by_cases hd : c.dead = true
  · rw [if_pos hd] at h; cases h
  · rw [if_neg hd] at h
    by_cases hn : b.1 < 0 ∨ b.2 < 0
    · rw [if_pos hn] at h; cases h
    · exact ⟨by simpa using hd, hn⟩

theorem step_prom {c : Co} {b : Bal} (hd : c.dead = false) (hn : ¬ (b.1 < 0 ∨ b.2 < 0)) : c.step 0 b zeroS = if lessB c.v.prom b = false then (0, false, c) else ((c.keep (promV c.v b)).1, decide ((c.keep (promV c.v b)).1 = 0), (c.keep (promV c.v b)).2) := by
  have e : nextV c.v 0 b zeroS = (promV c.v b, lessB c.v.prom b, 0) := by unfold nextV; rw [if_neg hn, if_pos (by decide)]
  unfold Co.step
  rw [e, if_neg (by rw [hd]; decide)]
  simp only
  rw [if_neg (by decide)]

set_option maxHeartbeats 16000000 in
set_option maxRecDepth 100000 in
theorem cprep_any (base q p : Nat) (G : Nat → Prop) (c : Co) (b : Bal) (h1 : b.1 < 9223372036854775808) (h2 : b.2 < 9223372036854775808) (w : World) (h : CoAt w base q p G c) :
    Calls Try.prog 14 #[.pointer (some ⟨q, 0, none⟩), blv b] w fun e w' => ∃ x v G', e = .returned (.tuple #[vwv x v, .bool (c.step 0 b zeroS).2.1, .int .i64 (c.step 0 b zeroS).1]) ∧ NewV w w' G' v x ∧ ((c.step 0 b zeroS).1 = 0 → x = (c.step 0 b zeroS).2.2.v) ∧
      CoAt w' base q p G' (c.step 0 b zeroS).2.2 ∧ (∀ i, G' i → G i ∨ w.heap.size ≤ i) ∧ Mv G w w' := by
  obtain ⟨qb, Gb, A, n, h⟩ := h
  have hxl := sound_len h.ok.sound
  obtain ⟨S, hS⟩ : ∃ S, S = c.step 0 b zeroS := ⟨_, rfl⟩
  rw [← hS]
  have hmay := step_may (c := c) (b := b) (s := zeroS) (what := 0)
  rw [← hS] at hmay
  obtain ⟨b1, b2⟩ := b
  have hcm := fun W h9 hq => cmay_any q c.dead (b1, b2) W h9 hq
  have hzero := may_zero (c := c) (b := (b1, b2))
  obtain ⟨M, hM⟩ : ∃ M, M = mayC c.dead (b1, b2) := ⟨_, rfl⟩
  rw [← hM] at hmay hzero
  obtain ⟨w2, hw2⟩ : ∃ w2, w2 = (w.alloc (.cells #[.int .i64 b1, .int .i64 b2] 32)).alloc (.cells #[.int .i64 0, .int .i64 0, .int .i64 0, .int .i64 0, .int .i64 0, .int .i64 0, .int .i64 0, .slice none 0 0] 37) := ⟨_, rfl⟩
  have hb2 : Below w.heap.size w w2 := by rw [hw2]; exact ((Below.refl _ w).alloc (Nat.le_refl _) _).alloc (by simp) _
  have hs2 : w2.heap.size = w.heap.size + 1 + 1 := by rw [hw2]; simp
  have hR2 : Whole w2 (w.heap.size + 1) 37 [.int .i64 0, .int .i64 0, .int .i64 0, .int .i64 0, .int .i64 0, .int .i64 0, .int .i64 0, .slice none 0 0] := by
    have h := Whole.fresh (w.alloc (.cells #[.int .i64 b1, .int .i64 b2] 32)) 37 [.int .i64 0, .int .i64 0, .int .i64 0, .int .i64 0, .int .i64 0, .int .i64 0, .int .i64 0, .slice none 0 0]
    rw [World.size_alloc] at h
    rw [hw2]; exact h
  have hY2 : Whole w2 w.heap.size 32 [.int .i64 b1, .int .i64 b2] := by rw [hw2]; exact (Whole.fresh w _ [_, _]).alloc _
  have hi2 := h.mv (Mv.of_new hb2 (fun _ => False)) (fun _ _ h => h)
  have hcm2 := hcm w2 (hi2.at_.cell 9 _ rfl) hi2.at_.size
  rw [← hM] at hcm2
  unfold blv at hcm2 ⊢
  simp only at hcm2 h1 h2
  have HCM := Lib.hid hcm2
  have HI2 := Lib.hid hi2
  have HR2 := Lib.hid hR2
  have HY2 := Lib.hid hY2
  have HB2 := Lib.hid hb2
  have HMAY := Lib.hid hmay
  have HZERO := Lib.hid hzero
  have HS := Lib.hid hS
  have HGL := Lib.hid (fun i (hi : G i) => (h.low.2 i hi).2)
  have hbs := h.low.1
  have hqs : q < w.heap.size := h.at_.size
  have HGQ := Lib.hid h.gq
  clear hcm hcm2 hi2 hR2 hY2 hb2 hmay hzero hS h hM
  go_enter Try.func14, Try.ntmps14
  go_wp2_with fail
  rw [← hw2]
  clear hw2
  refine HCM.out.mono ?_
  rintro e w3 ⟨rfl, hb3⟩
  have hR3 := HR2.out.below hb3 HR2.out.size
  have hY3 := HY2.out.below hb3 HY2.out.size
  have hb3' := HB2.out.trans (hb3.mono HB2.out.size)
  have HB3 := Lib.hid hb3'
  have HR3 := Lib.hid hR3
  have HY3 := Lib.hid hY3
  have HI3 := Lib.hid (HI2.out.mv (Mv.of_new hb3 (fun _ => False)) (fun _ _ h => h))
  have hs3 : w.heap.size + 1 + 1 ≤ w3.heap.size := by have := hb3.size; omega
  by_cases hM0 : M ≠ 0
  · have hSe := HMAY.out hM0
    subst hSe
    have hM1 : (M == 0) = false := by simpa using hM0
    have z0 := hR3.cell 0 _ rfl
    have z1 := hR3.cell 1 _ rfl
    have z2 := hR3.cell 2 _ rfl
    have z3 := hR3.cell 3 _ rfl
    have z4 := hR3.cell 4 _ rfl
    have z5 := hR3.cell 5 _ rfl
    have z6 := hR3.cell 6 _ rfl
    have z7 := hR3.cell 7 _ rfl
    have f0 := hR3.frozen 0
    have f1 := hR3.frozen 1
    have f2 := hR3.frozen 2
    have f3 := hR3.frozen 3
    have f4 := hR3.frozen 4
    have f5 := hR3.frozen 5
    have f6 := hR3.frozen 6
    have f7 := hR3.frozen 7
    clear hR3 hY3 hb3 hb3' hM0
    go_wp2_with fail
    have hZ := ((((((((HR3.out.put 0 (.int .i64 0)).put 1 (.int .i64 0)).put 2 (.int .i64 0)).put 3 (.int .i64 0)).put 4 (.int .i64 0)).put 5 (.int .i64 0)).put 6 (.int .i64 0)).put 7 (.slice none 0 0))
    simp only [List.set] at hZ
    have R0 := hZ.cell 0 _ rfl
    have R1 := hZ.cell 1 _ rfl
    have R2 := hZ.cell 2 _ rfl
    have R3 := hZ.cell 3 _ rfl
    have R4 := hZ.cell 4 _ rfl
    have R5 := hZ.cell 5 _ rfl
    have R6 := hZ.cell 6 _ rfl
    have R7 := hZ.cell 7 _ rfl
    have hbF : Below w.heap.size w ((((((((w3.setCell ⟨w.heap.size + 1, 0, none⟩ (.int .i64 0)).setCell ⟨w.heap.size + 1, 1, none⟩ (.int .i64 0)).setCell ⟨w.heap.size + 1, 2, none⟩ (.int .i64 0)).setCell ⟨w.heap.size + 1, 3, none⟩ (.int .i64 0)).setCell ⟨w.heap.size + 1, 4, none⟩ (.int .i64 0)).setCell ⟨w.heap.size + 1, 5, none⟩ (.int .i64 0)).setCell ⟨w.heap.size + 1, 6, none⟩ (.int .i64 0)).setCell ⟨w.heap.size + 1, 7, none⟩ (.slice none 0 0)) := by (repeat (refine Below.setCell ?_ (by simp; try omega) _)); exact HB3.out
    exact bodyPost_ret (v := .tuple #[.agg #[.int .i64 0, .int .i64 0, .int .i64 0, .int .i64 0, .int .i64 0, .int .i64 0, .int .i64 0, .slice none 0 0], .bool false, .int .i64 M]) (by simp [results, Try.results14, go_sem, R0, R1, R2, R3, R4, R5, R6, R7]) rfl ⟨zeroV, .slice none 0 0, rfl, G, RdG.none_ _ _ _ _ _, fun e => absurd e (by simpa using hM1), CoAt.mv ⟨qb, Gb, A, n, HI3.out⟩ (((((((((Mv.refl (fun i => i = w.heap.size + 1) w3).one 0 (.int .i64 0)).one 1 (.int .i64 0)).one 2 (.int .i64 0)).one 3 (.int .i64 0)).one 4 (.int .i64 0)).one 5 (.int .i64 0)).one 6 (.int .i64 0)).one 7 (.slice none 0 0)) (fun i hi e => by have := HGL.out i hi; omega), fun i hi => .inl hi, Mv.of_new hbF G⟩
  have hM0' : M = 0 := by simpa using hM0
  subst hM0'
  obtain ⟨hd, hneg⟩ := HZERO.out rfl
  obtain ⟨X, hX⟩ : ∃ X, X = promV c.v (b1, b2) := ⟨_, rfl⟩
  obtain ⟨O, hO⟩ : ∃ O, O = lessB c.v.prom (b1, b2) := ⟨_, rfl⟩
  have HPR := Lib.hid (fun W (hW : Below w3.heap.size w3 W) =>
    show Calls Try.prog 27 #[.agg #[.int .i64 c.v.prom.1, .int .i64 c.v.prom.2, .int .i64 c.v.at'.1, .int .i64 c.v.at'.2, .int .i64 c.v.took.gen, .int .i64 c.v.took.epoch, .int .i64 c.v.took.recd, .slice A c.v.took.chests.length n], .agg #[.int .i64 b1, .int .i64 b2]] W fun e w' => ∃ B m, e = .returned (.tuple #[.agg #[.int .i64 X.prom.1, .int .i64 X.prom.2, .int .i64 X.at'.1, .int .i64 X.at'.2, .int .i64 X.took.gen, .int .i64 X.took.epoch, .int .i64 X.took.recd, .slice B X.took.chests.length m], .bool O]) ∧ OwnI w' W.heap.size (.slice B X.took.chests.length m) X.took.chests ∧ Below W.heap.size W w' from by
      have h := ppromiseO_any c.v (b1, b2) _ W ((OwnI.rdI HI3.out.own).next hW) (by omega)
      unfold vwv blv at h
      refine h.mono ?_
      rintro e w' ⟨v', rfl, ho, hb⟩
      obtain ⟨B, m, rfl, -, -⟩ := (OwnI.rdI ho).at
      rw [← hX] at ho ⊢
      rw [← hO]
      exact ⟨B, m, rfl, ho, hb⟩)
  have HCE := Lib.hid (fun W (hW : Below w3.heap.size w3 W) => (And.intro ((HI3.out.at_.below hW HI3.out.at_.size).cell 1 _ rfl) (And.intro ((HI3.out.at_.below hW HI3.out.at_.size).cell 2 _ rfl) (And.intro ((HI3.out.at_.below hW HI3.out.at_.size).cell 3 _ rfl) (And.intro ((HI3.out.at_.below hW HI3.out.at_.size).cell 4 _ rfl) (And.intro ((HI3.out.at_.below hW HI3.out.at_.size).cell 5 _ rfl) (And.intro ((HI3.out.at_.below hW HI3.out.at_.size).cell 6 _ rfl) (And.intro ((HI3.out.at_.below hW HI3.out.at_.size).cell 7 _ rfl) (And.intro ((HI3.out.at_.below hW HI3.out.at_.size).cell 8 _ rfl) (And.intro ((HY3.out.below hW HY3.out.size).cell 0 _ rfl) ((HY3.out.below hW HY3.out.size).cell 1 _ rfl)))))))))))
  have hX' := Lib.hid hX
  have hO' := Lib.hid hO
  have hxX : X.took.chests.length ≤ 16 := by
    rw [hX]
    unfold promV
    split <;> exact hxl
  have z0 := hR3.cell 0 _ rfl
  have z1 := hR3.cell 1 _ rfl
  have z2 := hR3.cell 2 _ rfl
  have z3 := hR3.cell 3 _ rfl
  have z4 := hR3.cell 4 _ rfl
  have z5 := hR3.cell 5 _ rfl
  have z6 := hR3.cell 6 _ rfl
  have z7 := hR3.cell 7 _ rfl
  have f0 := hR3.frozen 0
  have f1 := hR3.frozen 1
  have f2 := hR3.frozen 2
  have f3 := hR3.frozen 3
  have f4 := hR3.frozen 4
  have f5 := hR3.frozen 5
  have f6 := hR3.frozen 6
  have f7 := hR3.frozen 7
  clear hR3 hY3 hb3 hb3' hM0 hX hO
  go_wp2_with fail
  refine wp_region_mid (fun a0 a' w' => ∃ (B : Option Addr) (m gx : Nat), a' = (((((((((((a0.put (some 19) (.pointer (some ⟨q, 0, none⟩))).put (some 20) (.pointer (some ⟨q, 0, none⟩))).put (some 21) (.pointer (some ⟨q, 1, none⟩))).put (some 22) (.agg #[.int .i64 c.v.prom.1, .int .i64 c.v.prom.2, .int .i64 c.v.at'.1, .int .i64 c.v.at'.2, .int .i64 c.v.took.gen, .int .i64 c.v.took.epoch, .int .i64 c.v.took.recd, .slice A c.v.took.chests.length n])).put (some 23) (.agg #[.int .i64 b1, .int .i64 b2])).put (some 24) (.tuple #[.agg #[.int .i64 X.prom.1, .int .i64 X.prom.2, .int .i64 X.at'.1, .int .i64 X.at'.2, .int .i64 X.took.gen, .int .i64 X.took.epoch, .int .i64 X.took.recd, .slice B X.took.chests.length m], .bool O])).put (some 18) (.tuple #[.agg #[.int .i64 X.prom.1, .int .i64 X.prom.2, .int .i64 X.at'.1, .int .i64 X.at'.2, .int .i64 X.took.gen, .int .i64 X.took.epoch, .int .i64 X.took.recd, .slice B X.took.chests.length m], .bool O])).put (some 25) (.agg #[.int .i64 X.prom.1, .int .i64 X.prom.2, .int .i64 X.at'.1, .int .i64 X.at'.2, .int .i64 X.took.gen, .int .i64 X.took.epoch, .int .i64 X.took.recd, .slice B X.took.chests.length m])).put (some 26) (.bool O)).put (some 8) (.pointer (some ⟨gx, 0, none⟩))).put (some 9) (.bool O)) ∧ OwnI w' w3.heap.size (.slice B X.took.chests.length m) X.took.chests ∧ Below w3.heap.size w3 w' ∧ Whole w' gx 37 [.int .i64 X.prom.1, .int .i64 X.prom.2, .int .i64 X.at'.1, .int .i64 X.at'.2, .int .i64 X.took.gen, .int .i64 X.took.epoch, .int .i64 X.took.recd, .slice B X.took.chests.length m] ∧ w3.heap.size ≤ gx) ?mr ?mk
  case mr =>
    have hd0 : Below w3.heap.size w3 w3.drew := (Below.refl _ _).drew
    refine wp_region_planT (fun W => Below w3.heap.size w3 W) (.take 0 (.take 1 (.take 2 (.take 3 (.take 4 (.fork 5 (.take 6 (.take 7 (.take 8 (.step 9 (.step 10 (.take 11 .done)))))) 9 (.step 5 (.take 6 (.take 7 (.take 8 (.step 10 (.take 11 .done)))))))))))) (by kernel_rfl) (by kernel_rfl) (fun _ _ _ _ _ h => by cases h.1) hd0 ?_
    obtain ⟨wd, hwd⟩ : ∃ wd, wd = w3.drew := ⟨_, rfl⟩
    rw [← hwd] at hd0 ⊢
    clear hwd
    iterate 5 (refine PlanT.takeI (v := ?_) rfl rfl ?_ ?_; rotate_left; (focus (intro W hW; obtain ⟨q1, q2, q3, q4, q5, q6, q7, q8, y0, y1⟩ := HCE.out W hW; go_simp; (try with_reducible rfl); done)); (try simp only [Act.put, List.setIfInBounds_toArray, List.set_cons_zero, List.set_cons_succ]))
    refine ⟨?_, ?_⟩
    · skip
      refine wpOp_stepT rfl rfl (fun Kk hK => ?_)
      go_simp
      refine (HPR.out wd hd0).mono ?_
      rintro e wa ⟨B, m, rfl, ho, hb⟩
      have hd0'' := hd0.trans (hb.mono hd0.size)
      refine hK.out _ _ hd0'' ?_
      clear hK Kk
      (try simp only [Act.put, List.setIfInBounds_toArray, List.set_cons_zero, List.set_cons_succ])
      iterate 3 (refine PlanT.takeI (v := ?_) rfl rfl ?_ ?_; rotate_left; (focus (intro W hW; go_simp; (try with_reducible rfl); done)); (try simp only [Act.put, List.setIfInBounds_toArray, List.set_cons_zero, List.set_cons_succ]))
      refine wpOp_stepT rfl rfl (fun Kk hK => ?_)
      go_simp
      obtain ⟨wb, hE⟩ : ∃ V, V = wa.alloc (.cells #[.int .i64 0, .int .i64 0, .int .i64 0, .int .i64 0, .int .i64 0, .int .i64 0, .int .i64 0, .slice none 0 0] 37) := ⟨_, rfl⟩
      have hmA : Mv (fun _ => False) wa wb := by rw [hE]; exact (Mv.refl _ _).alloc _
      have hd0''' : Below w3.heap.size w3 wb := by rw [hE]; exact hd0''.alloc hd0''.size _
      have hx : Whole wb wa.heap.size 37 [.int .i64 0, .int .i64 0, .int .i64 0, .int .i64 0, .int .i64 0, .int .i64 0, .int .i64 0, .slice none 0 0] := by rw [hE]; exact Whole.fresh wa _ [_, _, _, _, _, _, _, _]
      have hg : w3.heap.size ≤ wa.heap.size := hd0''.size
      have hgs : wb.heap.size = wa.heap.size + 1 := by rw [hE]; simp
      rw [← hE]
      obtain ⟨gx, hgx⟩ : ∃ X, X = wa.heap.size := ⟨_, rfl⟩
      rw [← hgx] at hx hg hgs ⊢
      have HGX := Lib.hid hgx
      have HGS := Lib.hid hgs
      clear hE hgx hgs
      refine hK.out _ _ hd0''' ?_
      clear hK Kk
      (try simp only [Act.put, List.setIfInBounds_toArray, List.set_cons_zero, List.set_cons_succ])
      refine wpOp_stepT rfl rfl (fun Kk hK => ?_)
      have c0 := hx.cell 0 _ rfl
      have c1 := hx.cell 1 _ rfl
      have c2 := hx.cell 2 _ rfl
      have c3 := hx.cell 3 _ rfl
      have c4 := hx.cell 4 _ rfl
      have c5 := hx.cell 5 _ rfl
      have c6 := hx.cell 6 _ rfl
      have c7 := hx.cell 7 _ rfl
      have f0 := hx.frozen 0
      have f1 := hx.frozen 1
      have f2 := hx.frozen 2
      have f3 := hx.frozen 3
      have f4 := hx.frozen 4
      have f5 := hx.frozen 5
      have f6 := hx.frozen 6
      have f7 := hx.frozen 7
      go_simp
      have hmx := (((((((((Mv.refl (fun i => i = gx) wb).one 0 (.int .i64 X.prom.1)).one 1 (.int .i64 X.prom.2)).one 2 (.int .i64 X.at'.1)).one 3 (.int .i64 X.at'.2)).one 4 (.int .i64 X.took.gen)).one 5 (.int .i64 X.took.epoch)).one 6 (.int .i64 X.took.recd)).one 7 (.slice B X.took.chests.length m))
      have hx2 := ((((((((hx.put 0 (.int .i64 X.prom.1)).put 1 (.int .i64 X.prom.2)).put 2 (.int .i64 X.at'.1)).put 3 (.int .i64 X.at'.2)).put 4 (.int .i64 X.took.gen)).put 5 (.int .i64 X.took.epoch)).put 6 (.int .i64 X.took.recd)).put 7 (.slice B X.took.chests.length m))
      simp only [List.set] at hx2
      have hd8 := hd0'''.trans ((hmx.below (B := w3.heap.size) hd0'''.size (fun i e => by omega)))
      clear c0 f0 c1 f1 c2 f2 c3 f3 c4 f4 c5 f5 c6 f6 c7 f7
      refine hK.out _ _ hd8 ?_
      clear hK Kk
      (try simp only [Act.put, List.setIfInBounds_toArray, List.set_cons_zero, List.set_cons_succ])
      iterate 1 (refine PlanT.takeI (v := ?_) rfl rfl ?_ ?_; rotate_left; (focus (intro W hW; go_simp; (try with_reducible rfl); done)); (try simp only [Act.put, List.setIfInBounds_toArray, List.set_cons_zero, List.set_cons_succ]))
      simp only [PlanT]
      exact ⟨(by first | rfl | trivial), B, m, gx, (by first | rfl | (simp only [Act.put, List.setIfInBounds_toArray, List.set_cons_zero, List.set_cons_succ])), OwnI.mv (OwnI.mv (Own.lower ho (by have := hd0.size; omega)) hmA (fun _ _ h => h)) hmx (fun g hg2 e => by have := (OwnI.low ho hg2).2; have := HGX.out; omega), hd8, hx2, hg⟩
    · skip
      refine wpOp_stepT rfl rfl (fun Kk hK => ?_)
      go_simp
      obtain ⟨wa, hE⟩ : ∃ V, V = wd.alloc (.cells #[.int .i64 0, .int .i64 0, .int .i64 0, .int .i64 0, .int .i64 0, .int .i64 0, .int .i64 0, .slice none 0 0] 37) := ⟨_, rfl⟩
      have hmA : Mv (fun _ => False) wd wa := by rw [hE]; exact (Mv.refl _ _).alloc _
      have hd0' : Below w3.heap.size w3 wa := by rw [hE]; exact hd0.alloc hd0.size _
      have hx : Whole wa wd.heap.size 37 [.int .i64 0, .int .i64 0, .int .i64 0, .int .i64 0, .int .i64 0, .int .i64 0, .int .i64 0, .slice none 0 0] := by rw [hE]; exact Whole.fresh wd _ [_, _, _, _, _, _, _, _]
      have hg : w3.heap.size ≤ wd.heap.size := hd0.size
      have hgs : wa.heap.size = wd.heap.size + 1 := by rw [hE]; simp
      rw [← hE]
      obtain ⟨gx, hgx⟩ : ∃ X, X = wd.heap.size := ⟨_, rfl⟩
      rw [← hgx] at hx hg hgs ⊢
      have HGX := Lib.hid hgx
      have HGS := Lib.hid hgs
      clear hE hgx hgs
      refine hK.out _ _ hd0' ?_
      clear hK Kk
      (try simp only [Act.put, List.setIfInBounds_toArray, List.set_cons_zero, List.set_cons_succ])
      refine wpOp_stepT rfl rfl (fun Kk hK => ?_)
      go_simp
      refine (HPR.out wa hd0').mono ?_
      rintro e wb ⟨B, m, rfl, ho, hb⟩
      have hd0''' := hd0'.trans (hb.mono hd0'.size)
      replace hx := hx.below hb hx.size
      refine hK.out _ _ hd0''' ?_
      clear hK Kk
      (try simp only [Act.put, List.setIfInBounds_toArray, List.set_cons_zero, List.set_cons_succ])
      iterate 3 (refine PlanT.takeI (v := ?_) rfl rfl ?_ ?_; rotate_left; (focus (intro W hW; go_simp; (try with_reducible rfl); done)); (try simp only [Act.put, List.setIfInBounds_toArray, List.set_cons_zero, List.set_cons_succ]))
      refine wpOp_stepT rfl rfl (fun Kk hK => ?_)
      have c0 := hx.cell 0 _ rfl
      have c1 := hx.cell 1 _ rfl
      have c2 := hx.cell 2 _ rfl
      have c3 := hx.cell 3 _ rfl
      have c4 := hx.cell 4 _ rfl
      have c5 := hx.cell 5 _ rfl
      have c6 := hx.cell 6 _ rfl
      have c7 := hx.cell 7 _ rfl
      have f0 := hx.frozen 0
      have f1 := hx.frozen 1
      have f2 := hx.frozen 2
      have f3 := hx.frozen 3
      have f4 := hx.frozen 4
      have f5 := hx.frozen 5
      have f6 := hx.frozen 6
      have f7 := hx.frozen 7
      go_simp
      have hmx := (((((((((Mv.refl (fun i => i = gx) wb).one 0 (.int .i64 X.prom.1)).one 1 (.int .i64 X.prom.2)).one 2 (.int .i64 X.at'.1)).one 3 (.int .i64 X.at'.2)).one 4 (.int .i64 X.took.gen)).one 5 (.int .i64 X.took.epoch)).one 6 (.int .i64 X.took.recd)).one 7 (.slice B X.took.chests.length m))
      have hx2 := ((((((((hx.put 0 (.int .i64 X.prom.1)).put 1 (.int .i64 X.prom.2)).put 2 (.int .i64 X.at'.1)).put 3 (.int .i64 X.at'.2)).put 4 (.int .i64 X.took.gen)).put 5 (.int .i64 X.took.epoch)).put 6 (.int .i64 X.took.recd)).put 7 (.slice B X.took.chests.length m))
      simp only [List.set] at hx2
      have hd8 := hd0'''.trans ((hmx.below (B := w3.heap.size) hd0'''.size (fun i e => by omega)))
      clear c0 f0 c1 f1 c2 f2 c3 f3 c4 f4 c5 f5 c6 f6 c7 f7
      refine hK.out _ _ hd8 ?_
      clear hK Kk
      (try simp only [Act.put, List.setIfInBounds_toArray, List.set_cons_zero, List.set_cons_succ])
      iterate 1 (refine PlanT.takeI (v := ?_) rfl rfl ?_ ?_; rotate_left; (focus (intro W hW; go_simp; (try with_reducible rfl); done)); (try simp only [Act.put, List.setIfInBounds_toArray, List.set_cons_zero, List.set_cons_succ]))
      simp only [PlanT]
      exact ⟨(by first | rfl | trivial), B, m, gx, (by first | rfl | (simp only [Act.put, List.setIfInBounds_toArray, List.set_cons_zero, List.set_cons_succ])), OwnI.mv (Own.lower ho (by have := HGS.out; omega)) hmx (fun g hg2 e => by have := (OwnI.low ho hg2).1; have := HGS.out; omega), hd8, hx2, hg⟩
  case mk =>
    rintro a' w4 ⟨B, m, gx, rfl, ho4, hb4, hx4, hg4⟩
    (try simp only [Act.put, List.setIfInBounds_toArray, List.set_cons_zero, List.set_cons_succ])
    have HO4 := Lib.hid ho4
    have HX4 := Lib.hid hx4
    have HB4 := Lib.hid hb4
    have HI4 := Lib.hid (HI3.out.mv (Mv.of_new hb4 (fun _ => False)) (fun _ _ h => h))
    have HSP := Lib.hid (HS.out.trans (step_prom hd hneg))
    have g0 := hx4.cell 0 _ rfl
    have g1 := hx4.cell 1 _ rfl
    have g2 := hx4.cell 2 _ rfl
    have g3 := hx4.cell 3 _ rfl
    have g4 := hx4.cell 4 _ rfl
    have g5 := hx4.cell 5 _ rfl
    have g6 := hx4.cell 6 _ rfl
    have g7 := hx4.cell 7 _ rfl
    have k0 := hx4.frozen 0
    have k1 := hx4.frozen 1
    have k2 := hx4.frozen 2
    have k3 := hx4.frozen 3
    have k4 := hx4.frozen 4
    have k5 := hx4.frozen 5
    have k6 := hx4.frozen 6
    have k7 := hx4.frozen 7
    clear hx4 ho4 hb4
    cases O
    · have hXv : X = c.v := by
        rw [hX'.out]
        unfold promV
        rw [if_neg (by rw [← hO'.out]; decide)]
      have hSv : S = (0, false, c) := by
        rw [HSP.out, if_pos hO'.out.symm]
      have HSV := Lib.hid hSv
      have HXV := Lib.hid hXv
      have hR5 := HR3.out.below HB4.out HR3.out.size
      have r0 := hR5.cell 0 _ rfl
      have r1 := hR5.cell 1 _ rfl
      have r2 := hR5.cell 2 _ rfl
      have r3 := hR5.cell 3 _ rfl
      have r4 := hR5.cell 4 _ rfl
      have r5 := hR5.cell 5 _ rfl
      have r6 := hR5.cell 6 _ rfl
      have r7 := hR5.cell 7 _ rfl
      have s0 := hR5.frozen 0
      have s1 := hR5.frozen 1
      have s2 := hR5.frozen 2
      have s3 := hR5.frozen 3
      have s4 := hR5.frozen 4
      have s5 := hR5.frozen 5
      have s6 := hR5.frozen 6
      have s7 := hR5.frozen 7
      clear hSv hXv
      go_wp2_with fail
      have hZ := ((((((((hR5.put 0 (.int .i64 X.prom.1)).put 1 (.int .i64 X.prom.2)).put 2 (.int .i64 X.at'.1)).put 3 (.int .i64 X.at'.2)).put 4 (.int .i64 X.took.gen)).put 5 (.int .i64 X.took.epoch)).put 6 (.int .i64 X.took.recd)).put 7 (.slice B X.took.chests.length m))
      simp only [List.set] at hZ
      have R0 := hZ.cell 0 _ rfl
      have R1 := hZ.cell 1 _ rfl
      have R2 := hZ.cell 2 _ rfl
      have R3 := hZ.cell 3 _ rfl
      have R4 := hZ.cell 4 _ rfl
      have R5 := hZ.cell 5 _ rfl
      have R6 := hZ.cell 6 _ rfl
      have R7 := hZ.cell 7 _ rfl
      have hmF := (((((((((Mv.refl (fun i => i = w.heap.size + 1) w4).one 0 (.int .i64 X.prom.1)).one 1 (.int .i64 X.prom.2)).one 2 (.int .i64 X.at'.1)).one 3 (.int .i64 X.at'.2)).one 4 (.int .i64 X.took.gen)).one 5 (.int .i64 X.took.epoch)).one 6 (.int .i64 X.took.recd)).one 7 (.slice B X.took.chests.length m))
      have hbF : Below w.heap.size w ((((((((w4.setCell ⟨w.heap.size + 1, 0, none⟩ (.int .i64 X.prom.1)).setCell ⟨w.heap.size + 1, 1, none⟩ (.int .i64 X.prom.2)).setCell ⟨w.heap.size + 1, 2, none⟩ (.int .i64 X.at'.1)).setCell ⟨w.heap.size + 1, 3, none⟩ (.int .i64 X.at'.2)).setCell ⟨w.heap.size + 1, 4, none⟩ (.int .i64 X.took.gen)).setCell ⟨w.heap.size + 1, 5, none⟩ (.int .i64 X.took.epoch)).setCell ⟨w.heap.size + 1, 6, none⟩ (.int .i64 X.took.recd)).setCell ⟨w.heap.size + 1, 7, none⟩ (.slice B X.took.chests.length m)) := (HB3.out.trans (HB4.out.mono (by omega))).trans (hmF.below (B := w.heap.size) (by have := HB4.out.size; omega) (fun i e => by omega))
      exact bodyPost_ret (v := .tuple #[.agg #[.int .i64 X.prom.1, .int .i64 X.prom.2, .int .i64 X.at'.1, .int .i64 X.at'.2, .int .i64 X.took.gen, .int .i64 X.took.epoch, .int .i64 X.took.recd, .slice B X.took.chests.length m], .bool false, .int .i64 0]) (by simp [results, Try.results14, go_sem, R0, R1, R2, R3, R4, R5, R6, R7]) rfl (by
        have hSv := HSV.out
        subst hSv
        exact ⟨X, .slice B X.took.chests.length m, G, rfl, NewV.own (OwnI.mv HO4.out hmF (fun g hg e => by have := (OwnI.low HO4.out hg).1; omega)) (by omega) (fun i hi => by have := HGL.out i hi; omega), fun _ => HXV.out, CoAt.mv ⟨qb, Gb, A, n, HI4.out⟩ hmF (fun i hi e => by have := HGL.out i hi; omega), fun i hi => .inl hi, Mv.of_new hbF G⟩)
    · have hSv : S = ((c.keep X).1, decide ((c.keep X).1 = 0), (c.keep X).2) := by
        rw [HSP.out, if_neg (by rw [← hO'.out]; decide), ← hX'.out]
      have hXs : soundV X := by rw [hX'.out]; exact promV_sound HI3.out.ok.sound (by simp only; omega) (by simp only; omega)
      have hXf : X.fits := by
        have h := nextV_fits (what := 0) (s := zeroS) (b := (b1, b2)) HI3.out.ok.fits h1 h2 ⟨by decide, by decide, by decide⟩
        have e : nextV c.v 0 (b1, b2) zeroS = (promV c.v (b1, b2), lessB c.v.prom (b1, b2), 0) := by unfold nextV; rw [if_neg hneg, if_pos (by decide)]
        rw [e] at h; rw [hX'.out]; exact h
      have hk := ckeep_any base q p qb Gb G c A n X B m w4 HI4.out hd hXs hXf (Own.lower HO4.out (by omega)) (fun g hg hG => by have := (OwnI.low HO4.out hg).1; have := HGL.out g hG; omega)
      have hke := Co.keep_err c X
      have hkv : (c.keep X).1 = 0 → X = (c.keep X).2.v := by
        unfold Co.keep
        split
        · intro e; cases e
        · intro _; rfl
      obtain ⟨E, hE⟩ : ∃ E, E = (c.keep X).1 := ⟨_, rfl⟩
      obtain ⟨c', hc'⟩ : ∃ c', c' = (c.keep X).2 := ⟨_, rfl⟩
      rw [← hE, ← hc'] at hk hkv hSv
      rw [← hE] at hke
      unfold vwv at hk
      have HK := Lib.hid hk
      have HKV := Lib.hid hkv
      have HSV := Lib.hid hSv
      clear hSv hXs hXf hk hkv hE hc'
      go_wp2_with fail
      refine HK.out.mono ?_
      rintro e w5 ⟨rfl, G5, hc5, hG5, hm5⟩
      have hw5 := hm5.size
      have hw4 := HB4.out.size
      have hR5 := hm5.whole (HR3.out.below HB4.out HR3.out.size) (fun hg => by have := HGL.out _ hg; omega)
      have hX5 := hm5.whole HX4.out (fun hg => by have := HGL.out _ hg; omega)
      have HC5 := Lib.hid hc5
      have HG5 := Lib.hid (show ∀ i, G5 i → G i ∨ w.heap.size + 1 < i from fun i hi => by
        rcases hG5 i hi with k | k | k
        · exact .inl k
        · have := (OwnI.low HO4.out k).1; exact .inr (by omega)
        · exact .inr (by omega))
      have HM5 := Lib.hid hm5
      have HR5 := Lib.hid hR5
      clear hc5 hG5 hm5
      have r0 := hR5.cell 0 _ rfl
      have r1 := hR5.cell 1 _ rfl
      have r2 := hR5.cell 2 _ rfl
      have r3 := hR5.cell 3 _ rfl
      have r4 := hR5.cell 4 _ rfl
      have r5 := hR5.cell 5 _ rfl
      have r6 := hR5.cell 6 _ rfl
      have r7 := hR5.cell 7 _ rfl
      have s0 := hR5.frozen 0
      have s1 := hR5.frozen 1
      have s2 := hR5.frozen 2
      have s3 := hR5.frozen 3
      have s4 := hR5.frozen 4
      have s5 := hR5.frozen 5
      have s6 := hR5.frozen 6
      have s7 := hR5.frozen 7
      have u0 := hX5.cell 0 _ rfl
      have u1 := hX5.cell 1 _ rfl
      have u2 := hX5.cell 2 _ rfl
      have u3 := hX5.cell 3 _ rfl
      have u4 := hX5.cell 4 _ rfl
      have u5 := hX5.cell 5 _ rfl
      have u6 := hX5.cell 6 _ rfl
      have u7 := hX5.cell 7 _ rfl
      have y0 := hX5.frozen 0
      have y1 := hX5.frozen 1
      have y2 := hX5.frozen 2
      have y3 := hX5.frozen 3
      have y4 := hX5.frozen 4
      have y5 := hX5.frozen 5
      have y6 := hX5.frozen 6
      have y7 := hX5.frozen 7
      rcases hke with hke | hke
      · rw [hke] at HSV HKV ⊢
        have HOW := Lib.hid (cvow_any base q p G5 c' w5 HC5.out)
        unfold vwv at HOW
        clear hR5
        go_wp2_with fail
        refine HOW.out.mono ?_
        rintro e w6 ⟨vv, rfl, hn6, hb6⟩
        have hn7 := hn6
        obtain ⟨A6, n6, rfl, -, -⟩ := hn7
        have HN6 := Lib.hid hn6
        have hR6 := HR5.out.below hb6 HR5.out.size
        have v0 := hR6.cell 0 _ rfl
        have v1 := hR6.cell 1 _ rfl
        have v2 := hR6.cell 2 _ rfl
        have v3 := hR6.cell 3 _ rfl
        have v4 := hR6.cell 4 _ rfl
        have v5 := hR6.cell 5 _ rfl
        have v6 := hR6.cell 6 _ rfl
        have v7 := hR6.cell 7 _ rfl
        have t0 := hR6.frozen 0
        have t1 := hR6.frozen 1
        have t2 := hR6.frozen 2
        have t3 := hR6.frozen 3
        have t4 := hR6.frozen 4
        have t5 := hR6.frozen 5
        have t6 := hR6.frozen 6
        have t7 := hR6.frozen 7
        clear hn6
        go_wp2_with fail
        have hZ := ((((((((hR6.put 0 (.int .i64 c'.v.prom.1)).put 1 (.int .i64 c'.v.prom.2)).put 2 (.int .i64 c'.v.at'.1)).put 3 (.int .i64 c'.v.at'.2)).put 4 (.int .i64 c'.v.took.gen)).put 5 (.int .i64 c'.v.took.epoch)).put 6 (.int .i64 c'.v.took.recd)).put 7 (.slice A6 c'.v.took.chests.length n6))
        simp only [List.set] at hZ
        have R0 := hZ.cell 0 _ rfl
        have R1 := hZ.cell 1 _ rfl
        have R2 := hZ.cell 2 _ rfl
        have R3 := hZ.cell 3 _ rfl
        have R4 := hZ.cell 4 _ rfl
        have R5 := hZ.cell 5 _ rfl
        have R6 := hZ.cell 6 _ rfl
        have R7 := hZ.cell 7 _ rfl
        have hmF := (((((((((Mv.refl (fun i => i = w.heap.size + 1) w6).one 0 (.int .i64 c'.v.prom.1)).one 1 (.int .i64 c'.v.prom.2)).one 2 (.int .i64 c'.v.at'.1)).one 3 (.int .i64 c'.v.at'.2)).one 4 (.int .i64 c'.v.took.gen)).one 5 (.int .i64 c'.v.took.epoch)).one 6 (.int .i64 c'.v.took.recd)).one 7 (.slice A6 c'.v.took.chests.length n6))
        have hmw : Mv G w w4 := Mv.of_new (HB3.out.trans (HB4.out.mono (by omega))) G
        exact bodyPost_ret (v := .tuple #[.agg #[.int .i64 c'.v.prom.1, .int .i64 c'.v.prom.2, .int .i64 c'.v.at'.1, .int .i64 c'.v.at'.2, .int .i64 c'.v.took.gen, .int .i64 c'.v.took.epoch, .int .i64 c'.v.took.recd, .slice A6 c'.v.took.chests.length n6], .bool true, .int .i64 0]) (by simp [results, Try.results14, go_sem, R0, R1, R2, R3, R4, R5, R6, R7]) rfl (by
          have hSv := HSV.out
          subst hSv
          refine ⟨c'.v, .slice A6 c'.v.took.chests.length n6, G5, rfl, ?_, fun _ => rfl, CoAt.mv (CoAt.mv HC5.out (Mv.of_new hb6 (fun _ => False)) (fun _ _ h => h)) hmF (fun i hi e => (HG5.out i hi).elim (fun k => by have := HGL.out i k; omega) (fun k => by omega)), fun i hi => (HG5.out i hi).imp id (fun k => by omega), ((hmw.trans HM5.out (fun i _ hi => hi)).trans (Mv.of_new hb6 G) (fun i _ hi => hi)).trans hmF (fun i hi e => absurd e (by omega))⟩
          have h7 := RdG.mv (HN6.out : RdG encI 1 w6 w6.heap.size (fun i => i < w5.heap.size ∨ G5 i) _ _) hmF (Nat.le_refl _) (fun b _ e => .inl (by omega))
          exact RdG.mono h7 hmF.size (fun b _ hb => hb.imp (fun k => by omega) id))
      · rw [hke] at HSV HKV ⊢
        clear hX5
        go_wp2_with fail
        have hZ := ((((((((HR5.out.put 0 (.int .i64 0)).put 1 (.int .i64 0)).put 2 (.int .i64 0)).put 3 (.int .i64 0)).put 4 (.int .i64 0)).put 5 (.int .i64 0)).put 6 (.int .i64 0)).put 7 (.slice none 0 0))
        simp only [List.set] at hZ
        have R0 := hZ.cell 0 _ rfl
        have R1 := hZ.cell 1 _ rfl
        have R2 := hZ.cell 2 _ rfl
        have R3 := hZ.cell 3 _ rfl
        have R4 := hZ.cell 4 _ rfl
        have R5 := hZ.cell 5 _ rfl
        have R6 := hZ.cell 6 _ rfl
        have R7 := hZ.cell 7 _ rfl
        have hmF := (((((((((Mv.refl (fun i => i = w.heap.size + 1) w5).one 0 (.int .i64 0)).one 1 (.int .i64 0)).one 2 (.int .i64 0)).one 3 (.int .i64 0)).one 4 (.int .i64 0)).one 5 (.int .i64 0)).one 6 (.int .i64 0)).one 7 (.slice none 0 0))
        have hmw : Mv G w w4 := Mv.of_new (HB3.out.trans (HB4.out.mono (by omega))) G
        exact bodyPost_ret (v := .tuple #[.agg #[.int .i64 0, .int .i64 0, .int .i64 0, .int .i64 0, .int .i64 0, .int .i64 0, .int .i64 0, .slice none 0 0], .bool false, .int .i64 11]) (by simp [results, Try.results14, go_sem, R0, R1, R2, R3, R4, R5, R6, R7]) rfl (by
          have hSv := HSV.out
          subst hSv
          exact ⟨zeroV, .slice none 0 0, G5, rfl, RdG.none_ _ _ _ _ _, fun e => absurd (show (11 : Int) = 0 from e) (by decide), CoAt.mv HC5.out hmF (fun i hi e => (HG5.out i hi).elim (fun k => by have := HGL.out i k; omega) (fun k => by omega)), fun i hi => (HG5.out i hi).imp id (fun k => by omega), (hmw.trans HM5.out (fun i _ hi => hi)).trans hmF (fun i hi e => absurd e (by omega))⟩)
end Go.Proofs.Ythoheikbpihflaa

/- What the program's lay leaves, with either way of writing. -/
import Derived.Test.YtaenlkopjmgniaaPL
namespace Go.Proofs.Ytaenlkopjmgniaa
open Go.RowKit

/-- one call of a book that writes by f: what it answers, and the book behind it; its records are those from before -/
def Bks.put (f : Tp → List UInt8 → Int × Tp) (b : Bks) (list : List (List UInt8)) : Int × Bks :=
  if b.dead = true then (11, b) else if ¬ fits list then (6, b) else
  ((f b.t (lay list)).1, { b with t := (f b.t (lay list)).2, dead := decide ((f b.t (lay list)).1 = 11) })
set_option maxRecDepth 100000 in
/-- the note of a book, written anew -/
theorem BkAt.note {w : World} {base q p : Nat} {G : Nat → Prop} {b : Bks} (h : BkAt w base q p G b) (d : Bool) : BkAt (w.setCell ⟨q, 2, none⟩ (.bool d)) base q p G { b with dead := d } := by
  obtain ⟨ov, A, c, n, rows, h1, h2, h3, h4, h5, h6, h7, h8, h9, h10, h11, h12, h13, h14, h15⟩ := h
  have hm : Mv (fun i => i = q) w (w.setCell ⟨q, 2, none⟩ (.bool d)) := (Mv.refl (fun i => i = q) w).setCell (p := ⟨q, 2, none⟩) (fun _ => rfl) _
  obtain ⟨k1, k2⟩ := h7.apart h1 (by decide) (by decide)
  exact ⟨ov, A, c, n, rows, h1.put 2 _, h2, OwnR.mv h3 hm (fun g hg e => OwnR.off h3 h1 (by decide) (e ▸ hg)), h4.mv hm (fun r hr g hg e => (h4 r hr).apart h1 (by decide) (e ▸ hg)), h5, h6, h7.mv hm (fun e => k1 e.symm) (fun g hg e => k2 (e ▸ hg)), h8, h9, h10, h11, h12, h13, by simpa using h14, fun i hi => by simpa using h15 i hi⟩
theorem BkAt.whole {w : World} {base q p : Nat} {G : Nat → Prop} {b : Bks} (h : BkAt w base q p G b) : ∃ v, Whole w q 53 [.pointer (some ⟨p, 0, none⟩), v, .bool b.dead] := by
  obtain ⟨ov, A, c, n, rows, h1, _⟩ := h
  exact ⟨_, h1⟩

set_option maxHeartbeats 8000000 in
set_option maxRecDepth 100000 in
theorem layA_any (base q p gb : Nat) (G : Nat → Prop) (b : Bks) (rows : List Row) (v : Value) (w : World) (h : BkAt w base q p G b) (hv : RdRs w w.heap.size G v rows) (hl : rows.length ≤ 1000) (hr : ∀ r ∈ rows, r.l.length ≤ 140737488351232) (hgb : Whole w gb 27 [.pointer (some ⟨q, 0, none⟩)]) (hgG : ¬ G gb) :
    Calls Try.prog 23 #[.pointer (some ⟨q, 0, none⟩), v, .func (.func 26) #[] #[.pointer (some ⟨gb, 0, none⟩)]] w fun e w' => e = .returned (.int .i64 (b.put Tp.addS (texts rows)).1) ∧ ∃ G', BkAt w' base q p G' (b.put Tp.addS (texts rows)).2 ∧ (∀ i, G' i → G i ∨ w.heap.size ≤ i) ∧ Mv G w w' := by
  have hmf : ∀ (fn : Fn) (first cap : Array Value) (w : World), (Instr.makeFunc fn first cap).run Try.prog w = .ok (.func fn first cap) w := fun _ _ _ _ => rfl
  obtain ⟨R, hR⟩ : ∃ R, R = b.put Tp.addS (texts rows) := ⟨_, rfl⟩
  rw [← hR]
  unfold Bks.put at hR
  have HR := Lib.hid hR; clear hR
  obtain ⟨vq, hq⟩ := h.whole
  have hqs := hq.size
  have hlow := h.low
  -- the two variables of the call's own
  obtain ⟨w2, hw2⟩ : ∃ w2, w2 = (w.alloc (.cells #[.pointer (some ⟨q, 0, none⟩)] 27)).alloc (.cells #[.int .i64 0] 24) := ⟨_, rfl⟩
  have hB2 : Below w.heap.size w w2 := by rw [hw2]; exact ((Below.refl _ w).alloc (Nat.le_refl _) _).alloc (by simp) _
  have hz2 : w2.heap.size = w.heap.size + 2 := by rw [hw2]; simp
  have hbx : Whole w2 w.heap.size 27 [.pointer (some ⟨q, 0, none⟩)] := by rw [hw2]; exact (Whole.fresh w 27 [_]).alloc _
  have hex : Whole w2 (w.heap.size + 1) 24 [.int .i64 0] := by
    have := Whole.fresh (w.alloc (.cells #[.pointer (some ⟨q, 0, none⟩)] 27)) 24 [.int .i64 0]
    rw [hw2]; simpa using this
  have hm2 : Mv (fun _ => False) w w2 := Mv.of_new hB2 _
  have H2 := Lib.hid (h.mv hm2 (fun _ _ h => h))
  have HV2 := Lib.hid (hv.mv hm2 (Nat.le_refl _) (fun _ _ h => h.elim))
  have HGB2 := Lib.hid (hgb.below hB2 hgb.size)
  have HBX := Lib.hid hbx
  have HEX := Lib.hid hex
  have HB2 := Lib.hid hB2
  have HQ2 := Lib.hid (hq.below hB2 hqs)
  have HGG := Lib.hid hgG
  have HLOW := Lib.hid hlow
  have HW2 := Lib.hid hw2
  have c2 := hq.cell 2 _ rfl
  have f2 := hq.frozen 2
  have hgbs := hgb.size
  have HRL := Lib.hid hr
  have HB := Lib.hid h
  clear hbx hex hB2 hm2 hw2 hq h hv hgb hgG hlow hr
  obtain ⟨l, dead, t⟩ := b
  simp only at c2 HR H2 HB
  cases dead with
  | true =>
    have hr := HR.out
    rw [if_pos rfl] at hr
    have HR2 := Lib.hid hr; clear hr
    go_enter_defers Try.func23, Try.ntmps23
    go_wp2_with fail
    obtain ⟨w3, hw3⟩ : ∃ w3, w3 = (w.alloc (.cells #[.pointer (some ⟨q, 0, none⟩)] 27)).alloc (.cells #[.int .i64 11] 24) := ⟨_, rfl⟩
    rw [← hw3]
    have hB3 : Below w.heap.size w w3 := by rw [hw3]; exact ((Below.refl _ w).alloc (Nat.le_refl _) _).alloc (by simp) _
    have hx3 : Whole w3 w.heap.size 27 [.pointer (some ⟨q, 0, none⟩)] := by rw [hw3]; exact (Whole.fresh w 27 [_]).alloc _
    have he3 : Whole w3 (w.heap.size + 1) 24 [.int .i64 11] := by
      have := Whole.fresh (w.alloc (.cells #[.pointer (some ⟨q, 0, none⟩)] 27)) 24 [.int .i64 11]
      rw [hw3]; simpa using this
    have hq3 : Whole w3 q 53 [.pointer (some ⟨p, 0, none⟩), vq, .bool true] := by
      have h1 := HQ2.out
      unfold Whole at h1 ⊢
      rw [hB3.block q hqs, ← HB2.out.block q hqs]
      exact h1
    have hk3 : BkAt w3 base q p G ⟨l, true, t⟩ := HB.out.mv (Mv.of_new hB3 (fun _ => False)) (fun _ _ h => h)
    refine leaves_cons (f := 36) (args := #[.pointer (some ⟨w.heap.size + 1, 0, none⟩), .pointer (some ⟨w.heap.size, 0, none⟩)]) (by simp) (by simp [go_sem]) ?_
    refine (lay1_any (w.heap.size + 1) w.heap.size q 11 _ .returning _ (he3.cell 0 _ rfl) (hx3.cell 0 _ rfl) (hq3.cell 2 _ rfl) (hq3.frozen 2)).mono ?_
    rintro e u' w'' ⟨rfl, rfl, rfl⟩
    have k0 := he3.cell 0 _ rfl
    refine ⟨.int .i64 11, by simp [results, Try.results23, go_sem, k0], ?_⟩
    rw [HR2.out]
    exact ⟨rfl, G, hk3.note _, fun i hi => .inl hi, (Mv.of_new hB3 _).setCell (fun _ => hk3.at.1) _⟩
  | false =>
    have hr := HR.out
    rw [if_neg (by simp)] at hr
    have HR1 := Lib.hid hr; clear hr
    have HWR := Lib.hid (bwrite_any rows G v w2 (HV2.out.mono (by omega) (fun _ _ h => h)) hl HRL.out)
    go_enter_defers Try.func23, Try.ntmps23
    go_wp2_with fail
    (try rw [← HW2.out])
    refine HWR.out.mono ?_
    rintro e w3 ⟨hb3, hcase⟩
    have hx3 : Whole w3 w.heap.size 27 [.pointer (some ⟨q, 0, none⟩)] := HBX.out.below hb3 HBX.out.size
    have he3 : Whole w3 (w.heap.size + 1) 24 [.int .i64 0] := HEX.out.below hb3 HEX.out.size
    have hq3 := HQ2.out.below hb3 (by omega)
    have hgb3 := HGB2.out.below hb3 (by omega)
    have hk3 := H2.out.mv (Mv.of_new hb3 (fun _ => False)) (fun _ _ h => h)
    have hB3 : Below w.heap.size w w3 := HB2.out.trans (hb3.mono (by omega))
    have HX3 := Lib.hid hx3
    have HE3 := Lib.hid he3
    have HQ3 := Lib.hid hq3
    have HGB3 := Lib.hid hgb3
    have HK3 := Lib.hid hk3
    have HB3 := Lib.hid hB3
    have HB23 := Lib.hid hb3
    have e0 := he3.cell 0 _ rfl
    have e0f := he3.frozen 0
    have hes := he3.size
    clear hx3 he3 hq3 hgb3 hk3 hB3 hb3 c2 f2 HWR
    have hne : w.heap.size + 1 ≠ q := by omega
    rcases hcase with ⟨hfit, A, c, n, rfl, hn, ho⟩ | ⟨hnf, rfl⟩
    · have hr := HR1.out
      rw [if_neg (by simpa using hfit)] at hr
      have HR2 := Lib.hid hr
      obtain ⟨ov, htp, hsub⟩ := HK3.out.tape
      have hmE : Mv (fun i => i = w.heap.size + 1) w3 (w3.setCell ⟨w.heap.size + 1, 0, none⟩ (.int .i64 0)) := (Mv.refl (fun i => i = w.heap.size + 1) w3).setCell (p := ⟨w.heap.size + 1, 0, none⟩) (fun _ => rfl) _
      have hgE : ∀ i, G i → i ≠ w.heap.size + 1 := fun i hi => by have := (HLOW.out.2 i hi).2; omega
      have hout : HoldB w3 w2.heap.size (.slice A n c) (lay (texts rows)) := by rw [hn] at ho ⊢; exact HoldB.ofOwn ho
      have hll : (lay (texts rows)).length ≤ 140737488351232 := by
        have := lay_bound _ hfit
        have h2 : (texts rows).length = rows.length := by simp [texts]
        omega
      have hcl := addF_any base q p gb ov t (lay (texts rows)) (.slice A n c) [vq, .bool false] (w3.setCell ⟨w.heap.size + 1, 0, none⟩ (.int .i64 0)) (htp.mv hmE (fun h => by have := hgE p (hsub p (.inl rfl)); omega) (fun g hg h => by have := hgE g (hsub g (.inr hg.symm)); omega)) (hmE.whole HQ3.out (fun h => hne h.symm)) (hmE.whole HGB3.out (fun h => by omega))
        (fun wx hmx => by
          have hx := (hout.mv hmE (fun g hg h => by have := (hout.low hg).1; omega)).mv hmx (fun g hg hd => by have h1 := (hout.low hg).1; have h2 := (HLOW.out.2 g (hsub g hd)).2; omega)
          exact hx.rdB) hll
      have HCL := Lib.hid hcl
      have HTP := Lib.hid htp
      have HSUB := Lib.hid hsub
      have HME := Lib.hid hmE
      have HGE := Lib.hid hgE
      clear hr hn ho hfit hcl htp hsub hout hll hmE hgE
      go_wp2_with fail
      refine HCL.out.mono ?_
      rintro e w5 ⟨rfl, ov', hw⟩
      have hm5 : Mv (fun i => i = w.heap.size + 1 ∨ G i) w3 w5 := HME.out.mono (fun _ _ h => .inl h) |>.trans hw.moved (fun i _ hd => .inr (HSUB.out i hd))
      have hD : ∀ g, TapeD p ov g → g ≠ w.heap.size + 1 := fun g hg => HGE.out g (HSUB.out g hg)
      obtain ⟨G5, hk5, hG5⟩ := (HK3.out.mv HME.out (fun i hi => HGE.out i hi)).went (HTP.out.mv HME.out (fun h => hD p (.inl rfl) h) (fun g hg h => hD g (.inr hg.symm) h)) hw
      have he5 : Whole w5 (w.heap.size + 1) 24 [.int .i64 0] := hw.moved.whole (HE3.out.put 0 _) (fun h => hD _ h rfl)
      have hx5 : Whole w5 w.heap.size 27 [.pointer (some ⟨q, 0, none⟩)] := hm5.whole HX3.out (fun h => by rcases h with h | h; omega; have := (HLOW.out.2 _ h).2; omega)
      have z5 := he5.cell 0 _ rfl
      have z5f := he5.frozen 0
      have HK5 := Lib.hid hk5
      have HG5 := Lib.hid hG5
      have HE5 := Lib.hid he5
      have HX5 := Lib.hid hx5
      have HM5 := Lib.hid hm5
      have hs5 : w3.heap.size ≤ w5.heap.size := hm5.size
      obtain ⟨r, hr⟩ : ∃ r, r = (Tp.addS t (lay (texts rows))).1 := ⟨_, rfl⟩
      obtain ⟨t2, ht2⟩ : ∃ t2, t2 = (Tp.addS t (lay (texts rows))).2 := ⟨_, rfl⟩
      rw [← hr, ← ht2] at HR2
      rw [← ht2] at HK5
      rw [← hr]
      clear hw hm5 hD hk5 hG5 he5 hx5 hr ht2 HCL
      go_wp2_with fail
      obtain ⟨w9, hw9⟩ : ∃ w9, w9 = w5.setCell ⟨w.heap.size + 1, 0, none⟩ (.int .i64 r) := ⟨_, rfl⟩
      rw [← hw9]
      have hm9 : Mv (fun i => i = w.heap.size + 1) w5 w9 := by rw [hw9]; exact (Mv.refl (fun i => i = w.heap.size + 1) w5).setCell (p := ⟨w.heap.size + 1, 0, none⟩) (fun _ => rfl) _
      have hgE5 : ∀ i, G5 i → i ≠ w.heap.size + 1 := by
        intro i hi
        rcases HG5.out i hi with h | h
        · exact HGE.out i h
        · have hs : (w3.setCell ⟨w.heap.size + 1, 0, none⟩ (.int .i64 0)).heap.size = w3.heap.size := by simp
          omega
      have hk9 := HK5.out.mv hm9 (fun i hi => hgE5 i hi)
      obtain ⟨vq9, hq9⟩ := hk9.whole
      have he9 : Whole w9 (w.heap.size + 1) 24 [.int .i64 r] := by rw [hw9]; exact HE5.out.put 0 _
      have hx9 : Whole w9 w.heap.size 27 [.pointer (some ⟨q, 0, none⟩)] := hm9.whole HX5.out (fun h => by omega)
      refine leaves_cons (f := 36) (args := #[.pointer (some ⟨w.heap.size + 1, 0, none⟩), .pointer (some ⟨w.heap.size, 0, none⟩)]) (by simp) (by simp [go_sem]) ?_
      refine (lay1_any (w.heap.size + 1) w.heap.size q r _ .returning _ (he9.cell 0 _ rfl) (hx9.cell 0 _ rfl) (hq9.cell 2 _ rfl) (hq9.frozen 2)).mono ?_
      rintro e u' w'' ⟨rfl, rfl, rfl⟩
      have k0 := he9.cell 0 _ rfl
      refine ⟨.int .i64 r, by simp [results, Try.results23, go_sem, k0], ?_⟩
      rw [HR2.out]
      have hmw : Mv G w w9 := ((Mv.of_new HB3.out G).trans (D' := fun i => i = w.heap.size + 1 ∨ G i) HM5.out (fun i hi h => by rcases h with h | h; omega; exact h)).trans (D' := fun i => i = w.heap.size + 1) hm9 (fun i hi h => by omega)
      exact ⟨rfl, G5, hk9.note _, fun i hi => by
        rcases HG5.out i hi with h | h
        · exact .inl h
        · have hs : (w3.setCell ⟨w.heap.size + 1, 0, none⟩ (.int .i64 0)).heap.size = w3.heap.size := by simp
          have := HB3.out.size
          exact .inr (by omega), hmw.setCell (fun _ => HK3.out.at.1) _⟩
    · have hr := HR1.out
      rw [if_pos hnf] at hr
      have HR2 := Lib.hid hr
      clear hr hnf
      go_wp2_with fail
      obtain ⟨w9, hw9⟩ : ∃ w9, w9 = (w3.setCell ⟨w.heap.size + 1, 0, none⟩ (.int .i64 6)).setCell ⟨w.heap.size + 1, 0, none⟩ (.int .i64 6) := ⟨_, rfl⟩
      rw [← hw9]
      have hm9 : Mv (fun i => i = w.heap.size + 1) w3 w9 := by rw [hw9]; exact ((Mv.refl (fun i => i = w.heap.size + 1) w3).setCell (p := ⟨w.heap.size + 1, 0, none⟩) (fun _ => rfl) _).setCell (p := ⟨w.heap.size + 1, 0, none⟩) (fun _ => rfl) _
      have hk9 := HK3.out.mv hm9 (fun i hi h => by have := (HLOW.out.2 i hi).2; omega)
      obtain ⟨vq9, hq9⟩ := hk9.whole
      have he9 : Whole w9 (w.heap.size + 1) 24 [.int .i64 6] := by rw [hw9]; exact (HE3.out.put 0 _).put 0 _
      have hx9 : Whole w9 w.heap.size 27 [.pointer (some ⟨q, 0, none⟩)] := hm9.whole HX3.out (fun h => by omega)
      refine leaves_cons (f := 36) (args := #[.pointer (some ⟨w.heap.size + 1, 0, none⟩), .pointer (some ⟨w.heap.size, 0, none⟩)]) (by simp) (by simp [go_sem]) ?_
      refine (lay1_any (w.heap.size + 1) w.heap.size q 6 _ .returning _ (he9.cell 0 _ rfl) (hx9.cell 0 _ rfl) (hq9.cell 2 _ rfl) (hq9.frozen 2)).mono ?_
      rintro e u' w'' ⟨rfl, rfl, rfl⟩
      have k0 := he9.cell 0 _ rfl
      refine ⟨.int .i64 6, by simp [results, Try.results23, go_sem, k0], ?_⟩
      rw [HR2.out]
      have hmw : Mv G w w9 := (Mv.of_new HB3.out G).trans (D' := fun i => i = w.heap.size + 1) hm9 (fun i hi h => by omega)
      exact ⟨rfl, G, hk9.note _, fun i hi => .inl hi, hmw.setCell (fun _ => HK3.out.at.1) _⟩

set_option maxHeartbeats 8000000 in
set_option maxRecDepth 100000 in
theorem layR_any (base q p gb : Nat) (G : Nat → Prop) (b : Bks) (rows : List Row) (v : Value) (w : World) (h : BkAt w base q p G b) (hv : RdRs w w.heap.size G v rows) (hl : rows.length ≤ 1000) (hr : ∀ r ∈ rows, r.l.length ≤ 140737488351232) (hgb : Whole w gb 27 [.pointer (some ⟨q, 0, none⟩)]) (hgG : ¬ G gb) :
    Calls Try.prog 23 #[.pointer (some ⟨q, 0, none⟩), v, .func (.func 24) #[] #[.pointer (some ⟨gb, 0, none⟩)]] w fun e w' => e = .returned (.int .i64 (b.put Tp.repl (texts rows)).1) ∧ ∃ G', BkAt w' base q p G' (b.put Tp.repl (texts rows)).2 ∧ (∀ i, G' i → G i ∨ w.heap.size ≤ i) ∧ Mv G w w' := by
  have hmf : ∀ (fn : Fn) (first cap : Array Value) (w : World), (Instr.makeFunc fn first cap).run Try.prog w = .ok (.func fn first cap) w := fun _ _ _ _ => rfl
  obtain ⟨R, hR⟩ : ∃ R, R = b.put Tp.repl (texts rows) := ⟨_, rfl⟩
  rw [← hR]
  unfold Bks.put at hR
  have HR := Lib.hid hR; clear hR
  obtain ⟨vq, hq⟩ := h.whole
  have hqs := hq.size
  have hlow := h.low
  -- the two variables of the call's own
  obtain ⟨w2, hw2⟩ : ∃ w2, w2 = (w.alloc (.cells #[.pointer (some ⟨q, 0, none⟩)] 27)).alloc (.cells #[.int .i64 0] 24) := ⟨_, rfl⟩
  have hB2 : Below w.heap.size w w2 := by rw [hw2]; exact ((Below.refl _ w).alloc (Nat.le_refl _) _).alloc (by simp) _
  have hz2 : w2.heap.size = w.heap.size + 2 := by rw [hw2]; simp
  have hbx : Whole w2 w.heap.size 27 [.pointer (some ⟨q, 0, none⟩)] := by rw [hw2]; exact (Whole.fresh w 27 [_]).alloc _
  have hex : Whole w2 (w.heap.size + 1) 24 [.int .i64 0] := by
    have := Whole.fresh (w.alloc (.cells #[.pointer (some ⟨q, 0, none⟩)] 27)) 24 [.int .i64 0]
    rw [hw2]; simpa using this
  have hm2 : Mv (fun _ => False) w w2 := Mv.of_new hB2 _
  have H2 := Lib.hid (h.mv hm2 (fun _ _ h => h))
  have HV2 := Lib.hid (hv.mv hm2 (Nat.le_refl _) (fun _ _ h => h.elim))
  have HGB2 := Lib.hid (hgb.below hB2 hgb.size)
  have HBX := Lib.hid hbx
  have HEX := Lib.hid hex
  have HB2 := Lib.hid hB2
  have HQ2 := Lib.hid (hq.below hB2 hqs)
  have HGG := Lib.hid hgG
  have HLOW := Lib.hid hlow
  have HW2 := Lib.hid hw2
  have c2 := hq.cell 2 _ rfl
  have f2 := hq.frozen 2
  have hgbs := hgb.size
  have HRL := Lib.hid hr
  have HB := Lib.hid h
  clear hbx hex hB2 hm2 hw2 hq h hv hgb hgG hlow hr
  obtain ⟨l, dead, t⟩ := b
  simp only at c2 HR H2 HB
  cases dead with
  | true =>
    have hr := HR.out
    rw [if_pos rfl] at hr
    have HR2 := Lib.hid hr; clear hr
    go_enter_defers Try.func23, Try.ntmps23
    go_wp2_with fail
    obtain ⟨w3, hw3⟩ : ∃ w3, w3 = (w.alloc (.cells #[.pointer (some ⟨q, 0, none⟩)] 27)).alloc (.cells #[.int .i64 11] 24) := ⟨_, rfl⟩
    rw [← hw3]
    have hB3 : Below w.heap.size w w3 := by rw [hw3]; exact ((Below.refl _ w).alloc (Nat.le_refl _) _).alloc (by simp) _
    have hx3 : Whole w3 w.heap.size 27 [.pointer (some ⟨q, 0, none⟩)] := by rw [hw3]; exact (Whole.fresh w 27 [_]).alloc _
    have he3 : Whole w3 (w.heap.size + 1) 24 [.int .i64 11] := by
      have := Whole.fresh (w.alloc (.cells #[.pointer (some ⟨q, 0, none⟩)] 27)) 24 [.int .i64 11]
      rw [hw3]; simpa using this
    have hq3 : Whole w3 q 53 [.pointer (some ⟨p, 0, none⟩), vq, .bool true] := by
      have h1 := HQ2.out
      unfold Whole at h1 ⊢
      rw [hB3.block q hqs, ← HB2.out.block q hqs]
      exact h1
    have hk3 : BkAt w3 base q p G ⟨l, true, t⟩ := HB.out.mv (Mv.of_new hB3 (fun _ => False)) (fun _ _ h => h)
    refine leaves_cons (f := 36) (args := #[.pointer (some ⟨w.heap.size + 1, 0, none⟩), .pointer (some ⟨w.heap.size, 0, none⟩)]) (by simp) (by simp [go_sem]) ?_
    refine (lay1_any (w.heap.size + 1) w.heap.size q 11 _ .returning _ (he3.cell 0 _ rfl) (hx3.cell 0 _ rfl) (hq3.cell 2 _ rfl) (hq3.frozen 2)).mono ?_
    rintro e u' w'' ⟨rfl, rfl, rfl⟩
    have k0 := he3.cell 0 _ rfl
    refine ⟨.int .i64 11, by simp [results, Try.results23, go_sem, k0], ?_⟩
    rw [HR2.out]
    exact ⟨rfl, G, hk3.note _, fun i hi => .inl hi, (Mv.of_new hB3 _).setCell (fun _ => hk3.at.1) _⟩
  | false =>
    have hr := HR.out
    rw [if_neg (by simp)] at hr
    have HR1 := Lib.hid hr; clear hr
    have HWR := Lib.hid (bwrite_any rows G v w2 (HV2.out.mono (by omega) (fun _ _ h => h)) hl HRL.out)
    go_enter_defers Try.func23, Try.ntmps23
    go_wp2_with fail
    (try rw [← HW2.out])
    refine HWR.out.mono ?_
    rintro e w3 ⟨hb3, hcase⟩
    have hx3 : Whole w3 w.heap.size 27 [.pointer (some ⟨q, 0, none⟩)] := HBX.out.below hb3 HBX.out.size
    have he3 : Whole w3 (w.heap.size + 1) 24 [.int .i64 0] := HEX.out.below hb3 HEX.out.size
    have hq3 := HQ2.out.below hb3 (by omega)
    have hgb3 := HGB2.out.below hb3 (by omega)
    have hk3 := H2.out.mv (Mv.of_new hb3 (fun _ => False)) (fun _ _ h => h)
    have hB3 : Below w.heap.size w w3 := HB2.out.trans (hb3.mono (by omega))
    have HX3 := Lib.hid hx3
    have HE3 := Lib.hid he3
    have HQ3 := Lib.hid hq3
    have HGB3 := Lib.hid hgb3
    have HK3 := Lib.hid hk3
    have HB3 := Lib.hid hB3
    have HB23 := Lib.hid hb3
    have e0 := he3.cell 0 _ rfl
    have e0f := he3.frozen 0
    have hes := he3.size
    clear hx3 he3 hq3 hgb3 hk3 hB3 hb3 c2 f2 HWR
    have hne : w.heap.size + 1 ≠ q := by omega
    rcases hcase with ⟨hfit, A, c, n, rfl, hn, ho⟩ | ⟨hnf, rfl⟩
    · have hr := HR1.out
      rw [if_neg (by simpa using hfit)] at hr
      have HR2 := Lib.hid hr
      obtain ⟨ov, htp, hsub⟩ := HK3.out.tape
      have hmE : Mv (fun i => i = w.heap.size + 1) w3 (w3.setCell ⟨w.heap.size + 1, 0, none⟩ (.int .i64 0)) := (Mv.refl (fun i => i = w.heap.size + 1) w3).setCell (p := ⟨w.heap.size + 1, 0, none⟩) (fun _ => rfl) _
      have hgE : ∀ i, G i → i ≠ w.heap.size + 1 := fun i hi => by have := (HLOW.out.2 i hi).2; omega
      have hout : HoldB w3 w2.heap.size (.slice A n c) (lay (texts rows)) := by rw [hn] at ho ⊢; exact HoldB.ofOwn ho
      have hll : (lay (texts rows)).length ≤ 140737488351232 := by
        have := lay_bound _ hfit
        have h2 : (texts rows).length = rows.length := by simp [texts]
        omega
      have hcl := resetF_any base q p gb ov t (lay (texts rows)) (.slice A n c) [vq, .bool false] (w3.setCell ⟨w.heap.size + 1, 0, none⟩ (.int .i64 0)) (htp.mv hmE (fun h => by have := hgE p (hsub p (.inl rfl)); omega) (fun g hg h => by have := hgE g (hsub g (.inr hg.symm)); omega)) (hmE.whole HQ3.out (fun h => hne h.symm)) (hmE.whole HGB3.out (fun h => by omega))
        (fun wx hmx => by
          have hx := (hout.mv hmE (fun g hg h => by have := (hout.low hg).1; omega)).mv hmx (fun g hg hd => by have h1 := (hout.low hg).1; have h2 := (HLOW.out.2 g (hsub g hd)).2; omega)
          exact hx.rdB) hll
      have HCL := Lib.hid hcl
      have HTP := Lib.hid htp
      have HSUB := Lib.hid hsub
      have HME := Lib.hid hmE
      have HGE := Lib.hid hgE
      clear hr hn ho hfit hcl htp hsub hout hll hmE hgE
      go_wp2_with fail
      refine HCL.out.mono ?_
      rintro e w5 ⟨rfl, ov', hw⟩
      have hm5 : Mv (fun i => i = w.heap.size + 1 ∨ G i) w3 w5 := HME.out.mono (fun _ _ h => .inl h) |>.trans hw.moved (fun i _ hd => .inr (HSUB.out i hd))
      have hD : ∀ g, TapeD p ov g → g ≠ w.heap.size + 1 := fun g hg => HGE.out g (HSUB.out g hg)
      obtain ⟨G5, hk5, hG5⟩ := (HK3.out.mv HME.out (fun i hi => HGE.out i hi)).went (HTP.out.mv HME.out (fun h => hD p (.inl rfl) h) (fun g hg h => hD g (.inr hg.symm) h)) hw
      have he5 : Whole w5 (w.heap.size + 1) 24 [.int .i64 0] := hw.moved.whole (HE3.out.put 0 _) (fun h => hD _ h rfl)
      have hx5 : Whole w5 w.heap.size 27 [.pointer (some ⟨q, 0, none⟩)] := hm5.whole HX3.out (fun h => by rcases h with h | h; omega; have := (HLOW.out.2 _ h).2; omega)
      have z5 := he5.cell 0 _ rfl
      have z5f := he5.frozen 0
      have HK5 := Lib.hid hk5
      have HG5 := Lib.hid hG5
      have HE5 := Lib.hid he5
      have HX5 := Lib.hid hx5
      have HM5 := Lib.hid hm5
      have hs5 : w3.heap.size ≤ w5.heap.size := hm5.size
      obtain ⟨r, hr⟩ : ∃ r, r = (Tp.repl t (lay (texts rows))).1 := ⟨_, rfl⟩
      obtain ⟨t2, ht2⟩ : ∃ t2, t2 = (Tp.repl t (lay (texts rows))).2 := ⟨_, rfl⟩
      rw [← hr, ← ht2] at HR2
      rw [← ht2] at HK5
      rw [← hr]
      clear hw hm5 hD hk5 hG5 he5 hx5 hr ht2 HCL
      go_wp2_with fail
      obtain ⟨w9, hw9⟩ : ∃ w9, w9 = w5.setCell ⟨w.heap.size + 1, 0, none⟩ (.int .i64 r) := ⟨_, rfl⟩
      rw [← hw9]
      have hm9 : Mv (fun i => i = w.heap.size + 1) w5 w9 := by rw [hw9]; exact (Mv.refl (fun i => i = w.heap.size + 1) w5).setCell (p := ⟨w.heap.size + 1, 0, none⟩) (fun _ => rfl) _
      have hgE5 : ∀ i, G5 i → i ≠ w.heap.size + 1 := by
        intro i hi
        rcases HG5.out i hi with h | h
        · exact HGE.out i h
        · have hs : (w3.setCell ⟨w.heap.size + 1, 0, none⟩ (.int .i64 0)).heap.size = w3.heap.size := by simp
          omega
      have hk9 := HK5.out.mv hm9 (fun i hi => hgE5 i hi)
      obtain ⟨vq9, hq9⟩ := hk9.whole
      have he9 : Whole w9 (w.heap.size + 1) 24 [.int .i64 r] := by rw [hw9]; exact HE5.out.put 0 _
      have hx9 : Whole w9 w.heap.size 27 [.pointer (some ⟨q, 0, none⟩)] := hm9.whole HX5.out (fun h => by omega)
      refine leaves_cons (f := 36) (args := #[.pointer (some ⟨w.heap.size + 1, 0, none⟩), .pointer (some ⟨w.heap.size, 0, none⟩)]) (by simp) (by simp [go_sem]) ?_
      refine (lay1_any (w.heap.size + 1) w.heap.size q r _ .returning _ (he9.cell 0 _ rfl) (hx9.cell 0 _ rfl) (hq9.cell 2 _ rfl) (hq9.frozen 2)).mono ?_
      rintro e u' w'' ⟨rfl, rfl, rfl⟩
      have k0 := he9.cell 0 _ rfl
      refine ⟨.int .i64 r, by simp [results, Try.results23, go_sem, k0], ?_⟩
      rw [HR2.out]
      have hmw : Mv G w w9 := ((Mv.of_new HB3.out G).trans (D' := fun i => i = w.heap.size + 1 ∨ G i) HM5.out (fun i hi h => by rcases h with h | h; omega; exact h)).trans (D' := fun i => i = w.heap.size + 1) hm9 (fun i hi h => by omega)
      exact ⟨rfl, G5, hk9.note _, fun i hi => by
        rcases HG5.out i hi with h | h
        · exact .inl h
        · have hs : (w3.setCell ⟨w.heap.size + 1, 0, none⟩ (.int .i64 0)).heap.size = w3.heap.size := by simp
          have := HB3.out.size
          exact .inr (by omega), hmw.setCell (fun _ => HK3.out.at.1) _⟩
    · have hr := HR1.out
      rw [if_pos hnf] at hr
      have HR2 := Lib.hid hr
      clear hr hnf
      go_wp2_with fail
      obtain ⟨w9, hw9⟩ : ∃ w9, w9 = (w3.setCell ⟨w.heap.size + 1, 0, none⟩ (.int .i64 6)).setCell ⟨w.heap.size + 1, 0, none⟩ (.int .i64 6) := ⟨_, rfl⟩
      rw [← hw9]
      have hm9 : Mv (fun i => i = w.heap.size + 1) w3 w9 := by rw [hw9]; exact ((Mv.refl (fun i => i = w.heap.size + 1) w3).setCell (p := ⟨w.heap.size + 1, 0, none⟩) (fun _ => rfl) _).setCell (p := ⟨w.heap.size + 1, 0, none⟩) (fun _ => rfl) _
      have hk9 := HK3.out.mv hm9 (fun i hi h => by have := (HLOW.out.2 i hi).2; omega)
      obtain ⟨vq9, hq9⟩ := hk9.whole
      have he9 : Whole w9 (w.heap.size + 1) 24 [.int .i64 6] := by rw [hw9]; exact (HE3.out.put 0 _).put 0 _
      have hx9 : Whole w9 w.heap.size 27 [.pointer (some ⟨q, 0, none⟩)] := hm9.whole HX3.out (fun h => by omega)
      refine leaves_cons (f := 36) (args := #[.pointer (some ⟨w.heap.size + 1, 0, none⟩), .pointer (some ⟨w.heap.size, 0, none⟩)]) (by simp) (by simp [go_sem]) ?_
      refine (lay1_any (w.heap.size + 1) w.heap.size q 6 _ .returning _ (he9.cell 0 _ rfl) (hx9.cell 0 _ rfl) (hq9.cell 2 _ rfl) (hq9.frozen 2)).mono ?_
      rintro e u' w'' ⟨rfl, rfl, rfl⟩
      have k0 := he9.cell 0 _ rfl
      refine ⟨.int .i64 6, by simp [results, Try.results23, go_sem, k0], ?_⟩
      rw [HR2.out]
      have hmw : Mv G w w9 := (Mv.of_new HB3.out G).trans (D' := fun i => i = w.heap.size + 1) hm9 (fun i hi h => by omega)
      exact ⟨rfl, G, hk9.note _, fun i hi => .inl hi, hmw.setCell (fun _ => HK3.out.at.1) _⟩
end Go.Proofs.Ytaenlkopjmgniaa

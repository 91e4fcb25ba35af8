/- What the program's lay leaves, with either way of writing. What the program's Add and Reset leave. -/
import Derived.Test.YtmigninibdecmaaGreatFai
import Derived.Test.YtmigninibdecmaaGreatFah
import Derived.Test.YtmigninibdecmaaGreatFad
namespace Go.Proofs.YtmigninibdecmaaGreat
open Go.RowKit

/-- one call of a book that writes by f: what it answers, and the book behind it; its records are those from before -/
def Bks.put (f : Tp → List UInt8 → Int × Tp) (b : Bks) (list : List (List UInt8)) : Int × Bks :=
  if b.dead = true then (11, b) else if ¬ fits list then (6, b) else
  ((f b.t (lay list)).1, { b with t := (f b.t (lay list)).2, dead := decide ((f b.t (lay list)).1 = 11) })
set_option maxRecDepth 100000 in
/-- the note of a book, written anew -/
theorem BkAt.note {w : World} {base q p : Nat} {G : Nat → Prop} {b : Bks} (h : BkAt w base q p G b) (d : Bool) : BkAt (w.setCell ⟨q, 2, none⟩ (.bool d)) base q p G { b with dead := d } := by
  obtain ⟨ov, A, c, n, rows, h1, h2, h3, h4, h5, h6, h7, h8, h9, h10, h11, h12, h13, h14, h15⟩ := h
  have hm : Mv (fun i => i = q) w (w.setCell ⟨q, 2, none⟩ (.bool d)) := (Mv.refl (fun i => i = q) w).setCell (p := ⟨q, 2, none⟩) (fun _ => rfl) _
  obtain ⟨k1, k2⟩ := h7.apart h1 (by decide) (by decide)
  exact ⟨ov, A, c, n, rows, h1.put 2 _, h2, OwnR.mv h3 hm (fun g hg e => OwnR.off h3 h1 (by decide) (e ▸ hg)), h4.mv hm (fun r hr g hg e => (h4 r hr).apart h1 (by decide) (e ▸ hg)), h5, h6, h7.mv hm (fun e => k1 e.symm) (fun g hg e => k2 (e ▸ hg)), h8, h9, h10, h11, h12, h13, by simpa using h14, fun i hi => by simpa using h15 i hi⟩
theorem BkAt.whole {w : World} {base q p : Nat} {G : Nat → Prop} {b : Bks} (h : BkAt w base q p G b) : ∃ v, Whole w q 102 [.pointer (some ⟨p, 0, none⟩), v, .bool b.dead] := by
  obtain ⟨ov, A, c, n, rows, h1, _⟩ := h
  exact ⟨_, h1⟩

set_option maxHeartbeats 8000000 in
set_option maxRecDepth 100000 in
theorem layA_any (base q p gb : Nat) (G : Nat → Prop) (b : Bks) (rows : List Row) (v : Value) (w : World) (h : BkAt w base q p G b) (hv : RdRs w w.heap.size G v rows) (hl : rows.length ≤ 1000) (hr : ∀ r ∈ rows, r.l.length ≤ 140737488351232) (hgb : Whole w gb 56 [.pointer (some ⟨q, 0, none⟩)]) (hgG : ¬ G gb) :
    Calls Tryz.prog 88 #[.pointer (some ⟨q, 0, none⟩), v, .func (.func 89) #[] #[.pointer (some ⟨gb, 0, none⟩)]] w fun e w' => e = .returned (.int .i64 (b.put Tp.addS (texts rows)).1) ∧ ∃ G', BkAt w' base q p G' (b.put Tp.addS (texts rows)).2 ∧ (∀ i, G' i → G i ∨ w.heap.size ≤ i) ∧ Mv G w w' := by
  have hmf : ∀ (fn : Fn) (first cap : Array Value) (w : World), (Instr.makeFunc fn first cap).run Tryz.prog w = .ok (.func fn first cap) w := fun _ _ _ _ => rfl
  obtain ⟨R, hR⟩ : ∃ R, R = b.put Tp.addS (texts rows) := ⟨_, rfl⟩
  rw [← hR]
  unfold Bks.put at hR
  have HR := Lib.hid hR; clear hR
  obtain ⟨vq, hq⟩ := h.whole
  have hqs := hq.size
  have hlow := h.low
  -- the two variables of the call's own
  obtain ⟨w2, hw2⟩ : ∃ w2, w2 = (w.alloc (.cells #[.pointer (some ⟨q, 0, none⟩)] 56)).alloc (.cells #[.int .i64 0] 23) := ⟨_, rfl⟩
  have hB2 : Below w.heap.size w w2 := by rw [hw2]; exact ((Below.refl _ w).alloc (Nat.le_refl _) _).alloc (by simp) _
  have hz2 : w2.heap.size = w.heap.size + 2 := by rw [hw2]; simp
  have hbx : Whole w2 w.heap.size 56 [.pointer (some ⟨q, 0, none⟩)] := by rw [hw2]; exact (Whole.fresh w 56 [_]).alloc _
  have hex : Whole w2 (w.heap.size + 1) 23 [.int .i64 0] := by
    have := Whole.fresh (w.alloc (.cells #[.pointer (some ⟨q, 0, none⟩)] 56)) 23 [.int .i64 0]
    rw [hw2]; simpa using this
  have hm2 : Mv (fun _ => False) w w2 := Mv.of_new hB2 _
  have H2 := Lib.hid (h.mv hm2 (fun _ _ h => h))
  have HV2 := Lib.hid (hv.mv hm2 (Nat.le_refl _) (fun _ _ h => h.elim))
  have HGB2 := Lib.hid (hgb.below hB2 hgb.size)
  have HBX := Lib.hid hbx
  have HEX := Lib.hid hex
  have HB2 := Lib.hid hB2
  have HQ2 := Lib.hid (hq.below hB2 hqs)
  have HGG := Lib.hid hgG
  have HLOW := Lib.hid hlow
  have HW2 := Lib.hid hw2
  have c2 := hq.cell 2 _ rfl
  have f2 := hq.frozen 2
  have hgbs := hgb.size
  have HRL := Lib.hid hr
  have HB := Lib.hid h
  clear hbx hex hB2 hm2 hw2 hq h hv hgb hgG hlow hr
  obtain ⟨l, dead, t⟩ := b
  simp only at c2 HR H2 HB
  cases dead with
  | true =>
    have hr := HR.out
    rw [if_pos rfl] at hr
    have HR2 := Lib.hid hr; clear hr
    go_enter_defers Tryz.func88, Tryz.ntmps88
    go_wp2_with fail
    obtain ⟨w3, hw3⟩ : ∃ w3, w3 = (w.alloc (.cells #[.pointer (some ⟨q, 0, none⟩)] 56)).alloc (.cells #[.int .i64 11] 23) := ⟨_, rfl⟩
    rw [← hw3]
    have hB3 : Below w.heap.size w w3 := by rw [hw3]; exact ((Below.refl _ w).alloc (Nat.le_refl _) _).alloc (by simp) _
    have hx3 : Whole w3 w.heap.size 56 [.pointer (some ⟨q, 0, none⟩)] := by rw [hw3]; exact (Whole.fresh w 56 [_]).alloc _
    have he3 : Whole w3 (w.heap.size + 1) 23 [.int .i64 11] := by
      have := Whole.fresh (w.alloc (.cells #[.pointer (some ⟨q, 0, none⟩)] 56)) 23 [.int .i64 11]
      rw [hw3]; simpa using this
    have hq3 : Whole w3 q 102 [.pointer (some ⟨p, 0, none⟩), vq, .bool true] := by
      have h1 := HQ2.out
      unfold Whole at h1 ⊢
      rw [hB3.block q hqs, ← HB2.out.block q hqs]
      exact h1
    have hk3 : BkAt w3 base q p G ⟨l, true, t⟩ := HB.out.mv (Mv.of_new hB3 (fun _ => False)) (fun _ _ h => h)
    refine leaves_cons (f := 114) (args := #[.pointer (some ⟨w.heap.size + 1, 0, none⟩), .pointer (some ⟨w.heap.size, 0, none⟩)]) (by simp) (by simp [go_sem]) ?_
    refine (lay1_any (w.heap.size + 1) w.heap.size q 11 _ .returning _ (he3.cell 0 _ rfl) (hx3.cell 0 _ rfl) (hq3.cell 2 _ rfl) (hq3.frozen 2)).mono ?_
    rintro e u' w'' ⟨rfl, rfl, rfl⟩
    have k0 := he3.cell 0 _ rfl
    refine ⟨.int .i64 11, by simp [results, Tryz.results88, go_sem, k0], ?_⟩
    rw [HR2.out]
    exact ⟨rfl, G, hk3.note _, fun i hi => .inl hi, (Mv.of_new hB3 _).setCell (fun _ => hk3.at.1) _⟩
  | false =>
    have hr := HR.out
    rw [if_neg (by simp)] at hr
    have HR1 := Lib.hid hr; clear hr
    have HWR := Lib.hid (bwrite_any rows G v w2 (HV2.out.mono (by omega) (fun _ _ h => h)) hl HRL.out)
    go_enter_defers Tryz.func88, Tryz.ntmps88
    go_wp2_with fail
    (try rw [← HW2.out])
    refine HWR.out.mono ?_
    rintro e w3 ⟨hb3, hcase⟩
    have hx3 : Whole w3 w.heap.size 56 [.pointer (some ⟨q, 0, none⟩)] := HBX.out.below hb3 HBX.out.size
    have he3 : Whole w3 (w.heap.size + 1) 23 [.int .i64 0] := HEX.out.below hb3 HEX.out.size
    have hq3 := HQ2.out.below hb3 (by omega)
    have hgb3 := HGB2.out.below hb3 (by omega)
    have hk3 := H2.out.mv (Mv.of_new hb3 (fun _ => False)) (fun _ _ h => h)
    have hB3 : Below w.heap.size w w3 := HB2.out.trans (hb3.mono (by omega))
    have HX3 := Lib.hid hx3
    have HE3 := Lib.hid he3
    have HQ3 := Lib.hid hq3
    have HGB3 := Lib.hid hgb3
    have HK3 := Lib.hid hk3
    have HB3 := Lib.hid hB3
    have HB23 := Lib.hid hb3
    have e0 := he3.cell 0 _ rfl
    have e0f := he3.frozen 0
    have hes := he3.size
    clear hx3 he3 hq3 hgb3 hk3 hB3 hb3 c2 f2 HWR
    have hne : w.heap.size + 1 ≠ q := by omega
    rcases hcase with ⟨hfit, A, c, n, rfl, hn, ho⟩ | ⟨hnf, rfl⟩
    · have hr := HR1.out
      rw [if_neg (by simpa using hfit)] at hr
      have HR2 := Lib.hid hr
      obtain ⟨ov, htp, hsub⟩ := HK3.out.tape
      have hmE : Mv (fun i => i = w.heap.size + 1) w3 (w3.setCell ⟨w.heap.size + 1, 0, none⟩ (.int .i64 0)) := (Mv.refl (fun i => i = w.heap.size + 1) w3).setCell (p := ⟨w.heap.size + 1, 0, none⟩) (fun _ => rfl) _
      have hgE : ∀ i, G i → i ≠ w.heap.size + 1 := fun i hi => by have := (HLOW.out.2 i hi).2; omega
      have hout : HoldB w3 w2.heap.size (.slice A n c) (lay (texts rows)) := by rw [hn] at ho ⊢; exact HoldB.ofOwn ho
      have hll : (lay (texts rows)).length ≤ 140737488351232 := by
        have := lay_bound _ hfit
        have h2 : (texts rows).length = rows.length := by simp [texts]
        omega
      have hcl := addF_any base q p gb ov t (lay (texts rows)) (.slice A n c) [vq, .bool false] (w3.setCell ⟨w.heap.size + 1, 0, none⟩ (.int .i64 0)) (htp.mv hmE (fun h => by have := hgE p (hsub p (.inl rfl)); omega) (fun g hg h => by have := hgE g (hsub g (.inr hg.symm)); omega)) (hmE.whole HQ3.out (fun h => hne h.symm)) (hmE.whole HGB3.out (fun h => by omega))
        (fun wx hmx => by
          have hx := (hout.mv hmE (fun g hg h => by have := (hout.low hg).1; omega)).mv hmx (fun g hg hd => by have h1 := (hout.low hg).1; have h2 := (HLOW.out.2 g (hsub g hd)).2; omega)
          exact hx.rdB) hll
      have HCL := Lib.hid hcl
      have HTP := Lib.hid htp
      have HSUB := Lib.hid hsub
      have HME := Lib.hid hmE
      have HGE := Lib.hid hgE
      clear hr hn ho hfit hcl htp hsub hout hll hmE hgE
      go_wp2_with fail
      refine HCL.out.mono ?_
      rintro e w5 ⟨rfl, ov', hw⟩
      have hm5 : Mv (fun i => i = w.heap.size + 1 ∨ G i) w3 w5 := HME.out.mono (fun _ _ h => .inl h) |>.trans hw.moved (fun i _ hd => .inr (HSUB.out i hd))
      have hD : ∀ g, TapeD p ov g → g ≠ w.heap.size + 1 := fun g hg => HGE.out g (HSUB.out g hg)
      obtain ⟨G5, hk5, hG5⟩ := (HK3.out.mv HME.out (fun i hi => HGE.out i hi)).went (HTP.out.mv HME.out (fun h => hD p (.inl rfl) h) (fun g hg h => hD g (.inr hg.symm) h)) hw
      have he5 : Whole w5 (w.heap.size + 1) 23 [.int .i64 0] := hw.moved.whole (HE3.out.put 0 _) (fun h => hD _ h rfl)
      have hx5 : Whole w5 w.heap.size 56 [.pointer (some ⟨q, 0, none⟩)] := hm5.whole HX3.out (fun h => by rcases h with h | h; omega; have := (HLOW.out.2 _ h).2; omega)
      have z5 := he5.cell 0 _ rfl
      have z5f := he5.frozen 0
      have HK5 := Lib.hid hk5
      have HG5 := Lib.hid hG5
      have HE5 := Lib.hid he5
      have HX5 := Lib.hid hx5
      have HM5 := Lib.hid hm5
      have hs5 : w3.heap.size ≤ w5.heap.size := hm5.size
      obtain ⟨r, hr⟩ : ∃ r, r = (Tp.addS t (lay (texts rows))).1 := ⟨_, rfl⟩
      obtain ⟨t2, ht2⟩ : ∃ t2, t2 = (Tp.addS t (lay (texts rows))).2 := ⟨_, rfl⟩
      rw [← hr, ← ht2] at HR2
      rw [← ht2] at HK5
      rw [← hr]
      clear hw hm5 hD hk5 hG5 he5 hx5 hr ht2 HCL
      go_wp2_with fail
      obtain ⟨w9, hw9⟩ : ∃ w9, w9 = w5.setCell ⟨w.heap.size + 1, 0, none⟩ (.int .i64 r) := ⟨_, rfl⟩
      rw [← hw9]
      have hm9 : Mv (fun i => i = w.heap.size + 1) w5 w9 := by rw [hw9]; exact (Mv.refl (fun i => i = w.heap.size + 1) w5).setCell (p := ⟨w.heap.size + 1, 0, none⟩) (fun _ => rfl) _
      have hgE5 : ∀ i, G5 i → i ≠ w.heap.size + 1 := by
        intro i hi
        rcases HG5.out i hi with h | h
        · exact HGE.out i h
        · have hs : (w3.setCell ⟨w.heap.size + 1, 0, none⟩ (.int .i64 0)).heap.size = w3.heap.size := by simp
          omega
      have hk9 := HK5.out.mv hm9 (fun i hi => hgE5 i hi)
      obtain ⟨vq9, hq9⟩ := hk9.whole
      have he9 : Whole w9 (w.heap.size + 1) 23 [.int .i64 r] := by rw [hw9]; exact HE5.out.put 0 _
      have hx9 : Whole w9 w.heap.size 56 [.pointer (some ⟨q, 0, none⟩)] := hm9.whole HX5.out (fun h => by omega)
      refine leaves_cons (f := 114) (args := #[.pointer (some ⟨w.heap.size + 1, 0, none⟩), .pointer (some ⟨w.heap.size, 0, none⟩)]) (by simp) (by simp [go_sem]) ?_
      refine (lay1_any (w.heap.size + 1) w.heap.size q r _ .returning _ (he9.cell 0 _ rfl) (hx9.cell 0 _ rfl) (hq9.cell 2 _ rfl) (hq9.frozen 2)).mono ?_
      rintro e u' w'' ⟨rfl, rfl, rfl⟩
      have k0 := he9.cell 0 _ rfl
      refine ⟨.int .i64 r, by simp [results, Tryz.results88, go_sem, k0], ?_⟩
      rw [HR2.out]
      have hmw : Mv G w w9 := ((Mv.of_new HB3.out G).trans (D' := fun i => i = w.heap.size + 1 ∨ G i) HM5.out (fun i hi h => by rcases h with h | h; omega; exact h)).trans (D' := fun i => i = w.heap.size + 1) hm9 (fun i hi h => by omega)
      exact ⟨rfl, G5, hk9.note _, fun i hi => by
        rcases HG5.out i hi with h | h
        · exact .inl h
        · have hs : (w3.setCell ⟨w.heap.size + 1, 0, none⟩ (.int .i64 0)).heap.size = w3.heap.size := by simp
          have := HB3.out.size
          exact .inr (by omega), hmw.setCell (fun _ => HK3.out.at.1) _⟩
    · have hr := HR1.out
      rw [if_pos hnf] at hr
      have HR2 := Lib.hid hr
      clear hr hnf
      go_wp2_with fail
      obtain ⟨w9, hw9⟩ : ∃ w9, w9 = (w3.setCell ⟨w.heap.size + 1, 0, none⟩ (.int .i64 6)).setCell ⟨w.heap.size + 1, 0, none⟩ (.int .i64 6) := ⟨_, rfl⟩
      rw [← hw9]
      have hm9 : Mv (fun i => i = w.heap.size + 1) w3 w9 := by rw [hw9]; exact ((Mv.refl (fun i => i = w.heap.size + 1) w3).setCell (p := ⟨w.heap.size + 1, 0, none⟩) (fun _ => rfl) _).setCell (p := ⟨w.heap.size + 1, 0, none⟩) (fun _ => rfl) _
      have hk9 := HK3.out.mv hm9 (fun i hi h => by have := (HLOW.out.2 i hi).2; omega)
      obtain ⟨vq9, hq9⟩ := hk9.whole
      have he9 : Whole w9 (w.heap.size + 1) 23 [.int .i64 6] := by rw [hw9]; exact (HE3.out.put 0 _).put 0 _
      have hx9 : Whole w9 w.heap.size 56 [.pointer (some ⟨q, 0, none⟩)] := hm9.whole HX3.out (fun h => by omega)
      refine leaves_cons (f := 114) (args := #[.pointer (some ⟨w.heap.size + 1, 0, none⟩), .pointer (some ⟨w.heap.size, 0, none⟩)]) (by simp) (by simp [go_sem]) ?_
      refine (lay1_any (w.heap.size + 1) w.heap.size q 6 _ .returning _ (he9.cell 0 _ rfl) (hx9.cell 0 _ rfl) (hq9.cell 2 _ rfl) (hq9.frozen 2)).mono ?_
      rintro e u' w'' ⟨rfl, rfl, rfl⟩
      have k0 := he9.cell 0 _ rfl
      refine ⟨.int .i64 6, by simp [results, Tryz.results88, go_sem, k0], ?_⟩
      rw [HR2.out]
      have hmw : Mv G w w9 := (Mv.of_new HB3.out G).trans (D' := fun i => i = w.heap.size + 1) hm9 (fun i hi h => by omega)
      exact ⟨rfl, G, hk9.note _, fun i hi => .inl hi, hmw.setCell (fun _ => HK3.out.at.1) _⟩

set_option maxHeartbeats 8000000 in
set_option maxRecDepth 100000 in
theorem layR_any (base q p gb : Nat) (G : Nat → Prop) (b : Bks) (rows : List Row) (v : Value) (w : World) (h : BkAt w base q p G b) (hv : RdRs w w.heap.size G v rows) (hl : rows.length ≤ 1000) (hr : ∀ r ∈ rows, r.l.length ≤ 140737488351232) (hgb : Whole w gb 56 [.pointer (some ⟨q, 0, none⟩)]) (hgG : ¬ G gb) :
    Calls Tryz.prog 88 #[.pointer (some ⟨q, 0, none⟩), v, .func (.func 99) #[] #[.pointer (some ⟨gb, 0, none⟩)]] w fun e w' => e = .returned (.int .i64 (b.put Tp.repl (texts rows)).1) ∧ ∃ G', BkAt w' base q p G' (b.put Tp.repl (texts rows)).2 ∧ (∀ i, G' i → G i ∨ w.heap.size ≤ i) ∧ Mv G w w' := by
  have hmf : ∀ (fn : Fn) (first cap : Array Value) (w : World), (Instr.makeFunc fn first cap).run Tryz.prog w = .ok (.func fn first cap) w := fun _ _ _ _ => rfl
  obtain ⟨R, hR⟩ : ∃ R, R = b.put Tp.repl (texts rows) := ⟨_, rfl⟩
  rw [← hR]
  unfold Bks.put at hR
  have HR := Lib.hid hR; clear hR
  obtain ⟨vq, hq⟩ := h.whole
  have hqs := hq.size
  have hlow := h.low
  -- the two variables of the call's own
  obtain ⟨w2, hw2⟩ : ∃ w2, w2 = (w.alloc (.cells #[.pointer (some ⟨q, 0, none⟩)] 56)).alloc (.cells #[.int .i64 0] 23) := ⟨_, rfl⟩
  have hB2 : Below w.heap.size w w2 := by rw [hw2]; exact ((Below.refl _ w).alloc (Nat.le_refl _) _).alloc (by simp) _
  have hz2 : w2.heap.size = w.heap.size + 2 := by rw [hw2]; simp
  have hbx : Whole w2 w.heap.size 56 [.pointer (some ⟨q, 0, none⟩)] := by rw [hw2]; exact (Whole.fresh w 56 [_]).alloc _
  have hex : Whole w2 (w.heap.size + 1) 23 [.int .i64 0] := by
    have := Whole.fresh (w.alloc (.cells #[.pointer (some ⟨q, 0, none⟩)] 56)) 23 [.int .i64 0]
    rw [hw2]; simpa using this
  have hm2 : Mv (fun _ => False) w w2 := Mv.of_new hB2 _
  have H2 := Lib.hid (h.mv hm2 (fun _ _ h => h))
  have HV2 := Lib.hid (hv.mv hm2 (Nat.le_refl _) (fun _ _ h => h.elim))
  have HGB2 := Lib.hid (hgb.below hB2 hgb.size)
  have HBX := Lib.hid hbx
  have HEX := Lib.hid hex
  have HB2 := Lib.hid hB2
  have HQ2 := Lib.hid (hq.below hB2 hqs)
  have HGG := Lib.hid hgG
  have HLOW := Lib.hid hlow
  have HW2 := Lib.hid hw2
  have c2 := hq.cell 2 _ rfl
  have f2 := hq.frozen 2
  have hgbs := hgb.size
  have HRL := Lib.hid hr
  have HB := Lib.hid h
  clear hbx hex hB2 hm2 hw2 hq h hv hgb hgG hlow hr
  obtain ⟨l, dead, t⟩ := b
  simp only at c2 HR H2 HB
  cases dead with
  | true =>
    have hr := HR.out
    rw [if_pos rfl] at hr
    have HR2 := Lib.hid hr; clear hr
    go_enter_defers Tryz.func88, Tryz.ntmps88
    go_wp2_with fail
    obtain ⟨w3, hw3⟩ : ∃ w3, w3 = (w.alloc (.cells #[.pointer (some ⟨q, 0, none⟩)] 56)).alloc (.cells #[.int .i64 11] 23) := ⟨_, rfl⟩
    rw [← hw3]
    have hB3 : Below w.heap.size w w3 := by rw [hw3]; exact ((Below.refl _ w).alloc (Nat.le_refl _) _).alloc (by simp) _
    have hx3 : Whole w3 w.heap.size 56 [.pointer (some ⟨q, 0, none⟩)] := by rw [hw3]; exact (Whole.fresh w 56 [_]).alloc _
    have he3 : Whole w3 (w.heap.size + 1) 23 [.int .i64 11] := by
      have := Whole.fresh (w.alloc (.cells #[.pointer (some ⟨q, 0, none⟩)] 56)) 23 [.int .i64 11]
      rw [hw3]; simpa using this
    have hq3 : Whole w3 q 102 [.pointer (some ⟨p, 0, none⟩), vq, .bool true] := by
      have h1 := HQ2.out
      unfold Whole at h1 ⊢
      rw [hB3.block q hqs, ← HB2.out.block q hqs]
      exact h1
    have hk3 : BkAt w3 base q p G ⟨l, true, t⟩ := HB.out.mv (Mv.of_new hB3 (fun _ => False)) (fun _ _ h => h)
    refine leaves_cons (f := 114) (args := #[.pointer (some ⟨w.heap.size + 1, 0, none⟩), .pointer (some ⟨w.heap.size, 0, none⟩)]) (by simp) (by simp [go_sem]) ?_
    refine (lay1_any (w.heap.size + 1) w.heap.size q 11 _ .returning _ (he3.cell 0 _ rfl) (hx3.cell 0 _ rfl) (hq3.cell 2 _ rfl) (hq3.frozen 2)).mono ?_
    rintro e u' w'' ⟨rfl, rfl, rfl⟩
    have k0 := he3.cell 0 _ rfl
    refine ⟨.int .i64 11, by simp [results, Tryz.results88, go_sem, k0], ?_⟩
    rw [HR2.out]
    exact ⟨rfl, G, hk3.note _, fun i hi => .inl hi, (Mv.of_new hB3 _).setCell (fun _ => hk3.at.1) _⟩
  | false =>
    have hr := HR.out
    rw [if_neg (by simp)] at hr
    have HR1 := Lib.hid hr; clear hr
    have HWR := Lib.hid (bwrite_any rows G v w2 (HV2.out.mono (by omega) (fun _ _ h => h)) hl HRL.out)
    go_enter_defers Tryz.func88, Tryz.ntmps88
    go_wp2_with fail
    (try rw [← HW2.out])
    refine HWR.out.mono ?_
    rintro e w3 ⟨hb3, hcase⟩
    have hx3 : Whole w3 w.heap.size 56 [.pointer (some ⟨q, 0, none⟩)] := HBX.out.below hb3 HBX.out.size
    have he3 : Whole w3 (w.heap.size + 1) 23 [.int .i64 0] := HEX.out.below hb3 HEX.out.size
    have hq3 := HQ2.out.below hb3 (by omega)
    have hgb3 := HGB2.out.below hb3 (by omega)
    have hk3 := H2.out.mv (Mv.of_new hb3 (fun _ => False)) (fun _ _ h => h)
    have hB3 : Below w.heap.size w w3 := HB2.out.trans (hb3.mono (by omega))
    have HX3 := Lib.hid hx3
    have HE3 := Lib.hid he3
    have HQ3 := Lib.hid hq3
    have HGB3 := Lib.hid hgb3
    have HK3 := Lib.hid hk3
    have HB3 := Lib.hid hB3
    have HB23 := Lib.hid hb3
    have e0 := he3.cell 0 _ rfl
    have e0f := he3.frozen 0
    have hes := he3.size
    clear hx3 he3 hq3 hgb3 hk3 hB3 hb3 c2 f2 HWR
    have hne : w.heap.size + 1 ≠ q := by omega
    rcases hcase with ⟨hfit, A, c, n, rfl, hn, ho⟩ | ⟨hnf, rfl⟩
    · have hr := HR1.out
      rw [if_neg (by simpa using hfit)] at hr
      have HR2 := Lib.hid hr
      obtain ⟨ov, htp, hsub⟩ := HK3.out.tape
      have hmE : Mv (fun i => i = w.heap.size + 1) w3 (w3.setCell ⟨w.heap.size + 1, 0, none⟩ (.int .i64 0)) := (Mv.refl (fun i => i = w.heap.size + 1) w3).setCell (p := ⟨w.heap.size + 1, 0, none⟩) (fun _ => rfl) _
      have hgE : ∀ i, G i → i ≠ w.heap.size + 1 := fun i hi => by have := (HLOW.out.2 i hi).2; omega
      have hout : HoldB w3 w2.heap.size (.slice A n c) (lay (texts rows)) := by rw [hn] at ho ⊢; exact HoldB.ofOwn ho
      have hll : (lay (texts rows)).length ≤ 140737488351232 := by
        have := lay_bound _ hfit
        have h2 : (texts rows).length = rows.length := by simp [texts]
        omega
      have hcl := resetF_any base q p gb ov t (lay (texts rows)) (.slice A n c) [vq, .bool false] (w3.setCell ⟨w.heap.size + 1, 0, none⟩ (.int .i64 0)) (htp.mv hmE (fun h => by have := hgE p (hsub p (.inl rfl)); omega) (fun g hg h => by have := hgE g (hsub g (.inr hg.symm)); omega)) (hmE.whole HQ3.out (fun h => hne h.symm)) (hmE.whole HGB3.out (fun h => by omega))
        (fun wx hmx => by
          have hx := (hout.mv hmE (fun g hg h => by have := (hout.low hg).1; omega)).mv hmx (fun g hg hd => by have h1 := (hout.low hg).1; have h2 := (HLOW.out.2 g (hsub g hd)).2; omega)
          exact hx.rdB) hll
      have HCL := Lib.hid hcl
      have HTP := Lib.hid htp
      have HSUB := Lib.hid hsub
      have HME := Lib.hid hmE
      have HGE := Lib.hid hgE
      clear hr hn ho hfit hcl htp hsub hout hll hmE hgE
      go_wp2_with fail
      refine HCL.out.mono ?_
      rintro e w5 ⟨rfl, ov', hw⟩
      have hm5 : Mv (fun i => i = w.heap.size + 1 ∨ G i) w3 w5 := HME.out.mono (fun _ _ h => .inl h) |>.trans hw.moved (fun i _ hd => .inr (HSUB.out i hd))
      have hD : ∀ g, TapeD p ov g → g ≠ w.heap.size + 1 := fun g hg => HGE.out g (HSUB.out g hg)
      obtain ⟨G5, hk5, hG5⟩ := (HK3.out.mv HME.out (fun i hi => HGE.out i hi)).went (HTP.out.mv HME.out (fun h => hD p (.inl rfl) h) (fun g hg h => hD g (.inr hg.symm) h)) hw
      have he5 : Whole w5 (w.heap.size + 1) 23 [.int .i64 0] := hw.moved.whole (HE3.out.put 0 _) (fun h => hD _ h rfl)
      have hx5 : Whole w5 w.heap.size 56 [.pointer (some ⟨q, 0, none⟩)] := hm5.whole HX3.out (fun h => by rcases h with h | h; omega; have := (HLOW.out.2 _ h).2; omega)
      have z5 := he5.cell 0 _ rfl
      have z5f := he5.frozen 0
      have HK5 := Lib.hid hk5
      have HG5 := Lib.hid hG5
      have HE5 := Lib.hid he5
      have HX5 := Lib.hid hx5
      have HM5 := Lib.hid hm5
      have hs5 : w3.heap.size ≤ w5.heap.size := hm5.size
      obtain ⟨r, hr⟩ : ∃ r, r = (Tp.repl t (lay (texts rows))).1 := ⟨_, rfl⟩
      obtain ⟨t2, ht2⟩ : ∃ t2, t2 = (Tp.repl t (lay (texts rows))).2 := ⟨_, rfl⟩
      rw [← hr, ← ht2] at HR2
      rw [← ht2] at HK5
      rw [← hr]
      clear hw hm5 hD hk5 hG5 he5 hx5 hr ht2 HCL
      go_wp2_with fail
      obtain ⟨w9, hw9⟩ : ∃ w9, w9 = w5.setCell ⟨w.heap.size + 1, 0, none⟩ (.int .i64 r) := ⟨_, rfl⟩
      rw [← hw9]
      have hm9 : Mv (fun i => i = w.heap.size + 1) w5 w9 := by rw [hw9]; exact (Mv.refl (fun i => i = w.heap.size + 1) w5).setCell (p := ⟨w.heap.size + 1, 0, none⟩) (fun _ => rfl) _
      have hgE5 : ∀ i, G5 i → i ≠ w.heap.size + 1 := by
        intro i hi
        rcases HG5.out i hi with h | h
        · exact HGE.out i h
        · have hs : (w3.setCell ⟨w.heap.size + 1, 0, none⟩ (.int .i64 0)).heap.size = w3.heap.size := by simp
          omega
      have hk9 := HK5.out.mv hm9 (fun i hi => hgE5 i hi)
      obtain ⟨vq9, hq9⟩ := hk9.whole
      have he9 : Whole w9 (w.heap.size + 1) 23 [.int .i64 r] := by rw [hw9]; exact HE5.out.put 0 _
      have hx9 : Whole w9 w.heap.size 56 [.pointer (some ⟨q, 0, none⟩)] := hm9.whole HX5.out (fun h => by omega)
      refine leaves_cons (f := 114) (args := #[.pointer (some ⟨w.heap.size + 1, 0, none⟩), .pointer (some ⟨w.heap.size, 0, none⟩)]) (by simp) (by simp [go_sem]) ?_
      refine (lay1_any (w.heap.size + 1) w.heap.size q r _ .returning _ (he9.cell 0 _ rfl) (hx9.cell 0 _ rfl) (hq9.cell 2 _ rfl) (hq9.frozen 2)).mono ?_
      rintro e u' w'' ⟨rfl, rfl, rfl⟩
      have k0 := he9.cell 0 _ rfl
      refine ⟨.int .i64 r, by simp [results, Tryz.results88, go_sem, k0], ?_⟩
      rw [HR2.out]
      have hmw : Mv G w w9 := ((Mv.of_new HB3.out G).trans (D' := fun i => i = w.heap.size + 1 ∨ G i) HM5.out (fun i hi h => by rcases h with h | h; omega; exact h)).trans (D' := fun i => i = w.heap.size + 1) hm9 (fun i hi h => by omega)
      exact ⟨rfl, G5, hk9.note _, fun i hi => by
        rcases HG5.out i hi with h | h
        · exact .inl h
        · have hs : (w3.setCell ⟨w.heap.size + 1, 0, none⟩ (.int .i64 0)).heap.size = w3.heap.size := by simp
          have := HB3.out.size
          exact .inr (by omega), hmw.setCell (fun _ => HK3.out.at.1) _⟩
    · have hr := HR1.out
      rw [if_pos hnf] at hr
      have HR2 := Lib.hid hr
      clear hr hnf
      go_wp2_with fail
      obtain ⟨w9, hw9⟩ : ∃ w9, w9 = (w3.setCell ⟨w.heap.size + 1, 0, none⟩ (.int .i64 6)).setCell ⟨w.heap.size + 1, 0, none⟩ (.int .i64 6) := ⟨_, rfl⟩
      rw [← hw9]
      have hm9 : Mv (fun i => i = w.heap.size + 1) w3 w9 := by rw [hw9]; exact ((Mv.refl (fun i => i = w.heap.size + 1) w3).setCell (p := ⟨w.heap.size + 1, 0, none⟩) (fun _ => rfl) _).setCell (p := ⟨w.heap.size + 1, 0, none⟩) (fun _ => rfl) _
      have hk9 := HK3.out.mv hm9 (fun i hi h => by have := (HLOW.out.2 i hi).2; omega)
      obtain ⟨vq9, hq9⟩ := hk9.whole
      have he9 : Whole w9 (w.heap.size + 1) 23 [.int .i64 6] := by rw [hw9]; exact (HE3.out.put 0 _).put 0 _
      have hx9 : Whole w9 w.heap.size 56 [.pointer (some ⟨q, 0, none⟩)] := hm9.whole HX3.out (fun h => by omega)
      refine leaves_cons (f := 114) (args := #[.pointer (some ⟨w.heap.size + 1, 0, none⟩), .pointer (some ⟨w.heap.size, 0, none⟩)]) (by simp) (by simp [go_sem]) ?_
      refine (lay1_any (w.heap.size + 1) w.heap.size q 6 _ .returning _ (he9.cell 0 _ rfl) (hx9.cell 0 _ rfl) (hq9.cell 2 _ rfl) (hq9.frozen 2)).mono ?_
      rintro e u' w'' ⟨rfl, rfl, rfl⟩
      have k0 := he9.cell 0 _ rfl
      refine ⟨.int .i64 6, by simp [results, Tryz.results88, go_sem, k0], ?_⟩
      rw [HR2.out]
      have hmw : Mv G w w9 := (Mv.of_new HB3.out G).trans (D' := fun i => i = w.heap.size + 1) hm9 (fun i hi h => by omega)
      exact ⟨rfl, G, hk9.note _, fun i hi => .inl hi, hmw.setCell (fun _ => HK3.out.at.1) _⟩
end Go.Proofs.YtmigninibdecmaaGreat
namespace Go.Proofs.YtmigninibdecmaaGreat
open Go.RowKit

theorem Bks.add_put (b : Bks) (list : List (List UInt8)) : b.add list = if (b.put Tp.addS list).1 = 0 then (0, { (b.put Tp.addS list).2 with l := b.l ++ list }) else b.put Tp.addS list := by
  unfold Bks.add Bks.put Tp.addS
  by_cases h1 : b.dead = true
  · rw [if_pos h1, if_pos h1]; simp
  · rw [if_neg h1, if_neg h1]
    by_cases h2 : fits list
    · simp only [h2, not_true, if_false]
      by_cases h3 : (b.t.add (lay list)).1 = 0
      · simp only [h3, ne_eq, not_true, if_false]
        by_cases h4 : (b.t.add (lay list)).2.sync.1 = 0
        · simp [h4]
        · simp only [h4, not_false_eq_true, if_true, if_false]
      · simp only [h3, ne_eq, not_false_eq_true, if_true, if_false]
    · simp [h2]
theorem Bks.reset_put (b : Bks) (list : List (List UInt8)) : b.reset list = if (b.put Tp.repl list).1 = 0 then (0, { (b.put Tp.repl list).2 with l := list }) else b.put Tp.repl list := by
  unfold Bks.reset Bks.put
  by_cases h1 : b.dead = true
  · rw [if_pos h1, if_pos h1]; simp
  · rw [if_neg h1, if_neg h1]
    by_cases h2 : fits list
    · simp only [h2, not_true, if_false]
      by_cases h3 : (b.t.repl (lay list)).1 = 0
      · simp [h3]
      · simp only [h3, ne_eq, not_false_eq_true, if_true, if_false]
    · simp [h2]

section
variable {ops : Array Oper} {rest : List Oper} {o : Oper} {a : Act} {Q : Exit → Act → World → Prop} {w : World}
set_option maxRecDepth 100000 in
/-- rows appended in a region that draws; their block is the old one or a new one -/
theorem wp_addRN {K : Act → World → Prop} (s x : Operand)
    (ho : o.op = .call { callee := .builtin .append, args := #[s, x], argTypes := #[62, 62] })
    (base : Nat) (v : Value) (l : List Row) (hs : a.eval s = v) (hown : OwnR w base v l) (B : Nat) (v2 : Value) (p : List Row) (hx : a.eval x = v2) (hp : Rd encR 1 w B v2 p)
    (hlen : l.length + p.length ≤ 9000000000000) (hbase : base ≤ w.heap.size)
    (h : ∀ A' c' w', OwnR w' base (.slice A' (l ++ p).length c') (l ++ p) → w.grownBy w' v.ownBlock → NewRow w v.ownBlock (Value.ownBlock (.slice A' (l ++ p).length c')) → K (a.put o.dst (.slice A' (l ++ p).length c')) w') : o.wp Tryz.prog a w K Q := by
  obtain ⟨i0, hi, hz0, hz1, hz2⟩ := info_parts info_row
  exact wp_addAnyN (enc := encR) (k := 1) 62 41 24 i0 _ Tryz.underlying62 hi hz0 hz1 hz2 rfl (by decide) encR_len encR_one s x ho base v l hs hown B v2 p hx hp (by unfold maxLen; omega) (by omega) hbase fun A' c' w' h1 h2 h3 => h A' c' w' h1 h2 h3
end

set_option maxRecDepth 100000 in
/-- the book behind a new list of records -/
theorem BkAt.relist {w w3 w4 : World} {base q p : Nat} {G : Nat → Prop} {b : Bks} (hk : BkAt w base q p G b) (h3 : Below w.heap.size w w3) {A A4 : Option Addr} {c n c4 n4 : Nat} {rows0 rows4 : List Row} {vp : Value}
    (hq : Whole w q 102 [vp, .slice A n c, .bool b.dead]) (ho : OwnR w3 base (.slice A n c) rows0) (hm : Mv (fun i => some i = Value.ownBlock (.slice A n c)) w3 w4) (hn : n4 = rows4.length) (ho4 : OwnR w4 base (.slice A4 n4 c4) rows4)
    (hnew : ∀ g, Value.ownBlock (.slice A4 n4 c4) = some g → Value.ownBlock (.slice A n c) = some g ∨ w.heap.size ≤ g) (hh : HoldRs w4 base rows4) (hlen : ∀ r ∈ rows4, r.l.length ≤ 140737488351232)
    (hc : ∀ r ∈ rows4, ∀ g, r.v.ownBlock = some g → (w.heap.size ≤ g ∨ (G g ∧ ∀ ov, TapeAt w base p ov b.t → ov ≠ some g))) :
    ∃ G', BkAt (w4.setCell ⟨q, 1, none⟩ (.slice A4 n4 c4)) base q p G' { b with l := texts rows4 } ∧ (∀ i, G' i → G i ∨ w.heap.size ≤ i) ∧ Mv G w (w4.setCell ⟨q, 1, none⟩ (.slice A4 n4 c4)) := by
  obtain ⟨ov, A', c', n', rows, h1, h2, h3', h4, h5, h6, h7, h8, h9, h10, h11, h12, h13, h14, h15⟩ := hk
  have he : (Value.slice A' n' c') = .slice A n c ∧ vp = .pointer (some ⟨p, 0, none⟩) := by
    have e1 := h1.cell 1 _ rfl
    have e0 := h1.cell 0 _ rfl
    rw [hq.cell 1 _ rfl] at e1
    rw [hq.cell 0 _ rfl] at e0
    injection e1 with e1
    injection e0 with e0
    exact ⟨e1.symm, e0⟩
  obtain ⟨he1, rfl⟩ := he
  injection he1 with g1 g2 g3
  subst g1 g2 g3
  clear h3' h4 h5 h6 h8 h2 h13
  obtain ⟨k1, k2⟩ := h7.apart h1 (by decide) (by decide)
  have hz3 := h3.size
  have hz4 := hm.size
  have hw3 := Mv.of_new h3 (fun _ => False)
  have hq3 : Whole w3 q 102 _ := hw3.whole h1 (fun h => h)
  have hq4 : Whole w4 q 102 _ := hm.whole hq3 (fun h => OwnR.off ho hq3 (by decide) h.symm)
  have ht3 : TapeAt w3 base p ov b.t := h7.mv hw3 (fun h => h) (fun _ _ h => h)
  have ht4 : TapeAt w4 base p ov b.t := by
    refine ht3.mv hm ?_ ?_
    · obtain ⟨A2, c2, hb2, ho2, hv2, _⟩ := ht3
      exact fun h => OwnR.off ho hb2 (by decide) h.symm
    · intro g hg hd
      obtain ⟨A2, c2, hb2, ho2, hv2, _⟩ := ht3
      exact ho2.ne_rows ho g (hv2.trans hg) hd.symm
  obtain ⟨w5, hw5⟩ : ∃ w5, w5 = w4.setCell ⟨q, 1, none⟩ (.slice A4 n4 c4) := ⟨_, rfl⟩
  rw [← hw5]
  have hm5 : Mv (fun i => i = q) w4 w5 := by rw [hw5]; exact (Mv.refl (fun i => i = q) w4).setCell (p := ⟨q, 1, none⟩) (fun _ => rfl) _
  have hz5 : w5.heap.size = w4.heap.size := by rw [hw5]; simp
  refine ⟨fun i => G i ∨ (w.heap.size ≤ i ∧ i < w5.heap.size), ⟨ov, A4, c4, n4, rows4, by rw [hw5]; exact hq4.put 1 _, hn, OwnR.mv ho4 hm5 (fun g hg e => OwnR.off ho4 hq4 (by decide) (e ▸ hg)), hh.mv hm5 (fun r hr g hg e => (hh r hr).apart hq4 (by decide) (e ▸ hg)), rfl, hlen, ht4.mv hm5 (fun e => k1 e.symm) (fun g hg e => k2 (e ▸ hg)), ?_, .inl h9, .inl h10, fun g hg => .inl (h11 g hg), ?_, ?_, by omega, ?_⟩, ?_, ?_⟩
  · intro r hr g hg e
    rcases hc r hr g hg with h | ⟨_, h⟩
    · have := (h7.row e).2; omega
    · exact h ov h7 e
  · intro g hg
    rcases hnew g hg with h | h
    · exact .inl (h12 g h)
    · exact .inr ⟨h, by have := (ho4.low hg).2; omega⟩
  · intro r hr g hg
    rcases hc r hr g hg with h | ⟨h, _⟩
    · exact .inr ⟨h, by have := ((hh r hr).low hg).2; omega⟩
    · exact .inl h
  · rintro i (h | h)
    · have := h15 i h; exact ⟨this.1, by omega⟩
    · exact ⟨by omega, h.2⟩
  · rintro i (h | h)
    · exact .inl h
    · exact .inr h.1
  · refine ((Mv.of_new h3 G).trans hm ?_).trans hm5 ?_
    · intro i hi hd
      exact h12 i hd.symm
    · rintro i hi rfl
      exact h9

set_option maxHeartbeats 8000000 in
set_option maxRecDepth 100000 in
theorem badd_any (base q p : Nat) (G : Nat → Prop) (b : Bks) (rows : List Row) (v : Value) (w : World) (h : BkAt w base q p G b) (hv : RdRs w w.heap.size G v rows) (hl : rows.length ≤ 1000) (hr : ∀ r ∈ rows, r.l.length ≤ 140737488351232) (hbl : b.dead = false → b.l.length ≤ 4000000) :
    Calls Tryz.prog 59 #[.pointer (some ⟨q, 0, none⟩), v] w fun e w' => e = .returned (.int .i64 (b.add (texts rows)).1) ∧ ∃ G', BkAt w' base q p G' (b.add (texts rows)).2 ∧ (∀ i, G' i → G i ∨ w.heap.size ≤ i) ∧ Mv G w w' := by
  have hmf : ∀ (fn : Fn) (first cap : Array Value) (w : World), (Instr.makeFunc fn first cap).run Tryz.prog w = .ok (.func fn first cap) w := fun _ _ _ _ => rfl
  obtain ⟨R, hR⟩ : ∃ R, R = b.add (texts rows) := ⟨_, rfl⟩
  rw [← hR]
  rw [Bks.add_put] at hR
  obtain ⟨w1, hw1⟩ : ∃ w1, w1 = w.alloc (.cells #[.pointer (some ⟨q, 0, none⟩)] 56) := ⟨_, rfl⟩
  have hbx : Whole w1 w.heap.size 56 [.pointer (some ⟨q, 0, none⟩)] := by rw [hw1]; exact Whole.fresh w 56 [_]
  have hB1 : Below w.heap.size w w1 := by rw [hw1]; exact (Below.refl _ w).alloc (Nat.le_refl _) _
  have hm1 : Mv (fun _ => False) w w1 := Mv.of_new hB1 _
  have hs1 : w1.heap.size = w.heap.size + 1 := by rw [hw1]; simp
  have hv1 := hv.mv hm1 (Nat.le_refl _) (fun _ _ h => h.elim)
  have hgG : ¬ G w.heap.size := fun h2 => by have := (h.low.2 _ h2).2; omega
  have hlay := layA_any base q p w.heap.size G b rows v w1 (h.mv hm1 (fun _ _ h => h)) (hv1.mono (by omega) (fun _ _ h => h)) hl hr hbx hgG
  obtain ⟨⟨r, b2⟩, hP⟩ : ∃ P, P = b.put Tp.addS (texts rows) := ⟨_, rfl⟩
  have hb2l : b2.l = b.l := by
    have : (b.put Tp.addS (texts rows)).2.l = b.l := by unfold Bks.put; split; rfl; split <;> rfl
    rw [← hP] at this
    exact this
  have hb2d : r = 0 → b.dead = false := by
    intro h0
    have : (b.put Tp.addS (texts rows)).1 = 0 := by rw [← hP]; exact h0
    unfold Bks.put at this
    cases hd : b.dead with
    | false => rfl
    | true => rw [if_pos hd] at this; cases this
  rw [← hP] at hR hlay
  simp only at hR hlay
  have HR := Lib.hid hR
  have HLAY := Lib.hid hlay
  have HV1 := Lib.hid hv1
  have HBX := Lib.hid hbx
  have HB1 := Lib.hid hB1
  have HW1 := Lib.hid hw1
  have HGG := Lib.hid hgG
  have HLOW := Lib.hid h.low
  have HQS := Lib.hid (h.low.2 q h.at.1).2
  have HRL := Lib.hid hr
  have HBL := Lib.hid hbl
  have HB2L := Lib.hid hb2l
  have HB2D := Lib.hid hb2d
  clear hR hlay hv1 hbx hB1 hw1 hgG hP hv hm1 hr hbl hb2l hb2d h
  go_enter Tryz.func59, Tryz.ntmps59
  go_wp2_with fail
  rw [← HW1.out]
  refine HLAY.out.mono ?_
  rintro e w2 ⟨rfl, G2, hk2, hG2, hmv2⟩
  have hx2 : Whole w2 w.heap.size 56 [.pointer (some ⟨q, 0, none⟩)] := hmv2.whole HBX.out HGG.out
  have HMV := Lib.hid ((Mv.of_new HB1.out G).trans hmv2 (fun _ _ h => h))
  have HG2 := Lib.hid (show ∀ i, G2 i → G i ∨ w.heap.size ≤ i from fun i hi => by rcases hG2 i hi with h | h; exact .inl h; exact .inr (by omega))
  have hs2 := hmv2.size
  have hv2 : RdRs w2 w.heap.size G v rows := HV1.out.mv hmv2 (by omega) (fun _ _ h => h)
  have HX2 := Lib.hid hx2
  have HV2 := Lib.hid hv2
  have HK2 := Lib.hid hk2
  clear hx2 hv2 hmv2 hG2 HLAY hk2
  by_cases hz : r = 0
  · subst hz
    have hr := HR.out
    rw [if_pos rfl] at hr
    have HR2 := Lib.hid hr
    clear hr
    go_wp2_with fail
    -- what stands in the book
    have hkd : BkAt w2.drew base q p G2 b2 := HK2.out.mv ((Mv.refl (fun _ => False) w2).drew) (fun _ _ h => h)
    have hxd : Whole w2.drew w.heap.size 56 [.pointer (some ⟨q, 0, none⟩)] := HX2.out.drew
    have hvd : RdRs w2.drew w.heap.size G v rows := HV2.out.mv ((Mv.refl (fun _ => False) w2).drew) (by omega) (fun _ _ h => h.elim)
    have hMd : Mv G w w2.drew := HMV.out.drew
    have hsd : w.heap.size + 1 ≤ w2.drew.heap.size := by show _ ≤ w2.heap.size; omega
    obtain ⟨ov, A, c, n, rows0, h1, hn0, h3, h4, h5, h6, h7, h8, h9, h10, h11, h12, h13, h14, h15⟩ := id hkd
    have hqs : q < w.heap.size := by
      rcases HG2.out q h9 with h | h
      · exact (HLOW.out.2 q h).2
      · exact absurd h (by have := HQS.out; omega)
    have hr0 : rows0.length ≤ 4000000 := by
      have h2 := HBL.out (HB2D.out (by simp))
      have h3 := congrArg List.length h5
      rw [HB2L.out] at h3
      simp [texts] at h3
      omega
    have HLOWB := Lib.hid h14
    have HF := Lib.hid (bfresh_any rows G v w2.drew (hvd.mono (by omega) (fun _ _ h => h)) (by omega) HRL.out)
    clear hn0 h9 h10 h11 h12 h14 h15
    refine wp_region_planT (fun W => Whole W w.heap.size 56 [.pointer (some ⟨q, 0, none⟩)]) (.take 0 (.take 1 (.take 2 (.take 3 (.take 5 (.fork 4 (.step 6 (.step 7 (.take 8 (.take 9 (.step 10 .done))))) 6 (.step 4 (.step 7 (.take 8 (.take 9 (.step 10 .done)))))))))))  (by kernel_rfl) (by kernel_rfl) (fun _ _ d _ _ h => by cases d <;> exact h) hxd ?_
    (refine PlanT.takeI (v := ?_) rfl rfl ?_ ?_; rotate_left; (focus (intro W hW; have k0 := hW.cell 0 _ rfl; go_simp; (try with_reducible rfl); done)); (try simp only [Act.put, List.setIfInBounds_toArray, List.set_cons_zero, List.set_cons_succ]))
    (refine PlanT.takeI (v := ?_) rfl rfl ?_ ?_; rotate_left; (focus (intro W hW; have k0 := hW.cell 0 _ rfl; go_simp; (try with_reducible rfl); done)); (try simp only [Act.put, List.setIfInBounds_toArray, List.set_cons_zero, List.set_cons_succ]))
    (refine PlanT.takeI (v := ?_) rfl rfl ?_ ?_; rotate_left; (focus (intro W hW; have k0 := hW.cell 0 _ rfl; go_simp; (try with_reducible rfl); done)); (try simp only [Act.put, List.setIfInBounds_toArray, List.set_cons_zero, List.set_cons_succ]))
    (refine PlanT.takeI (v := ?_) rfl rfl ?_ ?_; rotate_left; (focus (intro W hW; have k0 := hW.cell 0 _ rfl; go_simp; (try with_reducible rfl); done)); (try simp only [Act.put, List.setIfInBounds_toArray, List.set_cons_zero, List.set_cons_succ]))
    (refine PlanT.takeI (v := ?_) rfl rfl ?_ ?_; rotate_left; (focus (intro W hW; have k0 := hW.cell 0 _ rfl; go_simp; (try with_reducible rfl); done)); (try simp only [Act.put, List.setIfInBounds_toArray, List.set_cons_zero, List.set_cons_succ]))
    refine ⟨wpOp_stepT rfl rfl (fun Kk hKk => ?_), wpOp_stepT rfl rfl (fun Kk hKk => ?_)⟩
    · have q1 := h1.cell 1 _ rfl
      go_simp
      refine hKk.out _ _ hxd ?_
      clear hKk Kk q1
      (try simp only [Act.put, List.setIfInBounds_toArray, List.set_cons_zero, List.set_cons_succ])
      refine wpOp_stepT rfl rfl (fun Kk hKk => ?_)
      go_simp
      go_at_call 50
      refine HF.out.mono ?_
      rintro e wf ⟨A1, c1, n1, rfl, rows1, hn1, ho1, hh1, ht1, hbf⟩
      have hmf2 := Mv.of_new hbf (fun _ => False)
      have HXF := Lib.hid (hmf2.whole hxd (fun h => h))
      have HQF := Lib.hid (hmf2.whole h1 (fun h => h))
      have HOF := Lib.hid (OwnR.mv h3 hmf2 (fun _ _ h => h))
      have HHF := Lib.hid (h4.mv hmf2 (fun _ _ _ _ h => h))
      have HN1 := Lib.hid hn1
      have HO1 := Lib.hid ho1
      have HH1 := Lib.hid hh1
      have HT1 := Lib.hid ht1
      have HBF := Lib.hid hbf
      have hbfs := hbf.size
      have HL1 := Lib.hid (show rows1.length = rows.length by have h2 := congrArg List.length ht1; simpa only [texts, List.length_map] using h2)
      refine hKk.out _ _ HXF.out ?_
      clear hKk Kk hn1 ho1 hh1 ht1 hbf hmf2
      (try simp only [Act.put, List.setIfInBounds_toArray, List.set_cons_zero, List.set_cons_succ])
      refine wpOp_stepT rfl rfl (fun Kk hKk => ?_)
      refine wp_addRN _ _ rfl base (.slice A n c) rows0 rfl HOF.out wf.heap.size (.slice A1 n1 c1) rows1 rfl (Own.rd encR_len HO1.out) (by have := HL1.out; omega) (Nat.le_trans HLOWB.out hbfs) (fun A4 c4 w4 ho4 hg4 hn4 => ?_)
      have hn4' : rows0.length + rows1.length = (rows0 ++ rows1).length := by simp
      rw [← hn4'] at ho4 hn4
      have HN4 := Lib.hid hn4'; clear hn4'
      have hm4 := Mv.of_grown hg4
      have hh4 : HoldRs w4 base (rows0 ++ rows1) := (HHF.out.append (HH1.out.lower HLOWB.out)).grown HOF.out hg4
      have hx4 : Whole w4 w.heap.size 56 [.pointer (some ⟨q, 0, none⟩)] := hm4.whole HXF.out (fun h => OwnR.off HOF.out HXF.out (by decide) h.symm)
      have hq4 : Whole w4 q 102 _ := hm4.whole HQF.out (fun h => OwnR.off HOF.out HQF.out (by decide) h.symm)
      refine hKk.out _ _ hx4 ?_
      clear hKk Kk hg4
      (try simp only [Act.put, List.setIfInBounds_toArray, List.set_cons_zero, List.set_cons_succ])
      (refine PlanT.takeI (v := ?_) rfl rfl ?_ ?_; rotate_left; (focus (intro W hW; have k0 := hW.cell 0 _ rfl; go_simp; (try with_reducible rfl); done)); (try simp only [Act.put, List.setIfInBounds_toArray, List.set_cons_zero, List.set_cons_succ]))
      (refine PlanT.takeI (v := ?_) rfl rfl ?_ ?_; rotate_left; (focus (intro W hW; have k0 := hW.cell 0 _ rfl; go_simp; (try with_reducible rfl); done)); (try simp only [Act.put, List.setIfInBounds_toArray, List.set_cons_zero, List.set_cons_succ]))
      refine wpOp_stepT rfl rfl (fun Kk hKk => ?_)
      have q1 := hq4.cell 1 _ rfl
      have q1f := hq4.frozen 1
      go_simp
      refine hKk.out _ _ (hx4.away (p := ⟨q, 1, none⟩) (fun h => by have : w.heap.size = q := h; omega) _) ?_
      clear hKk Kk q1 q1f
      (try simp only [Act.put, List.setIfInBounds_toArray, List.set_cons_zero, List.set_cons_succ])
      simp only [PlanT]
      obtain ⟨G5, hk5, hG5, hm5⟩ := BkAt.relist hkd HBF.out h1 HOF.out hm4 HN4.out ho4 (fun g hg => by rcases hn4 g hg with h | h; exact .inl h; exact .inr (Nat.le_trans hbfs h)) hh4
        (fun r hr => by
          rcases List.mem_append.1 hr with hr | hr
          · exact h6 r hr
          · have : r.l ∈ texts rows := by rw [← HT1.out]; exact List.mem_map.2 ⟨r, hr, rfl⟩
            obtain ⟨r2, hr2, he2⟩ := List.mem_map.1 this
            rw [← he2]; exact HRL.out r2 hr2)
        (fun r hr g hg => by
          rcases List.mem_append.1 hr with hr | hr
          · exact .inr ⟨h13 r hr g hg, fun ov2 ht2 => by rw [← h7.uniq ht2]; exact h8 r hr g hg⟩
          · exact .inl ((HH1.out r hr).low hg).1)
      have hl5 : texts (rows0 ++ rows1) = b.l ++ texts rows := by rw [texts_append, HT1.out, h5, HB2L.out]
      rw [hl5] at hk5
      have HK5 := Lib.hid hk5
      have HG5 := Lib.hid hG5
      have HM5 := Lib.hid (hMd.trans hm5 (fun i hi h => by rcases HG2.out i h with h | h; exact h; omega))
      clear hk5 hG5 hm5 hl5 hq4 hx4 hh4 hm4 ho4 hn4 h1 h3 h4 h5 h6 h7 h8 h13 hkd hxd hvd hMd
      go_wp2_with fail
      go_ret
      exact ⟨by rw [HR2.out]; rfl, G5, by rw [HR2.out]; exact HK5.out, fun i hi => by
        rcases HG5.out i hi with h | h
        · exact HG2.out i h
        · exact .inr (by omega), HM5.out⟩
    · go_simp
      go_at_call 50
      refine HF.out.mono ?_
      rintro e wf ⟨A1, c1, n1, rfl, rows1, hn1, ho1, hh1, ht1, hbf⟩
      have hmf2 := Mv.of_new hbf (fun _ => False)
      have HXF := Lib.hid (hmf2.whole hxd (fun h => h))
      have HQF := Lib.hid (hmf2.whole h1 (fun h => h))
      have HOF := Lib.hid (OwnR.mv h3 hmf2 (fun _ _ h => h))
      have HHF := Lib.hid (h4.mv hmf2 (fun _ _ _ _ h => h))
      have HN1 := Lib.hid hn1
      have HO1 := Lib.hid ho1
      have HH1 := Lib.hid hh1
      have HT1 := Lib.hid ht1
      have HBF := Lib.hid hbf
      have hbfs := hbf.size
      have HL1 := Lib.hid (show rows1.length = rows.length by have h2 := congrArg List.length ht1; simpa only [texts, List.length_map] using h2)
      refine hKk.out _ _ HXF.out ?_
      clear hKk Kk hn1 ho1 hh1 ht1 hbf hmf2
      (try simp only [Act.put, List.setIfInBounds_toArray, List.set_cons_zero, List.set_cons_succ])
      refine wpOp_stepT rfl rfl (fun Kk hKk => ?_)
      have q1 := HQF.out.cell 1 _ rfl
      go_simp
      refine hKk.out _ _ HXF.out ?_
      clear hKk Kk q1
      (try simp only [Act.put, List.setIfInBounds_toArray, List.set_cons_zero, List.set_cons_succ])
      refine wpOp_stepT rfl rfl (fun Kk hKk => ?_)
      refine wp_addRN _ _ rfl base (.slice A n c) rows0 rfl HOF.out wf.heap.size (.slice A1 n1 c1) rows1 rfl (Own.rd encR_len HO1.out) (by have := HL1.out; omega) (Nat.le_trans HLOWB.out hbfs) (fun A4 c4 w4 ho4 hg4 hn4 => ?_)
      have hn4' : rows0.length + rows1.length = (rows0 ++ rows1).length := by simp
      rw [← hn4'] at ho4 hn4
      have HN4 := Lib.hid hn4'; clear hn4'
      have hm4 := Mv.of_grown hg4
      have hh4 : HoldRs w4 base (rows0 ++ rows1) := (HHF.out.append (HH1.out.lower HLOWB.out)).grown HOF.out hg4
      have hx4 : Whole w4 w.heap.size 56 [.pointer (some ⟨q, 0, none⟩)] := hm4.whole HXF.out (fun h => OwnR.off HOF.out HXF.out (by decide) h.symm)
      have hq4 : Whole w4 q 102 _ := hm4.whole HQF.out (fun h => OwnR.off HOF.out HQF.out (by decide) h.symm)
      refine hKk.out _ _ hx4 ?_
      clear hKk Kk hg4
      (try simp only [Act.put, List.setIfInBounds_toArray, List.set_cons_zero, List.set_cons_succ])
      (refine PlanT.takeI (v := ?_) rfl rfl ?_ ?_; rotate_left; (focus (intro W hW; have k0 := hW.cell 0 _ rfl; go_simp; (try with_reducible rfl); done)); (try simp only [Act.put, List.setIfInBounds_toArray, List.set_cons_zero, List.set_cons_succ]))
      (refine PlanT.takeI (v := ?_) rfl rfl ?_ ?_; rotate_left; (focus (intro W hW; have k0 := hW.cell 0 _ rfl; go_simp; (try with_reducible rfl); done)); (try simp only [Act.put, List.setIfInBounds_toArray, List.set_cons_zero, List.set_cons_succ]))
      refine wpOp_stepT rfl rfl (fun Kk hKk => ?_)
      have q1 := hq4.cell 1 _ rfl
      have q1f := hq4.frozen 1
      go_simp
      refine hKk.out _ _ (hx4.away (p := ⟨q, 1, none⟩) (fun h => by have : w.heap.size = q := h; omega) _) ?_
      clear hKk Kk q1 q1f
      (try simp only [Act.put, List.setIfInBounds_toArray, List.set_cons_zero, List.set_cons_succ])
      simp only [PlanT]
      obtain ⟨G5, hk5, hG5, hm5⟩ := BkAt.relist hkd HBF.out h1 HOF.out hm4 HN4.out ho4 (fun g hg => by rcases hn4 g hg with h | h; exact .inl h; exact .inr (Nat.le_trans hbfs h)) hh4
        (fun r hr => by
          rcases List.mem_append.1 hr with hr | hr
          · exact h6 r hr
          · have : r.l ∈ texts rows := by rw [← HT1.out]; exact List.mem_map.2 ⟨r, hr, rfl⟩
            obtain ⟨r2, hr2, he2⟩ := List.mem_map.1 this
            rw [← he2]; exact HRL.out r2 hr2)
        (fun r hr g hg => by
          rcases List.mem_append.1 hr with hr | hr
          · exact .inr ⟨h13 r hr g hg, fun ov2 ht2 => by rw [← h7.uniq ht2]; exact h8 r hr g hg⟩
          · exact .inl ((HH1.out r hr).low hg).1)
      have hl5 : texts (rows0 ++ rows1) = b.l ++ texts rows := by rw [texts_append, HT1.out, h5, HB2L.out]
      rw [hl5] at hk5
      have HK5 := Lib.hid hk5
      have HG5 := Lib.hid hG5
      have HM5 := Lib.hid (hMd.trans hm5 (fun i hi h => by rcases HG2.out i h with h | h; exact h; omega))
      clear hk5 hG5 hm5 hl5 hq4 hx4 hh4 hm4 ho4 hn4 h1 h3 h4 h5 h6 h7 h8 h13 hkd hxd hvd hMd
      go_wp2_with fail
      go_ret
      exact ⟨by rw [HR2.out]; rfl, G5, by rw [HR2.out]; exact HK5.out, fun i hi => by
        rcases HG5.out i hi with h | h
        · exact HG2.out i h
        · exact .inr (by omega), HM5.out⟩
  · have hr := HR.out
    rw [if_neg hz] at hr
    have HR2 := Lib.hid hr
    have hz2 : (r == 0) = false := by simpa using hz
    clear hr
    go_wp2_with fail
    go_ret
    exact ⟨by rw [HR2.out]; rfl, G2, by rw [HR2.out]; exact HK2.out, HG2.out, HMV.out⟩
end Go.Proofs.YtmigninibdecmaaGreat

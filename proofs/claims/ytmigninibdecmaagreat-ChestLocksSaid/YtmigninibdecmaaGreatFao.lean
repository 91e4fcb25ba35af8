/- A log's records; all of a chest with one log. All records of a chest with one log. -/
import Derived.Test.YtmigninibdecmaaGreatFan
import Derived.Test.YtmigninibdecmaaGreatFah
namespace Go.Proofs.YtmigninibdecmaaGreat
open Go.RowKit
attribute [local go_sem] less_eq same_eq le_eq ge_eq gt_eq

/-- texts in memory of one's own -/
def OutR (w : World) (base : Nat) (v : Value) (ts : List (List UInt8)) : Prop := ∃ rows, OwnR w base v rows ∧ HoldRs w base rows ∧ texts rows = ts
theorem OutR.nil (w : World) (base : Nat) : OutR w base (.slice none 0 0) [] := ⟨[], Own.nil _ _, HoldRs.nil _ _, rfl⟩
theorem OutR.below {w w' : World} {base : Nat} {v : Value} {ts : List (List UInt8)} {B : Nat} (h : OutR w base v ts) (hb : Below B w w') (hB : w.heap.size ≤ B) : OutR w' base v ts := by
  obtain ⟨rows, h1, h2, h3⟩ := h
  exact ⟨rows, Own.below h1 hb hB, h2.below hb hB, h3⟩
theorem OutR.len {w : World} {base : Nat} {A : Option Addr} {n c : Nat} {ts : List (List UInt8)} (h : OutR w base (.slice A n c) ts) : n = ts.length := by
  obtain ⟨rows, h1, _, h3⟩ := h
  have e : n = rows.length := by
    rcases Own.form h1 with ⟨e, e2⟩ | ⟨g, cap, e, _⟩
    · injection e with _ e _
      rw [e, e2]; rfl
    · injection e with _ e _
  rw [e, ← h3, texts, List.length_map]
theorem HoldRs.push {w w' : World} {base : Nat} {v : Value} {rows : List Row} {r : Row} (hO : OwnR w base v rows) (hH : HoldRs w base rows) (hB : OwnB w base r.v r.l) (o : Obj) (hg : (w.alloc o).grownBy w' v.ownBlock) : HoldRs w' base (rows ++ [r]) := by
  have h1 : HoldRs w base (rows ++ [r]) := hH.append (fun x hx => by rw [List.mem_singleton.1 hx]; exact HoldB.ofOwn hB)
  exact (h1.below ((Below.refl w.heap.size w).alloc (Nat.le_refl _) o) (Nat.le_refl _)).grown (Own.alloc hO o) hg
/-- one text in a list of its own -/
theorem OutR.one {w : World} {base : Nat} {A : Option Addr} {n c : Nat} {B : List UInt8} (h : OwnB w base (.slice A n c) B) (hb : base ≤ w.heap.size) : OutR (w.alloc (.cells #[.slice A n c] 41)) base (.slice (some ⟨w.heap.size, 0, none⟩) 1 1) [B] := by
  have hn : n = B.length := by
    obtain ⟨_, _, e, _⟩ := (OwnB.rdB h).at
    injection e
  subst hn
  refine ⟨[⟨A, c, B⟩], ?_, fun r hr => ?_, rfl⟩
  · refine ⟨rfl, .inr ⟨w.heap.size, 1, #[.slice A B.length c], rfl, hb, ?_, Nat.le_refl _, by decide, rfl, rfl⟩⟩
    exact Whole.fresh w 41 [.slice A B.length c]
  · rw [List.mem_singleton.1 hr]
    exact (HoldB.ofOwn h).below ((Below.refl w.heap.size w).alloc (Nat.le_refl _) _) (Nat.le_refl _)
theorem Rd.oneR (w : World) (r : Row) (t : TypeId) : Rd encR 1 (w.alloc (.cells #[r.v] t)) (w.heap.size + 1) (.slice (some ⟨w.heap.size, 0, none⟩) 1 1) [r] := by
  refine ⟨some ⟨w.heap.size, 0, none⟩, 1, rfl, Nat.le_refl _, fun i hi => ⟨w.heap.size, 0, rfl, Nat.lt_succ_self _, fun j u hu => ?_⟩⟩
  obtain rfl : i = 0 := by simpa using hi
  simp only [List.getElem_cons_zero] at hu
  simp only [Nat.zero_mul, Nat.zero_add]
  exact (Whole.fresh w t (encR r)).cell j _ hu
theorem RdBts.one {w : World} {y : BtV} (hp : RdG encC 3 w w.heap.size (fun _ => False) y.v y.t.chgs) (t : TypeId) : RdBts (w.alloc (.cells (encBt y).toArray t)) (w.alloc (.cells (encBt y).toArray t)).heap.size (fun _ => False) (.slice (some ⟨w.heap.size, 0, none⟩) 1 1) [y] := by
  have hb : Below w.heap.size w (w.alloc (.cells (encBt y).toArray t)) := (Below.refl _ w).alloc (Nat.le_refl _) _
  refine ⟨RdG.of (by rw [World.size_alloc]; exact Rd.one w y t) (fun _ _ k => k), fun x hx => ?_⟩
  rw [List.mem_singleton.1 hx]
  exact (hp.mv (Mv.of_new hb (fun _ => False)) (Nat.le_refl _) (fun _ _ k => k)).mono hb.size (fun _ _ k => k)
theorem map_step {α β : Type} (f : α → β) (l : List α) (i : Nat) (h : i < l.length) : (l.take (i + 1)).map f = (l.take i).map f ++ [f l[i]] := by
  rw [List.take_add_one, List.getElem?_eq_getElem h, List.map_append]
  rfl

set_option maxHeartbeats 16000000 in
set_option maxRecDepth 100000 in
theorem hlrecs_any (x : LgV) (base : Nat) (Gf : Nat → Prop) (w : World) (k : LgIs w base Gf x) :
    Calls Tryz.prog 100 #[x.v] w fun e w' => ∃ A n c, e = .returned (.slice A n c) ∧ OutR w' w.heap.size (.slice A n c) (x.g.recs.map (·.B)) ∧ Below w.heap.size w w' := by
  have hok := k.ok
  have hrow := hok.row
  have hro := hok.recs
  have hf := k.first
  have hh := k.held
  have hfe := k.fe
  have hhe := k.he
  have hfl := k.fle
  have hhl := k.hle
  rw [LgV.v_eq]
  obtain ⟨g, f, F, nf, h, H, nh⟩ := x
  unfold LgV.fv at hf
  unfold LgV.hv at hh
  simp only at hok hrow hro hf hh hfe hhe hfl hhl ⊢
  clear k
  obtain ⟨w1, hw1⟩ : ∃ w1, w1 = w.alloc (.cells #[.int .i64 2, .int .i64 g.epoch, .int .i64 g.base, .int .i64 0, .slice F f.length nf, .int .i64 g.gone, .int .i64 g.known, .slice H h.length nh] 73) := ⟨_, rfl⟩
  have hb1 : Below w.heap.size w w1 := by rw [hw1]; exact (Below.refl _ w).alloc (Nat.le_refl _) _
  have hL1 : Whole w1 w.heap.size 73 [.int .i64 2, .int .i64 g.epoch, .int .i64 g.base, .int .i64 0, .slice F f.length nf, .int .i64 g.gone, .int .i64 g.known, .slice H h.length nh] := by rw [hw1]; exact Whole.fresh w _ [.int .i64 2, .int .i64 g.epoch, .int .i64 g.base, .int .i64 0, .slice F f.length nf, .int .i64 g.gone, .int .i64 g.known, .slice H h.length nh]
  obtain ⟨lb, hlb⟩ : ∃ lb, lb = w.heap.size := ⟨_, rfl⟩
  rw [← hlb] at hL1
  have hby := hbytes_any g.row f (.slice F f.length nf) (fun i => ¬ Gf i) w1 hrow hfe (hf.next hb1 (fun _ _ k => k))
  have hcond : g.recs = (g.row :: if g.base < g.gone then [⟨4, g.epoch, g.gone, g.known, []⟩] else []) ++ (behindP (topB g.base g.first) g.held).map fun b => ⟨3, g.epoch, 0, 0, [b]⟩ := rfl
  rw [← hfe, ← hhe] at hcond
  have hV : ∀ b ∈ (h.drop (upto (topB g.base (f.map (·.t))) h)), (⟨3, g.epoch, 0, 0, [b.t]⟩ : Rc).Ok := fun b hb => by
    refine Rc.mkOk in3 ⟨by have := hok.ep.1; omega, hok.ep.2⟩ in0 in0 (fun y hy => ?_) (by simp)
    rw [List.mem_singleton.1 hy]
    exact hok.he b.t (hhe ▸ List.mem_map.2 ⟨b, List.mem_of_mem_drop hb, rfl⟩)
  have hpop : (⟨4, g.epoch, g.gone, g.known, []⟩ : Rc).Ok := Rc.mkOk in4 ⟨by have := hok.ep.1; omega, hok.ep.2⟩ hok.go hok.kn noTiny (by simp)
  have hlast : ∀ W, Below w.heap.size w W → RdG encBt 4 W W.heap.size (fun i => ¬ Gf i) (.slice F f.length nf) f := fun W hW => (hf.next hW (fun _ _ k => k)).row
  have hheld : ∀ W, Below w.heap.size w W → RdBts W w.heap.size (fun _ => False) (.slice H h.length nh) h := fun W hW => hh.mv (Mv.of_new hW (fun _ => False)) (Nat.le_refl _) (fun _ _ k => k)
  rw [← upto_drop] at hcond
  obtain ⟨T, hT⟩ : ∃ T, T = topB g.base (f.map (·.t)) := ⟨_, rfl⟩
  obtain ⟨R, hR⟩ : ∃ R, R = g.recs.map (·.B) := ⟨_, rfl⟩
  rw [hcond] at hR
  rw [← hcond] at hR
  have hRR : R = ((g.row :: if g.base < g.gone then [(⟨4, g.epoch, g.gone, g.known, []⟩ : Rc)] else []) ++ (h.drop (upto T h)).map fun b => (⟨3, g.epoch, 0, 0, [b.t]⟩ : Rc)).map (·.B) := by
    rw [hR, hcond, hT]
    simp only [List.map_append, List.map_map]
    rfl
  rw [← hR]
  rw [← hT] at hV
  unfold rcv at hby
  unfold Lg.row at hby hRR
  simp only at hby hRR
  have HTT := Lib.hid hT
  obtain ⟨ep, hep⟩ : ∃ ep, ep = g.epoch := ⟨_, rfl⟩
  obtain ⟨ba, hba⟩ : ∃ ba, ba = g.base := ⟨_, rfl⟩
  obtain ⟨go, hgo⟩ : ∃ go, go = g.gone := ⟨_, rfl⟩
  obtain ⟨kn, hkn⟩ : ∃ kn, kn = g.known := ⟨_, rfl⟩
  obtain ⟨fi, hfi⟩ : ∃ fi, fi = g.first := ⟨_, rfl⟩
  rw [← hep, ← hba, ← hfi] at hby
  rw [← hep, ← hba, ← hgo, ← hkn] at hL1 hw1 ⊢
  rw [← hep, ← hgo, ← hkn] at hpop
  rw [← hep] at hV
  rw [← hep, ← hba, ← hgo, ← hkn, ← hfi] at hRR
  rw [← hba] at HTT
  have HBY := Lib.hid hby
  have HL1 := Lib.hid hL1
  have HB1 := Lib.hid hb1
  have HRR := Lib.hid hRR
  have HV := Lib.hid hV
  have HPO := Lib.hid hpop
  have HLA := Lib.hid hlast
  have HHE := Lib.hid hheld
  have HLB := Lib.hid hlb
  have u0 := hL1.cell 0 _ rfl
  have u1 := hL1.cell 1 _ rfl
  have u2 := hL1.cell 2 _ rfl
  have u3 := hL1.cell 3 _ rfl
  have u4 := hL1.cell 4 _ rfl
  have u5 := hL1.cell 5 _ rfl
  have u6 := hL1.cell 6 _ rfl
  have u7 := hL1.cell 7 _ rfl
  rw [hw1, hlb] at u0 u1 u2 u3 u4 u5 u6 u7
  clear hok hrow hro hf hh hfe hhe hb1 hL1 hby hcond hV hpop hlast hheld hT hR hRR hep hba hgo hkn hfi
  go_enter Tryz.func100, Tryz.ntmps100
  go_wp2_with fail
  rw [← hw1, ← hlb]
  clear hw1 hlb u0 u1 u2 u3 u4 u5 u6 u7
  refine HBY.out.mono ?_
  rintro e w2 ⟨v2, rfl, ho2, hb2⟩
  obtain ⟨A2, n2, c2, rfl⟩ : ∃ A n c, v2 = .slice A n c := by
    obtain ⟨A, c, h, _⟩ := (OwnB.rdB ho2).at
    exact ⟨A, _, c, h⟩
  have hB2 := HB1.out.trans (hb2.mono HB1.out.size)
  have hL2 := HL1.out.below hb2 HL1.out.size
  have hout := OutR.one (ho2.lower HB1.out.size) hB2.size
  obtain ⟨w3, hw3⟩ : ∃ w3, w3 = w2.alloc (.cells #[.slice A2 n2 c2] 41) := ⟨_, rfl⟩
  have hB3 : Below w.heap.size w w3 := by rw [hw3]; exact hB2.alloc hB2.size _
  have hL3 : Whole w3 lb 73 [.int .i64 2, .int .i64 ep, .int .i64 ba, .int .i64 0, .slice F f.length nf, .int .i64 go, .int .i64 kn, .slice H h.length nh] := by rw [hw3]; exact hL2.alloc _
  rw [← hw3] at hout
  have HB3 := Lib.hid hB3
  have HL3 := Lib.hid hL3
  obtain ⟨o1, ho1⟩ : ∃ o1, o1 = w2.heap.size := ⟨_, rfl⟩
  rw [← ho1] at hout
  have HO3 := Lib.hid hout
  have HW3 := Lib.hid hw3
  have u0 := hL2.cell 0 _ rfl
  have u1 := hL2.cell 1 _ rfl
  have u2 := hL2.cell 2 _ rfl
  have u3 := hL2.cell 3 _ rfl
  have u4 := hL2.cell 4 _ rfl
  have u5 := hL2.cell 5 _ rfl
  have u6 := hL2.cell 6 _ rfl
  have u7 := hL2.cell 7 _ rfl
  have hlbs := hL2.size
  clear hb2 hB2 hL2 hL3 hB3 hout HBY HL1 HB1 ho2
  by_cases hgt : ba < go
  · have hr := HRR.out
    rw [if_pos hgt] at hr
    have HRS := Lib.hid (show R = [(⟨2, ep, ba, 0, fi⟩ : Rc).B, (⟨4, ep, go, kn, []⟩ : Rc).B] ++ (h.drop (upto T h)).map fun b => (⟨3, ep, 0, 0, [b.t]⟩ : Rc).B from by
      rw [hr]; simp only [List.map_map, List.map_cons, List.cons_append, List.nil_append]; rfl)
    have hpb := hbytes_any ⟨4, ep, go, kn, []⟩ [] (.slice none 0 0) (fun _ => False) w3 HPO.out rfl (RdBts.nil _ _ _ _ _)
    unfold rcv at hpb
    simp only at hpb
    have HPB := Lib.hid hpb
    clear hr hpb
    go_wp2_with fail
    rw [← hw3, ← ho1]
    clear hw3 ho1 u0 u1 u2 u3 u4 u5 u6 u7
    refine HPB.out.mono ?_
    rintro e w4 ⟨v4, rfl, ho4, hb4⟩
    obtain ⟨A4, c4, rfl, -, -⟩ := (OwnB.rdB ho4).at
    obtain ⟨rows, hr1, hr2, hr3⟩ := HO3.out.below hb4 (Nat.le_refl _)
    have hB4 := HB3.out.trans (hb4.mono HB3.out.size)
    have hrl : 1 = rows.length := by have := congrArg List.length hr3; simpa [texts] using this.symm
    have hR4 := Rd.oneR w4 ⟨A4, c4, (⟨4, ep, go, kn, []⟩ : Rc).B⟩ 41
    unfold Row.v at hR4
    have HR1 := Lib.hid (show OwnR (w4.alloc (.cells #[.slice A4 (⟨4, ep, go, kn, []⟩ : Rc).B.length c4] 41)) w.heap.size (.slice (some ⟨o1, 0, none⟩) 1 1) rows from Own.alloc hr1 _)
    have HR2 := Lib.hid hr2
    have HR3 := Lib.hid hr3
    have HRL := Lib.hid hrl
    have HR4 := Lib.hid hR4
    have HRO := Lib.hid hr1
    have HO4 := Lib.hid (ho4.lower HB3.out.size)
    have HB4 := Lib.hid hB4
    have HL4 := Lib.hid (HL3.out.below hb4 HL3.out.size)
    have HZ4 := Lib.hid (show w.heap.size ≤ (w4.alloc (.cells #[.slice A4 (⟨4, ep, go, kn, []⟩ : Rc).B.length c4] 41)).heap.size from by rw [World.size_alloc]; have := hB4.size; omega)
    obtain ⟨PB, hPB⟩ : ∃ PB, PB = (⟨4, ep, go, kn, []⟩ : Rc).B := ⟨_, rfl⟩
    rw [← hPB] at HR1 HR4 HO4 HZ4 HRS ⊢
    clear ho4 hb4 hB4 hr1 hr2 hr3 hrl hR4 HPB hPB HO3
    go_wp2_with (at_builtin; go_must (refine wpList_addR rfl _ _ rfl w.heap.size (.slice (some ⟨o1, 0, none⟩) 1 1) rows rfl HR1.out (w4.heap.size + 1) _ [⟨A4, c4, PB⟩] rfl HR4.out (by have := HRL.out; simp; omega) HZ4.out ?_))
    rintro A5 c5 w5 HO5 HG5
    have hh5 := HoldRs.push (r := ⟨A4, c4, PB⟩) HRO.out HR2.out HO4.out (.cells #[.slice A4 PB.length c4] 41) HG5.out
    have hout5 : OutR w5 w.heap.size (.slice A5 (rows.length + 1) c5) [(⟨2, ep, ba, 0, fi⟩ : Rc).B, PB] := ⟨_, HO5.out, hh5, by rw [texts_append, HR3.out]; rfl⟩
    have hb5 : Below w.heap.size w w5 := Own.grown HR1.out (HB4.out.alloc HB4.out.size _) HG5.out (Nat.le_refl _) HZ4.out
    have hL5 := (HL4.out.alloc (.cells #[.slice A4 PB.length c4] 41)).grown HG5.out (Own.apart HR1.out (HL4.out.alloc _) (by decide))
    have e5 : rows.length + 1 = 2 := by rw [← HRL.out]
    rw [e5] at hout5
    have HOUT := Lib.hid hout5
    have HB := Lib.hid hb5
    have HL := Lib.hid hL5
    have HE5 := Lib.hid e5
    have hrl2 := HRL.out
    (try simp only [← hrl2, Nat.reduceAdd])
    clear HO5 HG5 hh5 hout5 hb5 hL5 e5 HR1 HR2 HR3 HR4 HRO HO4 HB4 HL4 HZ4 hrl2 HRL
    have u0 := HL.out.cell 0 _ rfl
    go_wp2_with fail
    obtain ⟨wd, hwd⟩ : ∃ wd, wd = w5.drew := ⟨_, rfl⟩
    have hbd : Below w5.heap.size w5 wd := by rw [hwd]; exact (Below.refl _ w5).drew
    have hLd := HL.out.below hbd HL.out.size
    have hC : ∀ W, Below wd.heap.size wd W → W.cell? ⟨lb, 0, none⟩ = some (.int .i64 2) ∧ W.cell? ⟨lb, 1, none⟩ = some (.int .i64 ep) ∧ W.cell? ⟨lb, 2, none⟩ = some (.int .i64 ba) ∧ W.cell? ⟨lb, 3, none⟩ = some (.int .i64 0) ∧ W.cell? ⟨lb, 4, none⟩ = some (.slice F f.length nf) ∧ W.cell? ⟨lb, 5, none⟩ = some (.int .i64 go) ∧ W.cell? ⟨lb, 6, none⟩ = some (.int .i64 kn) ∧ W.cell? ⟨lb, 7, none⟩ = some (.slice H h.length nh) := fun W hW => by
      have g2 := hLd.below hW hLd.size
      exact ⟨g2.cell 0 _ rfl, g2.cell 1 _ rfl, g2.cell 2 _ rfl, g2.cell 3 _ rfl, g2.cell 4 _ rfl, g2.cell 5 _ rfl, g2.cell 6 _ rfl, g2.cell 7 _ rfl⟩
    have HC := Lib.hid hC
    have HBD := Lib.hid (HB.out.trans (hbd.mono HB.out.size))
    have HOD := Lib.hid (HOUT.out.below hbd (Nat.le_refl _))
    refine wp_region_planB [(true, 0), (true, 1), (true, 2), (true, 3), (true, 4), (true, 5), (true, 6), (true, 10), (false, 7), (false, 8), (true, 9)] (by kernel_rfl) (by kernel_rfl) (fun _ _ d _ _ h => by cases d <;> exact h) ?_
    rw [← hwd]
    clear hC hLd hbd hwd u0
    (refine PlanB.take (v := ?_) rfl rfl ?_ ?_; rotate_left; (focus (intro W hW; obtain ⟨k0, k1, k2, k3, k4, k5, k6, k7⟩ := HC.out W hW; go_simp; (try with_reducible rfl); done)); (try simp only [Act.put, List.setIfInBounds_toArray, List.set_cons_zero, List.set_cons_succ]))
    (refine PlanB.take (v := ?_) rfl rfl ?_ ?_; rotate_left; (focus (intro W hW; obtain ⟨k0, k1, k2, k3, k4, k5, k6, k7⟩ := HC.out W hW; go_simp; (try with_reducible rfl); done)); (try simp only [Act.put, List.setIfInBounds_toArray, List.set_cons_zero, List.set_cons_succ]))
    (refine PlanB.take (v := ?_) rfl rfl ?_ ?_; rotate_left; (focus (intro W hW; obtain ⟨k0, k1, k2, k3, k4, k5, k6, k7⟩ := HC.out W hW; go_simp; (try with_reducible rfl); done)); (try simp only [Act.put, List.setIfInBounds_toArray, List.set_cons_zero, List.set_cons_succ]))
    (refine PlanB.take (v := ?_) rfl rfl ?_ ?_; rotate_left; (focus (intro W hW; obtain ⟨k0, k1, k2, k3, k4, k5, k6, k7⟩ := HC.out W hW; go_simp; (try with_reducible rfl); done)); (try simp only [Act.put, List.setIfInBounds_toArray, List.set_cons_zero, List.set_cons_succ]))
    (refine PlanB.take (v := ?_) rfl rfl ?_ ?_; rotate_left; (focus (intro W hW; obtain ⟨k0, k1, k2, k3, k4, k5, k6, k7⟩ := HC.out W hW; go_simp; (try with_reducible rfl); done)); (try simp only [Act.put, List.setIfInBounds_toArray, List.set_cons_zero, List.set_cons_succ]))
    (refine PlanB.take (v := ?_) rfl rfl ?_ ?_; rotate_left; (focus (intro W hW; obtain ⟨k0, k1, k2, k3, k4, k5, k6, k7⟩ := HC.out W hW; go_simp; (try with_reducible rfl); done)); (try simp only [Act.put, List.setIfInBounds_toArray, List.set_cons_zero, List.set_cons_succ]))
    (refine PlanB.take (v := ?_) rfl rfl ?_ ?_; rotate_left; (focus (intro W hW; obtain ⟨k0, k1, k2, k3, k4, k5, k6, k7⟩ := HC.out W hW; go_simp; (try with_reducible rfl); done)); (try simp only [Act.put, List.setIfInBounds_toArray, List.set_cons_zero, List.set_cons_succ]))
    (refine PlanB.take (v := ?_) rfl rfl ?_ ?_; rotate_left; (focus (intro W hW; obtain ⟨k0, k1, k2, k3, k4, k5, k6, k7⟩ := HC.out W hW; go_simp; (try with_reducible rfl); done)); (try simp only [Act.put, List.setIfInBounds_toArray, List.set_cons_zero, List.set_cons_succ]))
    refine PlanB.step rfl rfl (fun Kk hK => ?_)
    go_simp
    go_at_call 67
    refine (hlast_any ba f (.slice F f.length nf) _ wd (HLA.out wd HBD.out) (by omega)).mono ?_
    rintro e w6 ⟨rfl, rfl⟩
    rw [← HTT.out]
    refine hK.out _ _ (Below.refl _ _) ?_
    clear hK Kk
    (try simp only [Act.put, List.setIfInBounds_toArray, List.set_cons_zero, List.set_cons_succ])
    refine PlanB.step rfl rfl (fun Kk hK => ?_)
    go_simp
    go_at_call 38
    have hbe := hbehind_any 2 ep ba 0 F f.length nf go kn h H nh T (fun _ => False) w.heap.size w6 (HHE.out w6 HBD.out) HBD.out.size (by omega)
    unfold lgv at hbe
    refine hbe.mono ?_
    rintro e w7 ⟨A7, c7, rfl, hr7, hb7⟩
    refine hK.out _ _ hb7 ?_
    have HB7 := Lib.hid (HBD.out.trans (hb7.mono HBD.out.size))
    have HO7 := Lib.hid (HOD.out.below hb7 (Nat.le_refl _))
    have hdl : h.length - upto T h = (h.drop (upto T h)).length := by rw [List.length_drop]
    have hd24 : (h.drop (upto T h)).length ≤ 24 := by rw [List.length_drop]; omega
    obtain ⟨Q, hQ⟩ : ∃ Q, Q = h.drop (upto T h) := ⟨_, rfl⟩
    rw [hdl] at hr7 ⊢
    rw [← hQ] at hr7 hd24 HV HRS ⊢
    have HX7 := Lib.hid hr7
    clear hK Kk hbe hb7 hdl hQ hr7 HC HOD HBD
    (try simp only [Act.put, List.setIfInBounds_toArray, List.set_cons_zero, List.set_cons_succ])
    (refine PlanB.take (v := ?_) rfl rfl ?_ ?_; rotate_left; (focus (intro W hW; skip; go_simp; (try with_reducible rfl); done)); (try simp only [Act.put, List.setIfInBounds_toArray, List.set_cons_zero, List.set_cons_succ]))
    simp only [PlanB]
    go_wp2_with fail
    go_loopw [3, 40] (fun ov iv wr => ∃ (i : Nat) (D : Option Addr) (n d : Nat), i ≤ Q.length ∧ iv = .int .i64 (i : Int) ∧ ov = .slice D n d ∧ Hid (OutR wr w.heap.size (.slice D n d) ([(⟨2, ep, ba, 0, fi⟩ : Rc).B, PB] ++ (Q.take i).map fun b => (⟨3, ep, 0, 0, [b.t]⟩ : Rc).B)) ∧ Hid (Below w.heap.size w7 wr)) (fun _ iv _ => Q.length - (intOf iv).toNat)
    case atStart => exact ⟨0, A5, 2, c5, Nat.zero_le _, rfl, rfl, Lib.hid (by simpa using HO7.out), Lib.hid (Below.refl _ _)⟩
    case round =>
      obtain ⟨i, D, n, d, hi, rfl, rfl, HO, HBW⟩ := hrel
      by_cases hgo : i < Q.length
      · have h1 : (i : Int) < (Q.length : Int) := by omega
        have hx1 := (HX7.out.mv (Mv.of_below HBW.out) HB7.out.size (fun b hb hd => by omega)).mono (Nat.le_trans HB7.out.size HBW.out.size) (fun _ _ k => k)
        have hwrs : w.heap.size ≤ wr.heap.size := Nat.le_trans HB7.out.size HBW.out.size
        have hp1 := hx1.parts Q[i] (List.getElem_mem hgo)
        have hvv := HV.out Q[i] (List.getElem_mem hgo)
        have hst := map_step (fun b : BtV => (⟨3, ep, 0, 0, [b.t]⟩ : Rc).B) Q i hgo
        obtain ⟨_, _, e0, -, hcell1⟩ := hx1.at
        injection e0 with e1 e2 e3
        subst e1 e3
        obtain ⟨b1, o2, rfl, hbl1, -, q1⟩ := hcell1 i hgo
        obtain ⟨k0, k1, k2, k3⟩ := q1 wr rfl
        generalize Q[i] = y at hp1 hvv k0 k1 k2 k3 hst
        obtain ⟨t, a1, c1⟩ := y
        unfold BtV.v at hp1 k3
        simp only at hp1 hvv k0 k1 k2 k3 hst
        obtain ⟨w5b, hw5⟩ : ∃ w5b, w5b = wr.alloc (.cells #[.int .i64 t.prev, .int .i64 t.version, .int .i64 t.known, .slice a1 t.chgs.length c1] 38) := ⟨_, rfl⟩
        have hb5 : Below wr.heap.size wr w5b := by rw [hw5]; exact (Below.refl _ wr).alloc (Nat.le_refl _) _
        have hp5 : RdG encC 3 w5b w5b.heap.size (fun _ => False) (.slice a1 t.chgs.length c1) t.chgs := (hp1.mv (Mv.of_new hb5 (fun _ => False)) (Nat.le_refl _) (fun _ _ k => k)).mono hb5.size (fun _ _ k => k)
        have hone := RdBts.one (y := ⟨t, a1, c1⟩) hp5 38
        obtain ⟨w6b, hw6⟩ : ∃ w6b, w6b = w5b.alloc (.cells #[.int .i64 t.prev, .int .i64 t.version, .int .i64 t.known, .slice a1 t.chgs.length c1] 38) := ⟨_, rfl⟩
        have hb6 : Below wr.heap.size wr w6b := by rw [hw6]; exact hb5.alloc hb5.size _
        have hone' : RdBts w6b w6b.heap.size (fun _ => False) (.slice (some ⟨w5b.heap.size, 0, none⟩) 1 1) [⟨t, a1, c1⟩] := by rw [hw6]; exact hone
        have hpb := hbytes_any ⟨3, ep, 0, 0, [t]⟩ [⟨t, a1, c1⟩] (.slice (some ⟨w5b.heap.size, 0, none⟩) 1 1) (fun _ => False) w6b hvv rfl hone'
        unfold rcv at hpb
        simp only at hpb
        have hs5 : w5b.heap.size = wr.heap.size + 1 := by rw [hw5]; simp
        rw [hs5] at hpb
        have HPB := Lib.hid hpb
        have HB6 := Lib.hid hb6
        have HST := Lib.hid hst
        clear hx1 hp1 hvv hcell1 q1 hb5 hp5 hone hone' hb6 hpb hst hs5
        go_wp2_with fail
        rw [← hw5, ← hw6]
        clear hw5 hw6 k0 k1 k2 k3
        refine HPB.out.mono ?_
        rintro e w8 ⟨v8, rfl, ho8, hb8⟩
        obtain ⟨A8, c8, rfl, -, -⟩ := (OwnB.rdB ho8).at
        have hb68 := HB6.out.trans (hb8.mono HB6.out.size)
        have hw8b := HBW.out.trans (hb68.mono hwrs)
        have hB8 := HB7.out.trans hw8b
        have hn := HO.out.len
        obtain ⟨rows, hr1, hr2, hr3⟩ := HO.out.below hb68 (Nat.le_refl _)
        have hrl : n = rows.length := by
          have := congrArg List.length hr3
          rw [texts, List.length_map] at this
          rw [hn, this]
        have hR4 := Rd.oneR w8 ⟨A8, c8, (⟨3, ep, 0, 0, [t]⟩ : Rc).B⟩ 41
        unfold Row.v at hR4
        have hsz : w.heap.size ≤ w6b.heap.size := Nat.le_trans hwrs HB6.out.size
        have hnb : n ≤ 1000 := by
          rw [hn, List.length_append, List.length_map, List.length_take]
          simp only [List.length_cons, List.length_nil]
          omega
        have HR1 := Lib.hid (show OwnR (w8.alloc (.cells #[.slice A8 (⟨3, ep, 0, 0, [t]⟩ : Rc).B.length c8] 41)) w.heap.size (.slice D n d) rows from Own.alloc hr1 _)
        have HR2 := Lib.hid hr2
        have HR3 := Lib.hid hr3
        have HRL := Lib.hid (And.intro hrl hnb)
        have HR4 := Lib.hid hR4
        have HRO := Lib.hid hr1
        have HO8 := Lib.hid (ho8.lower hsz)
        have HB8 := Lib.hid hw8b
        have HZ8 := Lib.hid (show w.heap.size ≤ (w8.alloc (.cells #[.slice A8 (⟨3, ep, 0, 0, [t]⟩ : Rc).B.length c8] 41)).heap.size from by rw [World.size_alloc]; have := hB8.size; omega)
        obtain ⟨PB', hPB⟩ : ∃ PB', PB' = (⟨3, ep, 0, 0, [t]⟩ : Rc).B := ⟨_, rfl⟩
        rw [← hPB] at HR1 HR4 HO8 HZ8 HST ⊢
        clear ho8 hb8 hB8 hr1 hr2 hr3 hrl hR4 HPB hPB HO hn hnb hsz hb68 hw8b hwrs
        go_wp2_with (at_builtin; go_must (refine wpList_addR rfl _ _ rfl w.heap.size (.slice D n d) rows rfl HR1.out (w8.heap.size + 1) _ [⟨A8, c8, PB'⟩] rfl HR4.out (by have := HRL.out; simp; omega) HZ8.out ?_))
        rintro A9 c9 w9 HO9 HG9
        have hh9 := HoldRs.push (r := ⟨A8, c8, PB'⟩) HRO.out HR2.out HO8.out (.cells #[.slice A8 PB'.length c8] 41) HG9.out
        have hout9 : OutR w9 w.heap.size (.slice A9 (rows.length + 1) c9) ([(⟨2, ep, ba, 0, fi⟩ : Rc).B, PB] ++ (Q.take (i + 1)).map fun b => (⟨3, ep, 0, 0, [b.t]⟩ : Rc).B) := ⟨_, HO9.out, hh9, by rw [texts_append, HR3.out, HST.out, List.append_assoc]; rfl⟩
        have hb9 : Below w.heap.size w7 w9 := Own.grown HR1.out (HB8.out.alloc (Nat.le_trans HB7.out.size HB8.out.size) _) HG9.out (Nat.le_refl _) HZ8.out
        obtain ⟨n9, hn9⟩ : ∃ n9, n9 = rows.length + 1 := ⟨_, rfl⟩
        rw [← hn9] at hout9 ⊢
        have HOUT9 := Lib.hid hout9
        have HBB9 := Lib.hid hb9
        clear HO9 HG9 hh9 hout9 hb9 hn9 HR1 HR2 HR3 HR4 HRO HO8 HB8 HZ8 HRL
        go_wp2_with fail
        go_roundw
        case rel => exact ⟨i + 1, A9, n9, c9, by omega, by go_num, rfl, HOUT9, HBB9⟩
        case measure => simp [intOf]; omega
      · have h1 : ¬ (i : Int) < (Q.length : Int) := by omega
        have hil : i = Q.length := by omega
        have HE := Lib.hid (show OutR wr w.heap.size (.slice D n d) R from by
          have := HO.out
          rw [hil, List.take_length] at this
          rw [HRS.out]
          exact this)
        have HBE := Lib.hid (HB7.out.trans HBW.out)
        clear HO hil
        go_wp2_with fail
        go_ret
        exact ⟨_, _, _, rfl, HE.out, HBE.out⟩
  · have hr := HRR.out
    rw [if_neg hgt] at hr
    have HRS := Lib.hid (show R = [(⟨2, ep, ba, 0, fi⟩ : Rc).B] ++ (h.drop (upto T h)).map fun b => (⟨3, ep, 0, 0, [b.t]⟩ : Rc).B from by
      rw [hr]; simp only [List.map_map, List.map_cons, List.cons_append, List.nil_append]; rfl)
    have HOUT := HO3
    have HB := HB3
    have HL := HL3
    clear hr
    go_wp2_with fail
    rw [← hw3, ← ho1]
    clear hw3 ho1 u0 u1 u2 u3 u4 u5 u6 u7
    obtain ⟨wd, hwd⟩ : ∃ wd, wd = w3.drew := ⟨_, rfl⟩
    have hbd : Below w3.heap.size w3 wd := by rw [hwd]; exact (Below.refl _ w3).drew
    have hLd := HL.out.below hbd HL.out.size
    have hC : ∀ W, Below wd.heap.size wd W → W.cell? ⟨lb, 0, none⟩ = some (.int .i64 2) ∧ W.cell? ⟨lb, 1, none⟩ = some (.int .i64 ep) ∧ W.cell? ⟨lb, 2, none⟩ = some (.int .i64 ba) ∧ W.cell? ⟨lb, 3, none⟩ = some (.int .i64 0) ∧ W.cell? ⟨lb, 4, none⟩ = some (.slice F f.length nf) ∧ W.cell? ⟨lb, 5, none⟩ = some (.int .i64 go) ∧ W.cell? ⟨lb, 6, none⟩ = some (.int .i64 kn) ∧ W.cell? ⟨lb, 7, none⟩ = some (.slice H h.length nh) := fun W hW => by
      have g2 := hLd.below hW hLd.size
      exact ⟨g2.cell 0 _ rfl, g2.cell 1 _ rfl, g2.cell 2 _ rfl, g2.cell 3 _ rfl, g2.cell 4 _ rfl, g2.cell 5 _ rfl, g2.cell 6 _ rfl, g2.cell 7 _ rfl⟩
    have HC := Lib.hid hC
    have HBD := Lib.hid (HB.out.trans (hbd.mono HB.out.size))
    have HOD := Lib.hid (HOUT.out.below hbd (Nat.le_refl _))
    refine wp_region_planB [(true, 0), (true, 1), (true, 2), (true, 3), (true, 4), (true, 5), (true, 6), (true, 10), (false, 7), (false, 8), (true, 9)] (by kernel_rfl) (by kernel_rfl) (fun _ _ d _ _ h => by cases d <;> exact h) ?_
    rw [← hwd]
    clear hC hLd hbd hwd
    (refine PlanB.take (v := ?_) rfl rfl ?_ ?_; rotate_left; (focus (intro W hW; obtain ⟨k0, k1, k2, k3, k4, k5, k6, k7⟩ := HC.out W hW; go_simp; (try with_reducible rfl); done)); (try simp only [Act.put, List.setIfInBounds_toArray, List.set_cons_zero, List.set_cons_succ]))
    (refine PlanB.take (v := ?_) rfl rfl ?_ ?_; rotate_left; (focus (intro W hW; obtain ⟨k0, k1, k2, k3, k4, k5, k6, k7⟩ := HC.out W hW; go_simp; (try with_reducible rfl); done)); (try simp only [Act.put, List.setIfInBounds_toArray, List.set_cons_zero, List.set_cons_succ]))
    (refine PlanB.take (v := ?_) rfl rfl ?_ ?_; rotate_left; (focus (intro W hW; obtain ⟨k0, k1, k2, k3, k4, k5, k6, k7⟩ := HC.out W hW; go_simp; (try with_reducible rfl); done)); (try simp only [Act.put, List.setIfInBounds_toArray, List.set_cons_zero, List.set_cons_succ]))
    (refine PlanB.take (v := ?_) rfl rfl ?_ ?_; rotate_left; (focus (intro W hW; obtain ⟨k0, k1, k2, k3, k4, k5, k6, k7⟩ := HC.out W hW; go_simp; (try with_reducible rfl); done)); (try simp only [Act.put, List.setIfInBounds_toArray, List.set_cons_zero, List.set_cons_succ]))
    (refine PlanB.take (v := ?_) rfl rfl ?_ ?_; rotate_left; (focus (intro W hW; obtain ⟨k0, k1, k2, k3, k4, k5, k6, k7⟩ := HC.out W hW; go_simp; (try with_reducible rfl); done)); (try simp only [Act.put, List.setIfInBounds_toArray, List.set_cons_zero, List.set_cons_succ]))
    (refine PlanB.take (v := ?_) rfl rfl ?_ ?_; rotate_left; (focus (intro W hW; obtain ⟨k0, k1, k2, k3, k4, k5, k6, k7⟩ := HC.out W hW; go_simp; (try with_reducible rfl); done)); (try simp only [Act.put, List.setIfInBounds_toArray, List.set_cons_zero, List.set_cons_succ]))
    (refine PlanB.take (v := ?_) rfl rfl ?_ ?_; rotate_left; (focus (intro W hW; obtain ⟨k0, k1, k2, k3, k4, k5, k6, k7⟩ := HC.out W hW; go_simp; (try with_reducible rfl); done)); (try simp only [Act.put, List.setIfInBounds_toArray, List.set_cons_zero, List.set_cons_succ]))
    (refine PlanB.take (v := ?_) rfl rfl ?_ ?_; rotate_left; (focus (intro W hW; obtain ⟨k0, k1, k2, k3, k4, k5, k6, k7⟩ := HC.out W hW; go_simp; (try with_reducible rfl); done)); (try simp only [Act.put, List.setIfInBounds_toArray, List.set_cons_zero, List.set_cons_succ]))
    refine PlanB.step rfl rfl (fun Kk hK => ?_)
    go_simp
    go_at_call 67
    refine (hlast_any ba f (.slice F f.length nf) _ wd (HLA.out wd HBD.out) (by omega)).mono ?_
    rintro e w6 ⟨rfl, rfl⟩
    rw [← HTT.out]
    refine hK.out _ _ (Below.refl _ _) ?_
    clear hK Kk
    (try simp only [Act.put, List.setIfInBounds_toArray, List.set_cons_zero, List.set_cons_succ])
    refine PlanB.step rfl rfl (fun Kk hK => ?_)
    go_simp
    go_at_call 38
    have hbe := hbehind_any 2 ep ba 0 F f.length nf go kn h H nh T (fun _ => False) w.heap.size w6 (HHE.out w6 HBD.out) HBD.out.size (by omega)
    unfold lgv at hbe
    refine hbe.mono ?_
    rintro e w7 ⟨A7, c7, rfl, hr7, hb7⟩
    refine hK.out _ _ hb7 ?_
    have HB7 := Lib.hid (HBD.out.trans (hb7.mono HBD.out.size))
    have HO7 := Lib.hid (HOD.out.below hb7 (Nat.le_refl _))
    have hdl : h.length - upto T h = (h.drop (upto T h)).length := by rw [List.length_drop]
    have hd24 : (h.drop (upto T h)).length ≤ 24 := by rw [List.length_drop]; omega
    obtain ⟨Q, hQ⟩ : ∃ Q, Q = h.drop (upto T h) := ⟨_, rfl⟩
    rw [hdl] at hr7 ⊢
    rw [← hQ] at hr7 hd24 HV HRS ⊢
    have HX7 := Lib.hid hr7
    clear hK Kk hbe hb7 hdl hQ hr7 HC HOD HBD
    (try simp only [Act.put, List.setIfInBounds_toArray, List.set_cons_zero, List.set_cons_succ])
    (refine PlanB.take (v := ?_) rfl rfl ?_ ?_; rotate_left; (focus (intro W hW; skip; go_simp; (try with_reducible rfl); done)); (try simp only [Act.put, List.setIfInBounds_toArray, List.set_cons_zero, List.set_cons_succ]))
    simp only [PlanB]
    go_wp2_with fail
    go_loopw [3, 40] (fun ov iv wr => ∃ (i : Nat) (D : Option Addr) (n d : Nat), i ≤ Q.length ∧ iv = .int .i64 (i : Int) ∧ ov = .slice D n d ∧ Hid (OutR wr w.heap.size (.slice D n d) ([(⟨2, ep, ba, 0, fi⟩ : Rc).B] ++ (Q.take i).map fun b => (⟨3, ep, 0, 0, [b.t]⟩ : Rc).B)) ∧ Hid (Below w.heap.size w7 wr)) (fun _ iv _ => Q.length - (intOf iv).toNat)
    case atStart => exact ⟨0, some ⟨o1, 0, none⟩, 1, 1, Nat.zero_le _, rfl, rfl, Lib.hid (by simpa using HO7.out), Lib.hid (Below.refl _ _)⟩
    case round =>
      obtain ⟨i, D, n, d, hi, rfl, rfl, HO, HBW⟩ := hrel
      by_cases hgo : i < Q.length
      · have h1 : (i : Int) < (Q.length : Int) := by omega
        have hx1 := (HX7.out.mv (Mv.of_below HBW.out) HB7.out.size (fun b hb hd => by omega)).mono (Nat.le_trans HB7.out.size HBW.out.size) (fun _ _ k => k)
        have hwrs : w.heap.size ≤ wr.heap.size := Nat.le_trans HB7.out.size HBW.out.size
        have hp1 := hx1.parts Q[i] (List.getElem_mem hgo)
        have hvv := HV.out Q[i] (List.getElem_mem hgo)
        have hst := map_step (fun b : BtV => (⟨3, ep, 0, 0, [b.t]⟩ : Rc).B) Q i hgo
        obtain ⟨_, _, e0, -, hcell1⟩ := hx1.at
        injection e0 with e1 e2 e3
        subst e1 e3
        obtain ⟨b1, o2, rfl, hbl1, -, q1⟩ := hcell1 i hgo
        obtain ⟨k0, k1, k2, k3⟩ := q1 wr rfl
        generalize Q[i] = y at hp1 hvv k0 k1 k2 k3 hst
        obtain ⟨t, a1, c1⟩ := y
        unfold BtV.v at hp1 k3
        simp only at hp1 hvv k0 k1 k2 k3 hst
        obtain ⟨w5b, hw5⟩ : ∃ w5b, w5b = wr.alloc (.cells #[.int .i64 t.prev, .int .i64 t.version, .int .i64 t.known, .slice a1 t.chgs.length c1] 38) := ⟨_, rfl⟩
        have hb5 : Below wr.heap.size wr w5b := by rw [hw5]; exact (Below.refl _ wr).alloc (Nat.le_refl _) _
        have hp5 : RdG encC 3 w5b w5b.heap.size (fun _ => False) (.slice a1 t.chgs.length c1) t.chgs := (hp1.mv (Mv.of_new hb5 (fun _ => False)) (Nat.le_refl _) (fun _ _ k => k)).mono hb5.size (fun _ _ k => k)
        have hone := RdBts.one (y := ⟨t, a1, c1⟩) hp5 38
        obtain ⟨w6b, hw6⟩ : ∃ w6b, w6b = w5b.alloc (.cells #[.int .i64 t.prev, .int .i64 t.version, .int .i64 t.known, .slice a1 t.chgs.length c1] 38) := ⟨_, rfl⟩
        have hb6 : Below wr.heap.size wr w6b := by rw [hw6]; exact hb5.alloc hb5.size _
        have hone' : RdBts w6b w6b.heap.size (fun _ => False) (.slice (some ⟨w5b.heap.size, 0, none⟩) 1 1) [⟨t, a1, c1⟩] := by rw [hw6]; exact hone
        have hpb := hbytes_any ⟨3, ep, 0, 0, [t]⟩ [⟨t, a1, c1⟩] (.slice (some ⟨w5b.heap.size, 0, none⟩) 1 1) (fun _ => False) w6b hvv rfl hone'
        unfold rcv at hpb
        simp only at hpb
        have hs5 : w5b.heap.size = wr.heap.size + 1 := by rw [hw5]; simp
        rw [hs5] at hpb
        have HPB := Lib.hid hpb
        have HB6 := Lib.hid hb6
        have HST := Lib.hid hst
        clear hx1 hp1 hvv hcell1 q1 hb5 hp5 hone hone' hb6 hpb hst hs5
        go_wp2_with fail
        rw [← hw5, ← hw6]
        clear hw5 hw6 k0 k1 k2 k3
        refine HPB.out.mono ?_
        rintro e w8 ⟨v8, rfl, ho8, hb8⟩
        obtain ⟨A8, c8, rfl, -, -⟩ := (OwnB.rdB ho8).at
        have hb68 := HB6.out.trans (hb8.mono HB6.out.size)
        have hw8b := HBW.out.trans (hb68.mono hwrs)
        have hB8 := HB7.out.trans hw8b
        have hn := HO.out.len
        obtain ⟨rows, hr1, hr2, hr3⟩ := HO.out.below hb68 (Nat.le_refl _)
        have hrl : n = rows.length := by
          have := congrArg List.length hr3
          rw [texts, List.length_map] at this
          rw [hn, this]
        have hR4 := Rd.oneR w8 ⟨A8, c8, (⟨3, ep, 0, 0, [t]⟩ : Rc).B⟩ 41
        unfold Row.v at hR4
        have hsz : w.heap.size ≤ w6b.heap.size := Nat.le_trans hwrs HB6.out.size
        have hnb : n ≤ 1000 := by
          rw [hn, List.length_append, List.length_map, List.length_take]
          simp only [List.length_cons, List.length_nil]
          omega
        have HR1 := Lib.hid (show OwnR (w8.alloc (.cells #[.slice A8 (⟨3, ep, 0, 0, [t]⟩ : Rc).B.length c8] 41)) w.heap.size (.slice D n d) rows from Own.alloc hr1 _)
        have HR2 := Lib.hid hr2
        have HR3 := Lib.hid hr3
        have HRL := Lib.hid (And.intro hrl hnb)
        have HR4 := Lib.hid hR4
        have HRO := Lib.hid hr1
        have HO8 := Lib.hid (ho8.lower hsz)
        have HB8 := Lib.hid hw8b
        have HZ8 := Lib.hid (show w.heap.size ≤ (w8.alloc (.cells #[.slice A8 (⟨3, ep, 0, 0, [t]⟩ : Rc).B.length c8] 41)).heap.size from by rw [World.size_alloc]; have := hB8.size; omega)
        obtain ⟨PB', hPB⟩ : ∃ PB', PB' = (⟨3, ep, 0, 0, [t]⟩ : Rc).B := ⟨_, rfl⟩
        rw [← hPB] at HR1 HR4 HO8 HZ8 HST ⊢
        clear ho8 hb8 hB8 hr1 hr2 hr3 hrl hR4 HPB hPB HO hn hnb hsz hb68 hw8b hwrs
        go_wp2_with (at_builtin; go_must (refine wpList_addR rfl _ _ rfl w.heap.size (.slice D n d) rows rfl HR1.out (w8.heap.size + 1) _ [⟨A8, c8, PB'⟩] rfl HR4.out (by have := HRL.out; simp; omega) HZ8.out ?_))
        rintro A9 c9 w9 HO9 HG9
        have hh9 := HoldRs.push (r := ⟨A8, c8, PB'⟩) HRO.out HR2.out HO8.out (.cells #[.slice A8 PB'.length c8] 41) HG9.out
        have hout9 : OutR w9 w.heap.size (.slice A9 (rows.length + 1) c9) ([(⟨2, ep, ba, 0, fi⟩ : Rc).B] ++ (Q.take (i + 1)).map fun b => (⟨3, ep, 0, 0, [b.t]⟩ : Rc).B) := ⟨_, HO9.out, hh9, by rw [texts_append, HR3.out, HST.out, List.append_assoc]; rfl⟩
        have hb9 : Below w.heap.size w7 w9 := Own.grown HR1.out (HB8.out.alloc (Nat.le_trans HB7.out.size HB8.out.size) _) HG9.out (Nat.le_refl _) HZ8.out
        obtain ⟨n9, hn9⟩ : ∃ n9, n9 = rows.length + 1 := ⟨_, rfl⟩
        rw [← hn9] at hout9 ⊢
        have HOUT9 := Lib.hid hout9
        have HBB9 := Lib.hid hb9
        clear HO9 HG9 hh9 hout9 hb9 hn9 HR1 HR2 HR3 HR4 HRO HO8 HB8 HZ8 HRL
        go_wp2_with fail
        go_roundw
        case rel => exact ⟨i + 1, A9, n9, c9, by omega, by go_num, rfl, HOUT9, HBB9⟩
        case measure => simp [intOf]; omega
      · have h1 : ¬ (i : Int) < (Q.length : Int) := by omega
        have hil : i = Q.length := by omega
        have HE := Lib.hid (show OutR wr w.heap.size (.slice D n d) R from by
          have := HO.out
          rw [hil, List.take_length] at this
          rw [HRS.out]
          exact this)
        have HBE := Lib.hid (HB7.out.trans HBW.out)
        clear HO hil
        go_wp2_with fail
        go_ret
        exact ⟨_, _, _, rfl, HE.out, HBE.out⟩
end Go.Proofs.YtmigninibdecmaaGreat
namespace Go.Proofs.YtmigninibdecmaaGreat
open Go.RowKit
attribute [local go_sem] less_eq same_eq le_eq ge_eq gt_eq

theorem HoldRs.pushes {w w' : World} {base : Nat} {v : Value} {rows rows2 : List Row} (hO : OwnR w base v rows) (hH : HoldRs w base rows) (hB : HoldRs w base rows2) (hg : w.grownBy w' v.ownBlock) : HoldRs w' base (rows ++ rows2) :=
  (hH.append hB).grown hO hg
set_option maxHeartbeats 16000000 in
set_option maxRecDepth 100000 in
theorem hrecs_any (nb mb : Nat) (v0 v3 : Value) (lock : Int) (x : LgV) (base : Nat) (Gf : Nat → Prop) (w : World) (hn : Whole w nb 61 [v0, .int .i64 lock, .map (some mb), v3]) (hm : MapI w mb [x.pr]) (k : LgIs w base Gf x) (hlk : 0 ≤ lock ∧ lock < 4611686018427387904) :
    Calls Tryz.prog 66 #[.pointer (some ⟨nb, 0, none⟩)] w fun e w' => ∃ A n c, e = .returned (.slice A n c) ∧ OutR w' w.heap.size (.slice A n c) ((recs1 lock x.g).map (·.B)) ∧ Below w.heap.size w w' := by
  have hR : (recs1 lock x.g).map (·.B) = (if 0 < lock then [(⟨1, lock, 0, 0, []⟩ : Rc).B] else []) ++ x.g.recs.map (·.B) := by
    unfold recs1
    rw [List.map_append]
    split <;> rfl
  have hep := k.ok.ep
  have hlr : ∀ W, Below w.heap.size w W → (Calls Tryz.prog 100 #[x.v] W fun e w' => ∃ A n c, e = .returned (.slice A n c) ∧ OutR w' W.heap.size (.slice A n c) (x.g.recs.map (·.B)) ∧ Below W.heap.size W w') ∧
      (Instr.lookup 59 (.map (some mb)) (.int .i64 x.g.epoch) false).run Tryz.prog W = .ok x.v W ∧ Whole W nb 61 [v0, .int .i64 lock, .map (some mb), v3] ∧ MapI W mb [(x.g.epoch, x.v)] := fun W hW => ⟨hlrecs_any x base Gf W (k.new hW), by
      have hm2 : MapI W mb [x.pr] := hm.mv (Mv.of_new hW (fun _ => False)) (fun k => k)
      simpa using hm2.look Tryz.underlying59 Tryz.underlying3 (k := x.g.epoch) (v := x.v) (List.mem_singleton.2 rfl) false, hn.below hW hn.size, hm.mv (Mv.of_new hW (fun _ => False)) (fun k => k)⟩
  have hrl : (x.g.recs.map (·.B)).length ≤ 100 := by
    have := recs1_len (lock := 0) k.ok
    unfold recs1 at this
    rw [List.length_append] at this
    rw [List.length_map]
    omega
  obtain ⟨R, hRe⟩ : ∃ R, R = x.g.recs.map (·.B) := ⟨_, rfl⟩
  rw [← hRe] at hR hrl
  rw [hR]
  simp only [← hRe] at hlr
  simp only [LgV.v_eq] at hlr
  generalize x.g.epoch = ep at hlr hep
  generalize x.g.base = ba at hlr
  generalize x.g.gone = go at hlr
  generalize x.g.known = kn at hlr
  generalize x.f.length = fl at hlr
  generalize x.h.length = hl at hlr
  generalize x.F = F at hlr
  generalize x.H = H at hlr
  generalize x.nf = nf at hlr
  generalize x.nh = nh at hlr
  have HLR := Lib.hid hlr
  have HRL := Lib.hid hrl
  have hns := hn.size
  have c1 := hn.cell 1 _ rfl
  have c2 := hn.cell 2 _ rfl
  have HEP := Lib.hid (show -9223372036854775808 ≤ ep ∧ ep < 9223372036854775808 by omega)
  have HP1 := Lib.hid (fun (_ : 0 < lock) => hbytes_any ⟨1, lock, 0, 0, []⟩ [] (.slice none 0 0) (fun _ => False) w (lock_ok hlk) rfl (RdBts.nil _ _ _ _ _))
  clear hR hlr hrl hm k hRe hn hep
  by_cases hgt : 0 < lock
  · rw [if_pos hgt]
    have hpb := HP1.out hgt
    unfold rcv at hpb
    simp only at hpb
    have HPB := Lib.hid hpb
    clear hpb HP1
    go_enter Tryz.func66, Tryz.ntmps66
    go_wp2_with fail
    clear c1 c2
    refine HPB.out.mono ?_
    rintro e w2 ⟨v2, rfl, ho2, hb2⟩
    obtain ⟨A2, c2, rfl, -, -⟩ := (OwnB.rdB ho2).at
    have hR4 := Rd.oneR w2 ⟨A2, c2, (⟨1, lock, 0, 0, []⟩ : Rc).B⟩ 41
    unfold Row.v at hR4
    have HR1 := Lib.hid (show OwnR (w2.alloc (.cells #[.slice A2 (⟨1, lock, 0, 0, []⟩ : Rc).B.length c2] 41)) w.heap.size (.slice none 0 0) [] from Own.nil _ _)
    have HR4 := Lib.hid hR4
    have HO2 := Lib.hid ho2
    have HB2 := Lib.hid hb2
    have HZ2 := Lib.hid (show w.heap.size ≤ (w2.alloc (.cells #[.slice A2 (⟨1, lock, 0, 0, []⟩ : Rc).B.length c2] 41)).heap.size from by rw [World.size_alloc]; have := hb2.size; omega)
    obtain ⟨PB, hPB⟩ : ∃ PB, PB = (⟨1, lock, 0, 0, []⟩ : Rc).B := ⟨_, rfl⟩
    rw [← hPB] at HR1 HR4 HO2 HZ2 ⊢
    have HPE := Lib.hid hPB
    clear ho2 hb2 hR4 HPB hPB
    go_wp2_with (at_builtin; go_must (refine wpList_addR rfl _ _ rfl w.heap.size (.slice none 0 0) [] rfl HR1.out (w2.heap.size + 1) _ [⟨A2, c2, PB⟩] rfl HR4.out (by simp) HZ2.out ?_))
    rintro A5 c5 w5 HO5 HG5
    have hh5 := HoldRs.push (r := ⟨A2, c2, PB⟩) (Own.nil w2 w.heap.size) (HoldRs.nil _ _) HO2.out (.cells #[.slice A2 PB.length c2] 41) HG5.out
    have hout5 : OutR w5 w.heap.size (.slice A5 1 c5) [PB] := ⟨_, HO5.out, hh5, rfl⟩
    have hb5 : Below w.heap.size w w5 := Own.grown HR1.out (HB2.out.alloc HB2.out.size _) HG5.out (Nat.le_refl _) HZ2.out
    have HOUT := Lib.hid hout5
    have HB := Lib.hid hb5
    (try simp only [List.nil_append, List.length_cons, List.length_nil, Nat.zero_add])
    clear HO5 HG5 hh5 hout5 hb5 HR1 HR4 HO2 HB2 HZ2
    obtain ⟨h1, h2, h3, h4⟩ := HLR.out w5 HB.out
    have c2 := h3.cell 2 _ rfl
    have HEPO := Lib.hid (hepo1_any nb mb ep _ w5 c2 h4 HEP.out)
    clear h1 h2 h3 h4 c2
    go_wp2_with fail
    refine HEPO.out.mono ?_
    rintro e w6 ⟨A6, c6, rfl, ho6, hb6⟩
    have hB6 := HB.out.trans (hb6.mono HB.out.size)
    have hO6 := HOUT.out.below hb6 (Nat.le_refl _)
    have HI := Lib.hid (OwnI.rdI ho6)
    have HB6 := Lib.hid hB6
    have HO6 := Lib.hid hO6
    clear ho6 hb6 hB6 hO6 HEPO
    go_wp2_with fail
    go_loopw [3, 23] (fun ov iv wr => (iv = .int .i64 0 ∧ ov = .slice A5 1 c5 ∧ wr = w6) ∨ (∃ (D : Option Addr) (n d : Nat), iv = .int .i64 1 ∧ ov = .slice D n d ∧ Hid (OutR wr w.heap.size (.slice D n d) ([PB] ++ R)) ∧ Hid (Below w.heap.size w wr))) (fun _ iv _ => 1 - (intOf iv).toNat)
    case atStart => exact .inl ⟨rfl, rfl, rfl⟩
    case round =>
      rcases hrel with ⟨rfl, rfl, rfl⟩ | ⟨D, n, d, rfl, rfl, HO, HBW⟩
      · obtain ⟨_, _, e0, -, hcell⟩ := HI.out.at
        injection e0 with e1 e2 e3
        clear e2
        subst e1 e3
        obtain ⟨b6, o6, rfl, hb6s, q6⟩ := hcell 0 (by simp)
        simp only [List.getElem_cons_zero, Nat.add_zero] at q6
        clear hcell
        obtain ⟨hlr, hlk, hno, -⟩ := HLR.out wr HB6.out
        have c2 := hno.cell 2 _ rfl
        have HCL := Lib.hid hlr
        clear hlr hno
        go_wp2_with fail
        refine HCL.out.mono ?_
        rintro e w7 ⟨A7, n7, c7, rfl, ho7, hb7⟩
        obtain ⟨rows7, hr7, hh7, ht7⟩ := ho7
        obtain ⟨rows, hr1, hh1, ht1⟩ := HO6.out.below hb7 (Nat.le_refl _)
        have hn7 : n7 = rows7.length := by
          have := (show OutR w7 wr.heap.size (.slice A7 n7 c7) R from ⟨rows7, hr7, hh7, ht7⟩).len
          rw [this, ← ht7, texts, List.length_map]
        have hl7 : rows7.length ≤ 100 := by rw [← show R.length = rows7.length from by rw [← ht7, texts, List.length_map]]; exact HRL.out
        have hl1 : rows.length ≤ 1 := by
          have := congrArg List.length ht1
          rw [texts, List.length_map] at this
          rw [this]; simp
        subst hn7
        have HR1 := Lib.hid hr1
        have HR7 := Lib.hid (Own.rd encR_len hr7)
        have HHH := Lib.hid (And.intro hh1 (hh7.lower HB6.out.size))
        have HTT := Lib.hid (And.intro ht1 ht7)
        have HLN := Lib.hid (And.intro hl7 hl1)
        have HB7 := Lib.hid (HB6.out.trans (hb7.mono HB6.out.size))
        have hen : 1 = rows.length := by
          have := (show OutR w7 w.heap.size (.slice A5 1 c5) _ from ⟨rows, hr1, hh1, rfl⟩).len
          rw [this, texts, List.length_map]
        have HEN := Lib.hid hen
        clear hr1 hr7 hh1 hh7 ht1 ht7 hb7 hl7 hl1 hen HCL q6 c2 hlk
        go_wp2_with (at_builtin; go_must (refine wpList_addR rfl _ _ rfl w.heap.size (.slice A5 1 c5) rows rfl HR1.out w7.heap.size _ rows7 rfl HR7.out (by have := HLN.out; omega) HB7.out.size ?_))
        rintro A9 c9 w9 HO9 HG9
        have hh9 := HoldRs.pushes HR1.out HHH.out.1 HHH.out.2 HG9.out
        have hb9 : Below w.heap.size w w9 := Own.grown HR1.out HB7.out HG9.out (Nat.le_refl _) HB7.out.size
        have hout9 : OutR w9 w.heap.size (.slice A9 (rows.length + rows7.length) c9) ([PB] ++ R) := ⟨_, by have := HO9.out; simpa using this, hh9, by rw [texts_append, HTT.out.1, HTT.out.2]⟩
        obtain ⟨n9, hn9⟩ : ∃ n9, n9 = rows.length + rows7.length := ⟨_, rfl⟩
        (try simp only [List.length_append])
        rw [← hn9] at hout9 ⊢
        have HOUT9 := Lib.hid hout9
        have HBB9 := Lib.hid hb9
        clear HO9 HG9 hh9 hb9 hout9 hn9 HR1 HR7 HHH HB7
        go_wp2_with fail
        go_roundw
        case rel => exact .inr ⟨A9, n9, c9, rfl, rfl, HOUT9, HBB9⟩
        case measure => simp [intOf]
      · clear HI HB6 HO6
        go_wp2_with fail
        go_ret
        exact ⟨_, _, _, rfl, (by rw [← HPE.out]; exact HO.out), HBW.out⟩
  · rw [if_neg hgt]
    have hlk0 : lock = 0 := by omega
    subst hlk0
    obtain ⟨h1, h2, h3, h4⟩ := HLR.out w (Below.refl _ _)
    have HEPO := Lib.hid (hepo1_any nb mb ep _ w c2 h4 HEP.out)
    have HB := Lib.hid (Below.refl w.heap.size w)
    have HOUT := Lib.hid (OutR.nil w w.heap.size)
    clear h1 h2 h3 h4 HP1
    go_enter Tryz.func66, Tryz.ntmps66
    go_wp2_with fail
    clear c1 c2
    refine HEPO.out.mono ?_
    rintro e w6 ⟨A6, c6, rfl, ho6, hb6⟩
    have hB6 := HB.out.trans (hb6.mono HB.out.size)
    have hO6 := HOUT.out.below hb6 (Nat.le_refl _)
    have HI := Lib.hid (OwnI.rdI ho6)
    have HB6 := Lib.hid hB6
    have HO6 := Lib.hid hO6
    clear ho6 hb6 hB6 hO6 HEPO
    go_wp2_with fail
    go_loopw [3, 23] (fun ov iv wr => (iv = .int .i64 0 ∧ ov = .slice none 0 0 ∧ wr = w6) ∨ (∃ (D : Option Addr) (n d : Nat), iv = .int .i64 1 ∧ ov = .slice D n d ∧ Hid (OutR wr w.heap.size (.slice D n d) ([] ++ R)) ∧ Hid (Below w.heap.size w wr))) (fun _ iv _ => 1 - (intOf iv).toNat)
    case atStart => exact .inl ⟨rfl, rfl, rfl⟩
    case round =>
      rcases hrel with ⟨rfl, rfl, rfl⟩ | ⟨D, n, d, rfl, rfl, HO, HBW⟩
      · obtain ⟨_, _, e0, -, hcell⟩ := HI.out.at
        injection e0 with e1 e2 e3
        clear e2
        subst e1 e3
        obtain ⟨b6, o6, rfl, hb6s, q6⟩ := hcell 0 (by simp)
        simp only [List.getElem_cons_zero, Nat.add_zero] at q6
        clear hcell
        obtain ⟨hlr, hlk, hno, -⟩ := HLR.out wr HB6.out
        have c2 := hno.cell 2 _ rfl
        have HCL := Lib.hid hlr
        clear hlr hno
        go_wp2_with fail
        refine HCL.out.mono ?_
        rintro e w7 ⟨A7, n7, c7, rfl, ho7, hb7⟩
        obtain ⟨rows7, hr7, hh7, ht7⟩ := ho7
        obtain ⟨rows, hr1, hh1, ht1⟩ := HO6.out.below hb7 (Nat.le_refl _)
        have hn7 : n7 = rows7.length := by
          have := (show OutR w7 wr.heap.size (.slice A7 n7 c7) R from ⟨rows7, hr7, hh7, ht7⟩).len
          rw [this, ← ht7, texts, List.length_map]
        have hl7 : rows7.length ≤ 100 := by rw [← show R.length = rows7.length from by rw [← ht7, texts, List.length_map]]; exact HRL.out
        have hl1 : rows.length ≤ 1 := by
          have := congrArg List.length ht1
          rw [texts, List.length_map] at this
          rw [this]; simp
        subst hn7
        have HR1 := Lib.hid hr1
        have HR7 := Lib.hid (Own.rd encR_len hr7)
        have HHH := Lib.hid (And.intro hh1 (hh7.lower HB6.out.size))
        have HTT := Lib.hid (And.intro ht1 ht7)
        have HLN := Lib.hid (And.intro hl7 hl1)
        have HB7 := Lib.hid (HB6.out.trans (hb7.mono HB6.out.size))
        have hen : 0 = rows.length := by
          have := (show OutR w7 w.heap.size (.slice none 0 0) _ from ⟨rows, hr1, hh1, rfl⟩).len
          rw [this, texts, List.length_map]
        have HEN := Lib.hid hen
        clear hr1 hr7 hh1 hh7 ht1 ht7 hb7 hl7 hl1 hen HCL q6 c2 hlk
        go_wp2_with (at_builtin; go_must (refine wpList_addR rfl _ _ rfl w.heap.size (.slice none 0 0) rows rfl HR1.out w7.heap.size _ rows7 rfl HR7.out (by have := HLN.out; omega) HB7.out.size ?_))
        rintro A9 c9 w9 HO9 HG9
        have hh9 := HoldRs.pushes HR1.out HHH.out.1 HHH.out.2 HG9.out
        have hb9 : Below w.heap.size w w9 := Own.grown HR1.out HB7.out HG9.out (Nat.le_refl _) HB7.out.size
        have hout9 : OutR w9 w.heap.size (.slice A9 (rows.length + rows7.length) c9) ([] ++ R) := ⟨_, by have := HO9.out; simpa using this, hh9, by rw [texts_append, HTT.out.1, HTT.out.2]⟩
        obtain ⟨n9, hn9⟩ : ∃ n9, n9 = rows.length + rows7.length := ⟨_, rfl⟩
        (try simp only [List.length_append])
        rw [← hn9] at hout9 ⊢
        have HOUT9 := Lib.hid hout9
        have HBB9 := Lib.hid hb9
        clear HO9 HG9 hh9 hb9 hout9 hn9 HR1 HR7 HHH HB7
        go_wp2_with fail
        go_roundw
        case rel => exact .inr ⟨A9, n9, c9, rfl, rfl, HOUT9, HBB9⟩
        case measure => simp [intOf]
      · clear HI HB6 HO6
        go_wp2_with fail
        go_ret
        exact ⟨_, _, _, rfl, HO.out, HBW.out⟩
end Go.Proofs.YtmigninibdecmaaGreat

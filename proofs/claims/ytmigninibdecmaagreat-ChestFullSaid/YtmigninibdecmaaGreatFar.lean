/- Push: one more batch. -/
import Derived.Test.YtmigninibdecmaaGreatFaq
namespace Go.Proofs.YtmigninibdecmaaGreat
open Go.RowKit
attribute [local go_sem] less_eq same_eq le_eq ge_eq gt_eq

theorem knownB_one (k : Int) (b : Bat) : knownB k [b] = if k < b.known then b.known else k := rfl
theorem ChIs.moreW {w w' : World} {base q qb p mb : Nat} {Gb Gf G : Nat → Prop} {h h' : Ch} {b : Bks} {L : List LgV} (k : ChIs w base q qb p mb Gb Gf G h b L) (hb : Below w.heap.size w w') (h1 : h'.logs = h.logs) (h2 : h'.lock = h.lock) (h3 : h'.room = h.room) (h4 : h.units ≤ h'.units) : ∃ G', ChAt w' base q G' h' ∧ (∀ i, G' i → G i ∨ w.heap.size ≤ i) ∧ Mv G w w' :=
  ⟨G, k.more hb h1 h2 h3 h4, fun _ hi => .inl hi, Mv.of_new hb G⟩

set_option maxHeartbeats 16000000 in
set_option maxRecDepth 100000 in
theorem hpush_any (base q : Nat) (G : Nat → Prop) (h : Ch) (e : Int) (b : Bat) (v : Value) (w : World) (he : 1 ≤ e ∧ e < 4611686018427387904) (ht : b.Tiny) (hs : h.Spare 2)
    (hh : ChAt w base q G h) (hv : RdC w w.heap.size v b.chgs) (h1 : ∃ g, h.logs = [g] ∧ g.epoch = e) :
    Calls Tryz.prog 13 #[.pointer (some ⟨q, 0, none⟩), .int .i64 e, bval b v] w fun o w' => ∃ G', o = .returned (.tuple #[.int .i64 (h.push e b).1, .int .i64 (h.push e b).2.1]) ∧ ChAt w' base q G' (h.push e b).2.2 ∧ (∀ i, G' i → G i ∨ w.heap.size ≤ i) ∧ Mv G w w' := by
  obtain ⟨qb, p, mb, Gb, Gf, bk, L, k⟩ := hh
  obtain ⟨g, h1, rfl⟩ := h1
  obtain ⟨x, rfl, rfl⟩ := k.one h1
  obtain ⟨logs, lock, units, room⟩ := h
  simp only at h1
  subst h1
  obtain ⟨A, c, rfl, -, -⟩ := hv.at
  obtain ⟨⟨ep, ba, go, kn, fi, he'⟩, f, F, nf, hd, H, nh⟩ := x
  obtain ⟨pv, ve, kw, cs⟩ := b
  simp only at he k hs hv ht ⊢
  have hxm : (⟨⟨ep, ba, go, kn, fi, he'⟩, f, F, nf, hd, H, nh⟩ : LgV) ∈ [(⟨⟨ep, ba, go, kn, fi, he'⟩, f, F, nf, hd, H, nh⟩ : LgV)] := List.mem_singleton.2 rfl
  obtain ⟨w1, hw1⟩ : ∃ w1, w1 = w.alloc (.cells #[.int .i64 pv, .int .i64 ve, .int .i64 kw, .slice A cs.length c] 38) := ⟨_, rfl⟩
  have hb1 : Below w.heap.size w w1 := by rw [hw1]; exact (Below.refl _ w).alloc (Nat.le_refl _) _
  have hB1 : Whole w1 w.heap.size 38 [.int .i64 pv, .int .i64 ve, .int .i64 kw, .slice A cs.length c] := by rw [hw1]; exact Whole.fresh w _ [_, _, _, _]
  have k1 := k.new hb1
  have hxl := k.log _ hxm
  have hhe : hd.map (·.t) = he' := hxl.he
  have hhl : hd.length ≤ 24 := hxl.hle
  have hpl := fun h => hpshl_any base q qb p mb Gb Gf G _ bk _ _ w1 k1 hxm h
  have hpo := fun h => hpsh_any base q qb p mb Gb Gf G _ bk _ _ w1 k1 hxm h
  rw [LgV.v_eq] at hpo
  simp only at hpl hpo
  rw [zlog_eq] at hpl
  obtain ⟨bb, hbb⟩ : ∃ bb, bb = w.heap.size := ⟨_, rfl⟩
  rw [← hbb] at hB1
  have HPL := Lib.hid hpl
  have HPO := Lib.hid hpo
  have HK := Lib.hid k
  have HV := Lib.hid hv
  have HB1 := Lib.hid (And.intro hb1 hbb)
  have HBB := Lib.hid hB1
  have HT := Lib.hid ht
  have HS := Lib.hid hs
  have HE := Lib.hid he
  have HXL := Lib.hid hxl
  have HHE := Lib.hid (And.intro hhe hhl)
  clear hpl hpo k hv hb1 hB1 ht hs he hxl hhe k1
  obtain ⟨POST, hP⟩ : ∃ POST : Ending → World → Prop, POST = fun o w' => ∃ G', o = .returned (.tuple #[.int .i64 ((⟨[⟨ep, ba, go, kn, fi, he'⟩], lock, units, room⟩ : Ch).push ep ⟨pv, ve, kw, cs⟩).1, .int .i64 ((⟨[⟨ep, ba, go, kn, fi, he'⟩], lock, units, room⟩ : Ch).push ep ⟨pv, ve, kw, cs⟩).2.1]) ∧ ChAt w' base q G' ((⟨[⟨ep, ba, go, kn, fi, he'⟩], lock, units, room⟩ : Ch).push ep ⟨pv, ve, kw, cs⟩).2.2 ∧ (∀ i, G' i → G i ∨ w.heap.size ≤ i) ∧ Mv G w w' := ⟨_, rfl⟩
  rw [← hP]
  have HP := Lib.hid hP
  clear hP
  unfold bval
  by_cases hlt : ep < lock
  · have HPL2 := Lib.hid (HPL.out hlt)
    clear HPL HPO
    have hlt2 := hlt
    have HLT := Lib.hid hlt2
    clear hlt hlt2
    go_enter Tryz.func13, Tryz.ntmps13
    go_wp2_with fail
    rw [← hw1]
    clear hw1
    refine HPL2.out.mono ?_
    rintro o w2 ⟨rfl, hb2⟩
    have HB2 := Lib.hid (HB1.out.1.trans (hb2.mono HB1.out.1.size))
    clear hb2 HPL2
    go_wp2_with fail
    show POST (.returned (.tuple #[.int .i64 0, .int .i64 15])) _
    rw [HP.out, Ch.push_one_locked ⟨ep, ba, go, kn, fi, he'⟩ lock units room ⟨pv, ve, kw, cs⟩ HLT.out]
    obtain ⟨G', h1, h2, h3⟩ := HK.out.moreW (h' := ⟨[⟨ep, ba, go, kn, fi, he'⟩], lock, units + 2, room⟩) (HB2.out.alloc HB2.out.size _) rfl rfl rfl (by show units ≤ units + 2; omega)
    exact ⟨G', rfl, h1, h2, h3⟩
  have HPO2 := Lib.hid (HPO.out hlt)
  have hlt2 := hlt
  have HLT := Lib.hid hlt2
  clear HPL HPO hlt hlt2
  go_enter Tryz.func13, Tryz.ntmps13
  go_wp2_with fail
  rw [← hw1, ← hbb]
  clear hw1 hbb
  refine HPO2.out.mono ?_
  rintro o w2 ⟨rfl, hb2⟩
  obtain ⟨w3, hw3⟩ : ∃ w3, w3 = w2.alloc (.cells #[.int .i64 2, .int .i64 ep, .int .i64 ba, .int .i64 0, .slice F f.length nf, .int .i64 go, .int .i64 kn, .slice H hd.length nh] 73) := ⟨_, rfl⟩
  have hb3 : Below w2.heap.size w2 w3 := by rw [hw3]; exact (Below.refl _ w2).alloc (Nat.le_refl _) _
  have hL3 : Whole w3 w2.heap.size 73 [.int .i64 2, .int .i64 ep, .int .i64 ba, .int .i64 0, .slice F f.length nf, .int .i64 go, .int .i64 kn, .slice H hd.length nh] := by rw [hw3]; exact Whole.fresh w2 _ [.int .i64 2, .int .i64 ep, .int .i64 ba, .int .i64 0, .slice F f.length nf, .int .i64 go, .int .i64 kn, .slice H hd.length nh]
  have hBB3 := (HBB.out.below hb2 HBB.out.size).below hb3 (Nat.lt_of_lt_of_le HBB.out.size hb2.size)
  have hB3 := (HB1.out.1.trans (hb2.mono HB1.out.1.size)).trans (hb3.mono (HB1.out.1.trans (hb2.mono HB1.out.1.size)).size)
  have hck := hcheck_any ⟨pv, ve, kw, cs⟩ HT.out A cs.length c w3 (Rd.next (w := w) HV.out hB3)
  unfold bval at hck
  simp only at hck
  have HCK := Lib.hid hck
  obtain ⟨lb, hlb⟩ : ∃ lb, lb = w2.heap.size := ⟨_, rfl⟩
  rw [← hlb] at hL3
  have HL3 := Lib.hid hL3
  have HBB3 := Lib.hid hBB3
  have HB3 := Lib.hid hB3
  have hlw : w.heap.size ≤ lb := by rw [hlb]; exact Nat.le_trans HB1.out.1.size hb2.size
  have HLB := Lib.hid hlw
  have b2 := HBB.out.below hb2 HBB.out.size
  have y0 := b2.cell 0 _ rfl
  have y1 := b2.cell 1 _ rfl
  have y2 := b2.cell 2 _ rfl
  have y3 := b2.cell 3 _ rfl
  have ybs := b2.size
  clear hb2 hb3 hL3 hBB3 hB3 hck b2 hlw HPO2
  go_wp2_with fail
  rw [← hw3, ← hlb]
  clear hw3 hlb y0 y1 y2 y3 ybs
  refine HCK.out.mono ?_
  rintro o w4 ⟨rfl, hb4⟩
  obtain ⟨wd, hwd⟩ : ∃ wd, wd = w4.drew := ⟨_, rfl⟩
  have hbd : Below w4.heap.size w4 wd := by rw [hwd]; exact (Below.refl _ w4).drew
  have hLd := (HL3.out.below hb4 HL3.out.size).below hbd (Nat.lt_of_lt_of_le HL3.out.size hb4.size)
  have hBBd := (HBB3.out.below hb4 HBB3.out.size).below hbd (Nat.lt_of_lt_of_le HBB3.out.size hb4.size)
  have hBd := HB3.out.trans ((hb4.trans (hbd.mono hb4.size)).mono HB3.out.size)
  have hC : ∀ W, Below wd.heap.size wd W → (W.cell? ⟨bb, 0, none⟩ = some (.int .i64 pv) ∧ W.cell? ⟨bb, 1, none⟩ = some (.int .i64 ve) ∧ W.cell? ⟨bb, 2, none⟩ = some (.int .i64 kw) ∧ W.cell? ⟨bb, 3, none⟩ = some (.slice A cs.length c)) ∧ W.cell? ⟨lb, 0, none⟩ = some (.int .i64 2) ∧ W.cell? ⟨lb, 1, none⟩ = some (.int .i64 ep) ∧ W.cell? ⟨lb, 2, none⟩ = some (.int .i64 ba) ∧ W.cell? ⟨lb, 3, none⟩ = some (.int .i64 0) ∧ W.cell? ⟨lb, 4, none⟩ = some (.slice F f.length nf) ∧ W.cell? ⟨lb, 5, none⟩ = some (.int .i64 go) ∧ W.cell? ⟨lb, 6, none⟩ = some (.int .i64 kn) ∧ W.cell? ⟨lb, 7, none⟩ = some (.slice H hd.length nh) := fun W hW => by
    have g1 := hBBd.below hW hBBd.size
    have g2 := hLd.below hW hLd.size
    exact ⟨⟨g1.cell 0 _ rfl, g1.cell 1 _ rfl, g1.cell 2 _ rfl, g1.cell 3 _ rfl⟩, g2.cell 0 _ rfl, g2.cell 1 _ rfl, g2.cell 2 _ rfl, g2.cell 3 _ rfl, g2.cell 4 _ rfl, g2.cell 5 _ rfl, g2.cell 6 _ rfl, g2.cell 7 _ rfl⟩
  have HCL := Lib.hid hC
  have HLD := Lib.hid hLd
  have HBBD := Lib.hid hBBd
  have HBD := Lib.hid hBd
  have HTOP := Lib.hid (fun W (hW : Below w.heap.size w W) => htop_any 2 ep ba 0 F f.length nf go kn hd H nh (fun _ => False) W (HXL.out.new hW).held.row (by omega))
  obtain ⟨T, hT⟩ : ∃ T, T = topB go (hd.map (·.t)) := ⟨_, rfl⟩
  unfold lgv at HTOP
  rw [← hT] at HTOP
  have HTT := Lib.hid hT
  clear hbd hLd hBBd hBd hC hb4 HCK HL3 HBB3 hT
  go_wp2_with fail
  refine wp_region_planB [(true, 0), (true, 1), (true, 2), (false, 3), (true, 4), (true, 5)] (by kernel_rfl) (by kernel_rfl) (fun _ _ d _ _ h => by cases d <;> exact h) ?_
  rw [← hwd]
  clear hwd
  (refine PlanB.take (v := ?_) rfl rfl ?_ ?_; rotate_left; (focus (intro W hW; obtain ⟨⟨k0, k1, k2, k3⟩, k4, k5, k6, k7, k8, k9, k10, k11⟩ := HCL.out W (hW); go_simp; (try with_reducible rfl); done)); (try simp only [Act.put, List.setIfInBounds_toArray, List.set_cons_zero, List.set_cons_succ]))
  (refine PlanB.take (v := ?_) rfl rfl ?_ ?_; rotate_left; (focus (intro W hW; obtain ⟨⟨k0, k1, k2, k3⟩, k4, k5, k6, k7, k8, k9, k10, k11⟩ := HCL.out W (hW); go_simp; (try with_reducible rfl); done)); (try simp only [Act.put, List.setIfInBounds_toArray, List.set_cons_zero, List.set_cons_succ]))
  (refine PlanB.take (v := ?_) rfl rfl ?_ ?_; rotate_left; (focus (intro W hW; obtain ⟨⟨k0, k1, k2, k3⟩, k4, k5, k6, k7, k8, k9, k10, k11⟩ := HCL.out W (hW); go_simp; (try with_reducible rfl); done)); (try simp only [Act.put, List.setIfInBounds_toArray, List.set_cons_zero, List.set_cons_succ]))
  refine PlanB.step rfl rfl (fun Kk hK => ?_)
  go_simp
  go_at_call 35
  refine (HTOP.out wd HBD.out).mono ?_
  rintro o w5 ⟨rfl, hb5⟩
  refine hK.out _ _ hb5 ?_
  have HB5 := Lib.hid (And.intro hb5 (HBD.out.trans (hb5.mono HBD.out.size)))
  clear hK Kk hb5
  (try simp only [Act.put, List.setIfInBounds_toArray, List.set_cons_zero, List.set_cons_succ])
  by_cases hv1 : ve ≤ T
  · have hd1 : decide (ve ≤ T) = true := decide_eq_true hv1
    (refine PlanB.take (v := ?_) rfl rfl ?_ ?_; rotate_left; (focus (intro W hW; obtain ⟨⟨k0, k1, k2, k3⟩, k4, k5, k6, k7, k8, k9, k10, k11⟩ := HCL.out W (HB5.out.1.trans (hW.mono HB5.out.1.size)); go_simp; (try with_reducible rfl); done)); (try simp only [Act.put, List.setIfInBounds_toArray, List.set_cons_zero, List.set_cons_succ]))
    (refine PlanB.take (v := ?_) rfl rfl ?_ ?_; rotate_left; (focus (intro W hW; obtain ⟨⟨k0, k1, k2, k3⟩, k4, k5, k6, k7, k8, k9, k10, k11⟩ := HCL.out W (HB5.out.1.trans (hW.mono HB5.out.1.size)); go_simp; (try with_reducible rfl); done)); (try simp only [Act.put, List.setIfInBounds_toArray, List.set_cons_zero, List.set_cons_succ]))
    simp only [PlanB]
    have hc5 := HCL.out w5 HB5.out.1
    obtain ⟨-, u0, u1, u2, u3, u4, u5, u6, u7⟩ := hc5
    have HV1 := Lib.hid hv1
    clear hv1 hd1
    go_wp2_with fail
    refine (HTOP.out w5 HB5.out.2).mono ?_
    rintro o w6 ⟨rfl, hb6⟩
    have HB6 := Lib.hid (HB5.out.2.trans (hb6.mono HB5.out.2.size))
    clear hb6 u0 u1 u2 u3 u4 u5 u6 u7
    go_wp2_with fail
    show POST (.returned (.tuple #[.int .i64 T, .int .i64 0])) _
    have htop : (⟨ep, ba, go, kn, fi, he'⟩ : Lg).top = T := by show topB go he' = T; rw [HTT.out, HHE.out.1]
    rw [HP.out, Ch.push_one_elder ⟨ep, ba, go, kn, fi, he'⟩ lock units room ⟨pv, ve, kw, cs⟩ (Int.not_lt.2 HLT.out) (by rw [htop]; exact HV1.out), htop]
    obtain ⟨G', h1, h2, h3⟩ := HK.out.moreW (h' := ⟨[⟨ep, ba, go, kn, fi, he'⟩], lock, units + 2, room⟩) HB6.out rfl rfl rfl (by show units ≤ units + 2; omega)
    exact ⟨G', rfl, h1, h2, h3⟩
  have hd1 : decide (ve ≤ T) = false := decide_eq_false hv1
  (refine PlanB.take (v := ?_) rfl rfl ?_ ?_; rotate_left; (focus (intro W hW; obtain ⟨⟨k0, k1, k2, k3⟩, k4, k5, k6, k7, k8, k9, k10, k11⟩ := HCL.out W (HB5.out.1.trans (hW.mono HB5.out.1.size)); go_simp; (try with_reducible rfl); done)); (try simp only [Act.put, List.setIfInBounds_toArray, List.set_cons_zero, List.set_cons_succ]))
  (refine PlanB.take (v := ?_) rfl rfl ?_ ?_; rotate_left; (focus (intro W hW; obtain ⟨⟨k0, k1, k2, k3⟩, k4, k5, k6, k7, k8, k9, k10, k11⟩ := HCL.out W (HB5.out.1.trans (hW.mono HB5.out.1.size)); go_simp; (try with_reducible rfl); done)); (try simp only [Act.put, List.setIfInBounds_toArray, List.set_cons_zero, List.set_cons_succ]))
  simp only [PlanB]
  have HV1 := Lib.hid hv1
  clear hd1
  go_wp2_with fail
  clear hv1
  obtain ⟨wx, hwx⟩ : ∃ wx, wx = w5.drew := ⟨_, rfl⟩
  have hbx : Below w5.heap.size w5 wx := by rw [hwx]; exact (Below.refl _ w5).drew
  have HBX := Lib.hid (And.intro (HB5.out.1.trans (hbx.mono HB5.out.1.size)) (HB5.out.2.trans (hbx.mono HB5.out.2.size)))
  clear hbx
  refine wp_region_planB [(true, 0), (true, 1), (true, 2), (false, 3), (true, 4), (true, 5)] (by kernel_rfl) (by kernel_rfl) (fun _ _ d _ _ h => by cases d <;> exact h) ?_
  rw [← hwx]
  clear hwx
  (refine PlanB.take (v := ?_) rfl rfl ?_ ?_; rotate_left; (focus (intro W hW; obtain ⟨⟨k0, k1, k2, k3⟩, k4, k5, k6, k7, k8, k9, k10, k11⟩ := HCL.out W (HBX.out.1.trans (hW.mono HBX.out.1.size)); go_simp; (try with_reducible rfl); done)); (try simp only [Act.put, List.setIfInBounds_toArray, List.set_cons_zero, List.set_cons_succ]))
  (refine PlanB.take (v := ?_) rfl rfl ?_ ?_; rotate_left; (focus (intro W hW; obtain ⟨⟨k0, k1, k2, k3⟩, k4, k5, k6, k7, k8, k9, k10, k11⟩ := HCL.out W (HBX.out.1.trans (hW.mono HBX.out.1.size)); go_simp; (try with_reducible rfl); done)); (try simp only [Act.put, List.setIfInBounds_toArray, List.set_cons_zero, List.set_cons_succ]))
  (refine PlanB.take (v := ?_) rfl rfl ?_ ?_; rotate_left; (focus (intro W hW; obtain ⟨⟨k0, k1, k2, k3⟩, k4, k5, k6, k7, k8, k9, k10, k11⟩ := HCL.out W (HBX.out.1.trans (hW.mono HBX.out.1.size)); go_simp; (try with_reducible rfl); done)); (try simp only [Act.put, List.setIfInBounds_toArray, List.set_cons_zero, List.set_cons_succ]))
  refine PlanB.step rfl rfl (fun Kk hK => ?_)
  go_simp
  go_at_call 35
  refine (HTOP.out wx HBX.out.2).mono ?_
  rintro o w6 ⟨rfl, hb6⟩
  refine hK.out _ _ hb6 ?_
  have HB6 := Lib.hid (And.intro (HBX.out.1.trans (hb6.mono HBX.out.1.size)) (HBX.out.2.trans (hb6.mono HBX.out.2.size)))
  clear hK Kk hb6 HB5 HBX
  (try simp only [Act.put, List.setIfInBounds_toArray, List.set_cons_zero, List.set_cons_succ])
  by_cases hpt : pv = T
  case neg =>
    have hpn : (pv == T) = false := by simpa using hpt
    have hpm : (pv != T) = true := by simpa using hpt
    have HPT := Lib.hid hpt
    (refine PlanB.take (v := ?_) rfl rfl ?_ ?_; rotate_left; (focus (intro W hW; obtain ⟨⟨k0, k1, k2, k3⟩, k4, k5, k6, k7, k8, k9, k10, k11⟩ := HCL.out W (HB6.out.1.trans (hW.mono HB6.out.1.size)); go_simp; (try with_reducible rfl); done)); (try simp only [Act.put, List.setIfInBounds_toArray, List.set_cons_zero, List.set_cons_succ]))
    (refine PlanB.take (v := ?_) rfl rfl ?_ ?_; rotate_left; (focus (intro W hW; obtain ⟨⟨k0, k1, k2, k3⟩, k4, k5, k6, k7, k8, k9, k10, k11⟩ := HCL.out W (HB6.out.1.trans (hW.mono HB6.out.1.size)); go_simp; (try with_reducible rfl); done)); (try simp only [Act.put, List.setIfInBounds_toArray, List.set_cons_zero, List.set_cons_succ]))
    simp only [PlanB]
    go_wp2_with fail
    show POST (.returned (.tuple #[.int .i64 0, .int .i64 9])) _
    have htop : (⟨ep, ba, go, kn, fi, he'⟩ : Lg).top = T := by show topB go he' = T; rw [HTT.out, HHE.out.1]
    rw [HP.out]
    have hpe : (⟨[⟨ep, ba, go, kn, fi, he'⟩], lock, units, room⟩ : Ch).push ep ⟨pv, ve, kw, cs⟩ = (0, 9, ⟨[⟨ep, ba, go, kn, fi, he'⟩], lock, units + 2, room⟩) := by
      unfold Ch.push
      rw [Ch.find_one, if_pos rfl]
      simp only
      rw [htop, if_neg (Int.not_lt.2 HLT.out), if_neg (show ¬ ve ≤ T by have := HV1.out; omega), if_pos HPT.out]
      rfl
    rw [hpe]
    obtain ⟨G', h1, h2, h3⟩ := HK.out.moreW (h' := ⟨[⟨ep, ba, go, kn, fi, he'⟩], lock, units + 2, room⟩) HB6.out.2 rfl rfl rfl (by show units ≤ units + 2; omega)
    exact ⟨G', rfl, h1, h2, h3⟩
  case pos =>
    subst hpt
    (refine PlanB.take (v := ?_) rfl rfl ?_ ?_; rotate_left; (focus (intro W hW; obtain ⟨⟨k0, k1, k2, k3⟩, k4, k5, k6, k7, k8, k9, k10, k11⟩ := HCL.out W (HB6.out.1.trans (hW.mono HB6.out.1.size)); go_simp; (try with_reducible rfl); done)); (try simp only [Act.put, List.setIfInBounds_toArray, List.set_cons_zero, List.set_cons_succ]))
    (refine PlanB.take (v := ?_) rfl rfl ?_ ?_; rotate_left; (focus (intro W hW; obtain ⟨⟨k0, k1, k2, k3⟩, k4, k5, k6, k7, k8, k9, k10, k11⟩ := HCL.out W (HB6.out.1.trans (hW.mono HB6.out.1.size)); go_simp; (try with_reducible rfl); done)); (try simp only [Act.put, List.setIfInBounds_toArray, List.set_cons_zero, List.set_cons_succ]))
    simp only [PlanB]
    obtain ⟨⟨y0, y1, y2, y3⟩, u0, u1, u2, u3, u4, u5, u6, u7⟩ := HCL.out w6 HB6.out.1
    by_cases h24 : 24 ≤ hd.length
    · have h24i : (24 : Int) ≤ (hd.length : Int) := by omega
      go_wp2_with fail
      show POST (.returned (.tuple #[.int .i64 0, .int .i64 10])) _
      have htop : (⟨ep, ba, go, kn, fi, he'⟩ : Lg).top = pv := by show topB go he' = pv; rw [HTT.out, HHE.out.1]
      rw [HP.out, Ch.push_one_full ⟨ep, ba, go, kn, fi, he'⟩ lock units room ⟨pv, ve, kw, cs⟩ (Int.not_lt.2 HLT.out) (by rw [htop]; have := HV1.out; show pv < ve; omega) htop.symm (by show 24 ≤ he'.length; rw [← HHE.out.1, List.length_map]; exact h24)]
      obtain ⟨G', h1, h2, h3⟩ := HK.out.moreW (h' := ⟨[⟨ep, ba, go, kn, fi, he'⟩], lock, units + 2, room⟩) HB6.out.2 rfl rfl rfl (by show units ≤ units + 2; omega)
      exact ⟨G', rfl, h1, h2, h3⟩
    have h24i : ¬ (24 : Int) ≤ (hd.length : Int) := by omega
    have H24 := Lib.hid h24
    obtain ⟨w7, hw7⟩ : ∃ w7, w7 = w6.alloc (.cells #[.int .i64 pv, .int .i64 ve, .int .i64 kw, .slice A cs.length c] 38) := ⟨_, rfl⟩
    have hb7 : Below w6.heap.size w6 w7 := by rw [hw7]; exact (Below.refl _ w6).alloc (Nat.le_refl _) _
    have hp6 : RdG encC 3 w6 w6.heap.size (fun _ => False) (.slice A cs.length c) cs := RdG.of (Rd.next (w := w) HV.out HB6.out.2) (fun _ _ k => k)
    have hone := RdBts.one (y := ⟨⟨pv, ve, kw, cs⟩, A, c⟩) hp6 38
    have hone7 : RdBts w7 w7.heap.size (fun _ => False) (.slice (some ⟨w6.heap.size, 0, none⟩) 1 1) [⟨⟨pv, ve, kw, cs⟩, A, c⟩] := by rw [hw7]; exact hone
    have HFR := Lib.hid (hfresh_any [⟨⟨pv, ve, kw, cs⟩, A, c⟩] (.slice (some ⟨w6.heap.size, 0, none⟩) 1 1) w7 hone7 (by simp) (fun x hx => by rw [List.mem_singleton.1 hx]; exact HT.out.sound.2.1))
    have HB7 := Lib.hid (And.intro (HB6.out.1.trans (hb7.mono HB6.out.1.size)) (HB6.out.2.trans (hb7.mono HB6.out.2.size)))
    clear hb7 hp6 hone hone7
    have hd1 := h24
    clear hd1
    go_wp2_with fail
    rw [← hw7]
    clear hw7 y0 y1 y2 y3 u0 u1 u2 u3 u4 u5 u6 u7 h24 h24i
    refine HFR.out.mono ?_
    rintro o w8 ⟨v8, l', rfl, hl', hrow, hb8⟩
    obtain ⟨A8, c8, rfl⟩ := hrow.form
    have hll : l'.length = 1 := by have := congrArg List.length hl'; simpa using this
    rw [hll] at hrow ⊢
    obtain ⟨w9, hw9⟩ : ∃ w9, w9 = w8.alloc (.cells #[.int .i64 3, .int .i64 ep, .int .i64 0, .int .i64 0, .slice A8 1 c8] 65) := ⟨_, rfl⟩
    have hb9 : Below w8.heap.size w8 w9 := by rw [hw9]; exact (Below.refl _ w8).alloc (Nat.le_refl _) _
    have hR9 : Whole w9 w8.heap.size 65 [.int .i64 3, .int .i64 ep, .int .i64 0, .int .i64 0, .slice A8 1 c8] := by rw [hw9]; exact Whole.fresh w8 _ [_, _, _, _, _]
    have hB8 := HB7.out.2.trans (hb8.mono HB7.out.2.size)
    have hB9 := hB8.trans (hb9.mono hB8.size)
    have h19 : Below wd.heap.size wd w9 := (HB7.out.1.trans (hb8.mono HB7.out.1.size)).trans (hb9.mono (HB7.out.1.trans (hb8.mono HB7.out.1.size)).size)
    have hx9 := HXL.out.new hB9
    have hown := HK.out.own _ hxm
    have holo : ∀ g, Value.ownBlock (.slice H hd.length nh) = some g → g < w.heap.size := fun g hg => (Own.low HXL.out.own hg).2
    have hrd8 : RdBts w8 w8.heap.size (fun i => i < w7.heap.size) (.slice A8 1 c8) l' := by have := hrow.bts; exact this
    have hrd9 := hrd8.next hb9 (fun _ _ k => k)
    have hw7s : w.heap.size ≤ w7.heap.size := HB7.out.2.size
    have htopc : chainB (topB go (hd.map (·.t))) (l'.map (·.t)) := by
      rw [hl', ← HTT.out]
      exact ⟨rfl, by have := HV1.out; show pv < ve; omega, trivial⟩
    have hwi := hwith_any 2 ep ba 0 F f.length nf go kn hd H nh l' (.slice A8 1 c8) base w9 hx9.own (Nat.le_trans HK.out.low.1 hB9.size) (hrd9.mono (Nat.le_refl _) (fun i _ hi => by have := holo i hi; omega)) htopc (by rw [hll]; have := H24.out; omega)
    unfold lgv at hwi
    have HWI := Lib.hid hwi
    obtain ⟨rb, hrb⟩ : ∃ rb, rb = w8.heap.size := ⟨_, rfl⟩
    rw [← hrb] at hR9
    have HR9 := Lib.hid hR9
    have HLL := Lib.hid (And.intro hl' hll)
    have HRD8 := Lib.hid (And.intro hrd8 hb9)
    have HRD9 := Lib.hid hrd9
    have HB9 := Lib.hid (And.intro hB9 h19)
    have HSZ := Lib.hid (And.intro hb8.size (And.intro hb9.size (And.intro hrb hw7s)))
    have HOL := Lib.hid (And.intro hown holo)
    have hc8 := HCL.out w8 (HB7.out.1.trans (hb8.mono HB7.out.1.size))
    obtain ⟨-, u0, u1, u2, u3, u4, u5, u6, u7⟩ := hc8
    have hls8 : lb < w8.heap.size := Nat.lt_of_lt_of_le HLD.out.size (HB7.out.1.trans (hb8.mono HB7.out.1.size)).size
    clear hl' hrow hb8 hb9 hR9 hB8 hB9 h19 hx9 hown holo hrd8 hrd9 htopc hwi hll hw7s HFR
    go_wp2_with fail
    rw [← hw9, ← hrb]
    clear hw9 hrb u0 u1 u2 u3 u4 u5 u6 u7 hls8
    refine HWI.out.mono ?_
    rintro o w10 ⟨A9, n9, c9, rfl, hn9, ho10, hm10, hnr⟩
    have hkk : knownB kn (l'.map (·.t)) = if kn < kw then kw else kn := by rw [HLL.out.1]; rfl
    rw [hkk]
    obtain ⟨kk, hke⟩ : ∃ kk, kk = if kn < kw then kw else kn := ⟨_, rfl⟩
    rw [← hke]
    have hlb9 : Whole w9 lb 73 [.int .i64 2, .int .i64 ep, .int .i64 ba, .int .i64 0, .slice F f.length nf, .int .i64 go, .int .i64 kn, .slice H hd.length nh] := HLD.out.below HB9.out.2 HLD.out.size
    have hnlb : ¬ Value.ownBlock (.slice H hd.length nh) = some lb := fun e => by have := HOL.out.2 lb e; have := HLB.out; omega
    have hnrb : ¬ Value.ownBlock (.slice H hd.length nh) = some rb := fun e => by have := HOL.out.2 rb e; have := HSZ.out; omega
    have hlb10 := hm10.whole hlb9 hnlb
    have hR10 := hm10.whole HR9.out hnrb
    obtain ⟨w11, hw11⟩ : ∃ w11, w11 = ((((((((w10.setCell ⟨lb, 0, none⟩ (.int .i64 2)).setCell ⟨lb, 1, none⟩ (.int .i64 ep)).setCell ⟨lb, 2, none⟩ (.int .i64 ba)).setCell ⟨lb, 3, none⟩ (.int .i64 0)).setCell ⟨lb, 4, none⟩ (.slice F f.length nf)).setCell ⟨lb, 5, none⟩ (.int .i64 go)).setCell ⟨lb, 6, none⟩ (.int .i64 kk)).setCell ⟨lb, 7, none⟩ (.slice A9 n9 c9)) := ⟨_, rfl⟩
    have hmlb : Mv (fun i => i = lb) w10 w11 := by rw [hw11]; exact ((((((((Mv.refl (fun i => i = lb) w10).one 0 (.int .i64 2)).one 1 (.int .i64 ep)).one 2 (.int .i64 ba)).one 3 (.int .i64 0)).one 4 (.slice F f.length nf)).one 5 (.int .i64 go)).one 6 (.int .i64 kk)).one 7 (.slice A9 n9 c9)
    have hlb11 : Whole w11 lb 73 [.int .i64 2, .int .i64 ep, .int .i64 ba, .int .i64 0, .slice F f.length nf, .int .i64 go, .int .i64 kk, .slice A9 n9 c9] := by
      have := ((((((((hlb10.put 0 (.int .i64 2)).put 1 (.int .i64 ep)).put 2 (.int .i64 ba)).put 3 (.int .i64 0)).put 4 (.slice F f.length nf)).put 5 (.int .i64 go)).put 6 (.int .i64 kk)).put 7 (.slice A9 n9 c9))
      simp only [List.set] at this
      rw [hw11]; exact this
    have hrl : rb ≠ lb := fun e => by have h1 := HLD.out.size; have h2 := HB7.out.1.size; have h3 := HSZ.out; omega
    have hR11 := hmlb.whole hR10 hrl
    have hmD : Mv (fun i => Value.ownBlock (.slice H hd.length nh) = some i) w w11 := ((Mv.of_new HB9.out.1 _).trans hm10 (fun _ _ k => k)).trans hmlb (fun i hi e => by have := HLB.out; omega)
    have hKb := HK.out.bk.mv hmD (fun i hi hd => (HOL.out.1 i hd).1 hi)
    have hKq := hmD.whole HK.out.at_ (fun hd => (HOL.out.1 q hd).2.1 rfl)
    have hKm := HK.out.map.mv hmD (fun hd => (HOL.out.1 mb hd).2.2.1 rfl)
    have hOK : (⟨3, ep, 0, 0, [⟨pv, ve, kw, cs⟩]⟩ : Rc).Ok := Rc.mkOk in3 ⟨by have := HE.out.1; omega, HE.out.2⟩ in0 in0 (fun y hy => by rw [List.mem_singleton.1 hy]; exact HT.out) (by simp)
    have hbka := HK.out.room.add (h' := ⟨[⟨ep, ba, go, kk, fi, he' ++ [⟨pv, ve, kw, cs⟩]⟩], lock, units + 2, room⟩) _ hOK 2 (by simp) HS.out rfl rfl
    have hbkl : bk.l.length ≤ 4000000 := by
      have h1 := HK.out.room.num
      have h2 := HK.out.room.big
      have h3 := HS.out
      unfold Ch.Spare at h3
      omega
    have hrd11 : RdBts w11 w11.heap.size (fun i => Value.ownBlock (.slice H hd.length nh) = some i ∨ i = lb) (.slice A8 1 c8) l' := by
      have h1 : RdBts w9 w9.heap.size (fun i => Value.ownBlock (.slice H hd.length nh) = some i ∨ i = lb) (.slice A8 1 c8) l' := HRD9.out.mono (Nat.le_refl _) (fun i _ hi => by
        have hw := HSZ.out.2.2.2
        rcases hi with hi | hi
        · have := HOL.out.2 i hi; omega
        · have h1 := HLD.out.size; have h2 := HB7.out.1.size; omega)
      exact ((h1.mv hm10 (Nat.le_refl _) (fun _ _ k => .inl k)).mv hmlb hm10.size (fun _ _ k => .inr k)).mono (Nat.le_trans hm10.size hmlb.size) (fun _ _ k => k)
    have hAD := hadd_any base q qb p mb Gb bk lock [LgV.pr (⟨⟨ep, ba, go, kn, fi, he'⟩, f, F, nf, hd, H, nh⟩ : LgV)] ⟨3, ep, 0, 0, [⟨pv, ve, kw, cs⟩]⟩ l' A8 c8 _ 2 ep ba 0 F f.length nf go kk A9 n9 c9 w11 hKb hKq hKm ⟨HK.out.nq.1, HK.out.nm.1⟩ hOK HLL.out.1 (by rw [HLL.out.2]; exact hrd11) hbka.1 hbkl
    rw [HLL.out.2] at hAD
    unfold rcv lgv at hAD
    simp only at hAD
    have HAD := Lib.hid hAD
    have HBK := Lib.hid hbka.2
    have HMD := Lib.hid hmD
    have HLB11 := Lib.hid hlb11
    have HO10 := Lib.hid (And.intro ho10 (And.intro hnr hn9))
    have HM10 := Lib.hid (And.intro hm10 hmlb)
    have HKE := Lib.hid hke
    have hlbs := hlb10.size
    have z0 := hlb10.cell 0 _ rfl
    have z1 := hlb10.cell 1 _ rfl
    have z2 := hlb10.cell 2 _ rfl
    have z3 := hlb10.cell 3 _ rfl
    have z4 := hlb10.cell 4 _ rfl
    have z5 := hlb10.cell 5 _ rfl
    have z6 := hlb10.cell 6 _ rfl
    have z7 := hlb10.cell 7 _ rfl
    have f0 := hlb10.frozen 0
    have f1 := hlb10.frozen 1
    have f2 := hlb10.frozen 2
    have f3 := hlb10.frozen 3
    have f4 := hlb10.frozen 4
    have f5 := hlb10.frozen 5
    have f6 := hlb10.frozen 6
    have f7 := hlb10.frozen 7
    have r0 := hR10.cell 0 _ rfl
    have r1 := hR10.cell 1 _ rfl
    have r2 := hR10.cell 2 _ rfl
    have r3 := hR10.cell 3 _ rfl
    have r4 := hR10.cell 4 _ rfl
    have hlr : lb ≠ rb := fun e => hrl e.symm
    clear ho10 hm10 hnr hn9 hkk hke hlb9 hnlb hnrb hlb10 hR10 hmlb hlb11 hR11 hmD hKb hKq hKm hOK hbka hbkl hrd11 hAD HWI
    go_wp2_with fail
    rw [← hw11]
    clear hw11 z0 z1 z2 z3 z4 z5 z6 z7 f0 f1 f2 f3 f4 f5 f6 f7 r0 r1 r2 r3 r4
    refine HAD.out.mono ?_
    rintro o w12 ⟨rfl, hq12, ⟨Gb', hk12, hg12, hn12⟩, hm12, hmv12⟩
    have hlb12 := hmv12.whole HLB11.out (fun hd => by
      have h1 := HLB.out
      rcases hd with hd | hd | hd
      · have := (HK.out.low.2 _ (HK.out.gb _ hd).1).2; omega
      · have := HK.out.at_.size; omega
      · have := HK.out.map.size; omega)
    have kw' := HK.out
    have s := HSZ.out
    have sB9 := HB9.out.1.size
    have hGl := kw'.low.2
    have hgf : ∀ i, Gf i → i < w.heap.size := fun i hi => (hGl i (kw'.gf i hi)).2
    have hgb : ∀ i, Gb i → i < w.heap.size := fun i hi => (hGl i (kw'.gb i hi).1).2
    have hqs : q < w.heap.size := kw'.at_.size
    have hms : mb < w.heap.size := kw'.map.size
    have s10 := HM10.out.1.size
    have s11 := HM10.out.2.size
    have hol9 : ∀ g, Value.ownBlock (.slice A9 n9 c9) = some g → Value.ownBlock (.slice H hd.length nh) = some g ∨ w9.heap.size ≤ g := HO10.out.2.1
    have hGfo : ∀ i, (Gf i ∨ (w7.heap.size ≤ i ∧ i < w8.heap.size)) → ¬ Value.ownBlock (.slice H hd.length nh) = some i := fun i hi hd => by
      rcases hi with hi | hi
      · exact HXL.out.no i hd hi
      · have := HOL.out.2 i hd; omega
    have hGfl : ∀ i, (Gf i ∨ (w7.heap.size ≤ i ∧ i < w8.heap.size)) → ¬ i = lb := fun i hi e => by
      have h1 := HLB.out
      have h2 := HLD.out.size
      have h3 := HB7.out.1.size
      rcases hi with hi | hi
      · have := hgf i hi; omega
      · omega
    have hdis : ∀ i, (Gf i ∨ (w7.heap.size ≤ i ∧ i < w8.heap.size)) → ¬ (Gb i ∨ i = q ∨ i = mb) := fun i hi hd => by
      rcases hi with hi | hi
      · rcases hd with hd | hd | hd
        · exact (kw'.gb i hd).2 hi
        · exact kw'.nq.2.1 (hd ▸ hi)
        · exact kw'.nm.2.1 (hd ▸ hi)
      · rcases hd with hd | hd | hd
        · have := hgb i hd; omega
        · omega
        · omega
    have hownd : ∀ g, Value.ownBlock (.slice A9 n9 c9) = some g → ¬ (Gb g ∨ g = q ∨ g = mb) := fun g hg hd => by
      rcases hol9 g hg with hx | hx
      · have h1 := HOL.out.1 g hx
        rcases hd with hd | hd | hd
        · exact h1.1 hd
        · exact h1.2.1 hd
        · exact h1.2.2.1 hd
      · rcases hd with hd | hd | hd
        · have := hgb g hd; omega
        · omega
        · omega
    have hownl : ∀ g, Value.ownBlock (.slice A9 n9 c9) = some g → ¬ g = lb := fun g hg e => by
      have h1 := HLB.out
      have h2 := HLD.out.size
      have h3 := HB7.out.1.size
      rcases hol9 g hg with hx | hx
      · have := HOL.out.2 g hx; omega
      · omega
    have hn9l : n9 = (hd ++ l').length := HO10.out.2.2
    -- the log behind it
    have hnew : LgIs w12 base (fun i => Gf i ∨ (w7.heap.size ≤ i ∧ i < w8.heap.size)) ⟨⟨ep, ba, go, kk, fi, he' ++ [⟨pv, ve, kw, cs⟩]⟩, f, F, nf, hd ++ l', A9, c9⟩ := by
      have hx := HXL.out
      have hfi : RdBts w12 w12.heap.size (fun i => ¬ (Gf i ∨ (w7.heap.size ≤ i ∧ i < w8.heap.size))) (.slice F f.length nf) f := by
        have h1 : RdBts w w.heap.size (fun i => ¬ (Gf i ∨ (w7.heap.size ≤ i ∧ i < w8.heap.size))) (.slice F f.length nf) f := hx.first.mono (Nat.le_refl _) (fun i _ hi hf => hi (.inl hf))
        exact ((h1.mv HMD.out (Nat.le_refl _) (fun i _ hd hf => hGfo i hf hd)).mv hmv12 HMD.out.size (fun i _ hd hf => hdis i hf hd)).mono (Nat.le_trans HMD.out.size hmv12.size) (fun _ _ k => k)
      have hmo : ∀ i, i < w8.heap.size → (¬ (Gf i ∨ (w7.heap.size ≤ i ∧ i < w8.heap.size))) → i < w7.heap.size := fun i h1 h2 => by
        rcases Nat.lt_or_ge i w7.heap.size with h | h
        · exact h
        · exact absurd (.inr ⟨h, h1⟩) h2
      have hl8 : RdBts w8 w8.heap.size (fun i => ¬ (Gf i ∨ (w7.heap.size ≤ i ∧ i < w8.heap.size))) (.slice A8 1 c8) l' := HRD8.out.1.mono (Nat.le_refl _) hmo
      have hl12 := ((((hl8.next HRD8.out.2 (fun _ _ k => k)).mv HM10.out.1 (Nat.le_refl _) (fun i _ hd hf => hGfo i hf hd)).mv HM10.out.2 s10 (fun i _ hd hf => hGfl i hf hd)).mv hmv12 (Nat.le_trans s10 s11) (fun i _ hd hf => hdis i hf hd)).mono (Nat.le_trans (Nat.le_trans s10 s11) hmv12.size) (fun _ _ k => k)
      refine ⟨hx.fe, ?_, hfi, ?_, ?_, ?_, ?_⟩
      · rw [List.map_append, HHE.out.1, HLL.out.1]; rfl
      · have h1 : OwnBt w12 base (.slice A9 n9 c9) (hd ++ l') := (HO10.out.1.mv HM10.out.2 hownl).mv hmv12 hownd
        rw [hn9l] at h1
        exact h1
      · intro g hg hf
        have hg' : Value.ownBlock (.slice A9 n9 c9) = some g := by rw [hn9l]; exact hg
        rcases hol9 g hg' with hy | hy
        · exact hGfo g hf hy
        · rcases hf with hf | hf
          · have := hgf g hf; omega
          · omega
      · intro y hy
        rcases List.mem_append.1 hy with hy | hy
        · have h1 : RdG encC 3 w w.heap.size (fun i => ¬ (Gf i ∨ (w7.heap.size ≤ i ∧ i < w8.heap.size))) y.v y.t.chgs := (hx.parts y hy).mono (Nat.le_refl _) (fun i _ hi hf => hi (.inl hf))
          exact ((h1.mv HMD.out (Nat.le_refl _) (fun i _ hd hf => hGfo i hf hd)).mv hmv12 HMD.out.size (fun i _ hd hf => hdis i hf hd)).mono (Nat.le_trans HMD.out.size hmv12.size) (fun _ _ k => k)
        · exact hl12.parts y hy
      · have ho := hx.ok
        have hke := HKE.out
        have hkn := ho.kn
        simp only at hkn
        have htf := HT.out.fits
        have hts := HT.out.sound.1
        simp only at htf hts
        refine ⟨ho.ep, ho.ba, ho.go, ?_, ho.fi, fun y hy => ?_, ho.fl, ?_, ?_, fun y hy => ?_⟩
        · show 0 ≤ kk ∧ kk < 4611686018427387904
          rw [hke]; split <;> omega
        · rcases List.mem_append.1 hy with hy | hy
          · exact ho.he y hy
          · rw [List.mem_singleton.1 hy]; exact HT.out
        · show (he' ++ [_]).length ≤ 24
          rw [List.length_append, ← HHE.out.1, List.length_map]
          have := H24.out
          simp only [List.length_singleton]
          omega
        · have htp : topB go he' = pv := by rw [← HHE.out.1, ← HTT.out]
          exact chainB_add ho.ch htp.symm (by show topB go he' < ve; rw [htp]; have := HV1.out; omega)
        · show y.known ≤ kk
          rcases List.mem_append.1 hy with hy | hy
          · have := ho.kb y hy
            simp only at this
            rw [hke]; split <;> omega
          · rw [List.mem_singleton.1 hy]
            show kw ≤ kk
            rw [hke]; split <;> omega
    have hfin : ∀ W, Below w12.heap.size w12 W → POST (.returned (.tuple #[.int .i64 ve, .int .i64 0])) W := fun W hW => by
      have htop : (⟨ep, ba, go, kn, fi, he'⟩ : Lg).top = pv := by show topB go he' = pv; rw [HTT.out, HHE.out.1]
      rw [HP.out, Ch.push_one ⟨ep, ba, go, kn, fi, he'⟩ lock units room ⟨pv, ve, kw, cs⟩ (Int.not_lt.2 HLT.out) (by rw [htop]; have := HV1.out; show pv < ve; omega) htop.symm (by show he'.length < 24; rw [← HHE.out.1, List.length_map]; have := H24.out; omega)]
      have hadd : (⟨ep, ba, go, kn, fi, he'⟩ : Lg).add ⟨pv, ve, kw, cs⟩ = ⟨ep, ba, go, kk, fi, he' ++ [⟨pv, ve, kw, cs⟩]⟩ := by unfold Lg.add; rw [HKE.out]
      rw [hadd]
      have hoff : offI ep [LgV.pr (⟨⟨ep, ba, go, kn, fi, he'⟩, f, F, nf, hd, H, nh⟩ : LgV)] = [] := by
        unfold offI LgV.pr
        simp
      rw [hoff] at hm12
      have hsz12 : w11.heap.size ≤ w12.heap.size := hmv12.size
      have hown12 : ∀ g, Value.ownBlock (LgV.hv ⟨⟨ep, ba, go, kk, fi, he' ++ [⟨pv, ve, kw, cs⟩]⟩, f, F, nf, hd ++ l', A9, c9⟩) = some g → Value.ownBlock (.slice A9 n9 c9) = some g := fun g hg => by rw [hn9l]; exact hg
      have hwB : ∀ g, Value.ownBlock (.slice A9 n9 c9) = some g → g < w10.heap.size := fun g hg => (Own.low HO10.out.1 hg).2
      have hgb9 : ∀ i, Gb' i → (G i ∨ (w.heap.size ≤ i ∧ i < w12.heap.size)) ∧ ¬ (Gf i ∨ (w7.heap.size ≤ i ∧ i < w8.heap.size)) := fun i hi => by
        have hl9 := (hk12.low.2 i hi).2
        rcases hg12 i hi with hx | hx
        · exact ⟨.inl (kw'.gb i hx).1, fun hf => hdis i hf (.inl hx)⟩
        · refine ⟨.inr ⟨by omega, hl9⟩, fun hf => ?_⟩
          rcases hf with hf | hf
          · have := hgf i hf; omega
          · omega
      have hm12' : MapI w12 mb ([(⟨⟨ep, ba, go, kk, fi, he' ++ [⟨pv, ve, kw, cs⟩]⟩, f, F, nf, hd ++ l', A9, c9⟩ : LgV)].map LgV.pr) := by
        have e1 : [(⟨⟨ep, ba, go, kk, fi, he' ++ [⟨pv, ve, kw, cs⟩]⟩, f, F, nf, hd ++ l', A9, c9⟩ : LgV)].map LgV.pr = [(ep, .agg #[.int .i64 2, .int .i64 ep, .int .i64 ba, .int .i64 0, .slice F f.length nf, .int .i64 go, .int .i64 kk, .slice A9 n9 c9])] := by
          rw [hn9l]; rfl
        rw [e1]
        exact hm12
      have hC : ChIs w12 base q qb p mb Gb' (fun i => Gf i ∨ (w7.heap.size ≤ i ∧ i < w8.heap.size)) (fun i => G i ∨ (w.heap.size ≤ i ∧ i < w12.heap.size)) ⟨[⟨ep, ba, go, kk, fi, he' ++ [⟨pv, ve, kw, cs⟩]⟩], lock, units + 2, room⟩ (bk.add [(⟨3, ep, 0, 0, [⟨pv, ve, kw, cs⟩]⟩ : Rc).B]).2 [⟨⟨ep, ba, go, kk, fi, he' ++ [⟨pv, ve, kw, cs⟩]⟩, f, F, nf, hd ++ l', A9, c9⟩] := by
        refine ⟨hq12, hk12, hm12', rfl, fun x hx => ?_, fun x hx g hg => ?_, HBK.out, kw'.lk, ⟨hn12.1, fun hf => hdis q hf (.inr (.inl rfl)), .inl kw'.nq.2.2⟩, ⟨hn12.2, fun hf => hdis mb hf (.inr (.inr rfl)), .inl kw'.nm.2.2.1, kw'.nm.2.2.2⟩, hgb9, ?_, Nat.le_trans kw'.low.1 (by omega), ?_⟩
        · rw [List.mem_singleton.1 hx]; exact hnew
        · rw [List.mem_singleton.1 hx] at hg
          have hg' := hown12 g hg
          have h2 := hownd g hg'
          refine ⟨fun hd => ?_, fun hd => h2 (.inr (.inl hd)), fun hd => h2 (.inr (.inr hd)), ?_⟩
          · rcases hg12 g hd with hd | hd
            · exact h2 (.inl hd)
            · have := hwB g hg'; omega
          · rcases hol9 g hg' with hy | hy
            · exact .inl (HOL.out.1 g hy).2.2.2
            · exact .inr ⟨by omega, by have := hwB g hg'; omega⟩
        · rintro i (hi | hi)
          · exact .inl (kw'.gf i hi)
          · exact .inr ⟨by omega, by omega⟩
        · rintro i (hi | hi)
          · exact ⟨(hGl i hi).1, by have := (hGl i hi).2; omega⟩
          · exact ⟨Nat.le_trans kw'.low.1 hi.1, hi.2⟩
      refine ⟨_, rfl, ⟨qb, p, mb, Gb', _, _, _, hC.new hW⟩, fun i hi => hi.elim .inl (fun h => .inr h.1), ?_⟩
      refine (Mv.trans (D' := fun i => Gb i ∨ i = q ∨ i = mb) (HMD.out.mono (fun i _ hd => (HOL.out.1 i hd).2.2.2)) hmv12 (fun i _ hd => ?_)).trans (Mv.of_new hW (fun _ => False)) (fun _ _ k => k.elim)
      rcases hd with hd | rfl | rfl
      · exact (kw'.gb i hd).1
      · exact kw'.nq.2.2
      · exact kw'.nm.2.2.1
    have htq := htop_any 2 ep ba 0 F f.length nf go kk (hd ++ l') A9 c9 (fun _ => False) w12 (by have := OwnBt.row hnew.own; exact this) (by rw [List.length_append, HLL.out.2]; omega)
    have htv : topB go ((hd ++ l').map (·.t)) = ve := by rw [List.map_append, HLL.out.1]; exact topB_add _ _ _
    rw [htv, ← hn9l] at htq
    unfold lgv at htq
    have HTQ := Lib.hid htq
    have HFN := Lib.hid hfin
    have u0 := hlb12.cell 0 _ rfl
    have u1 := hlb12.cell 1 _ rfl
    have u2 := hlb12.cell 2 _ rfl
    have u3 := hlb12.cell 3 _ rfl
    have u4 := hlb12.cell 4 _ rfl
    have u5 := hlb12.cell 5 _ rfl
    have u6 := hlb12.cell 6 _ rfl
    have u7 := hlb12.cell 7 _ rfl
    clear hq12 hk12 hg12 hn12 hm12 hmv12 hlb12 kw' s sB9 hGl hgf hgb hqs hms s10 s11 hol9 hGfo hGfl hdis hownd hownl hn9l hnew hfin htq htv HAD
    go_wp2_with fail
    clear u0 u1 u2 u3 u4 u5 u6 u7
    refine HTQ.out.mono ?_
    rintro o w13 ⟨rfl, hb13⟩
    have HFF := Lib.hid (HFN.out w13 hb13)
    clear hb13 HFN HTQ
    go_wp2_with fail
    exact HFF.out
end Go.Proofs.YtmigninibdecmaaGreat

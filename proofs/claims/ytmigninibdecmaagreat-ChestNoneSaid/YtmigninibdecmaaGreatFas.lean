/- Lock; no chest. A region with a store in its midst, which waits for some of its operations and writes what these have read: an order laid down beforehand, as in PlanF; what the store does not wait for must yield the same behind it. As in PlanG, with operations that come up alone ahead of the store, too (tag 3). -/
import Derived.Test.YtmigninibdecmaaGreatFar
import Derived.Test.YtmigninibdecmaaGreatFaa
namespace Go.Proofs.YtmigninibdecmaaGreat
open Go.RowKit
attribute [local go_sem] less_eq same_eq le_eq ge_eq gt_eq

set_option maxHeartbeats 2000000 in
set_option maxRecDepth 100000 in
theorem hnone_lay (e b : Int) (v : Value) (w : World) : Calls Tryz.prog 11 #[.pointer none, .int .i64 e, .int .i64 b, v] w fun o w' => o = .returned (.int .i64 1) ∧ Below w.heap.size w w' := by
  have HR := Lib.hid (hrefn_any e (some ⟨w.heap.size, 0, none⟩) 1 1 (w.alloc (.cells #[.int .i64 b] 3)))
  have HB := Lib.hid ((Below.refl w.heap.size w).alloc (Nat.le_refl _) (.cells #[.int .i64 b] 3))
  go_enter Tryz.func11, Tryz.ntmps11
  go_wp2_with fail
  refine HR.out.mono ?_
  rintro o w2 ⟨rfl, hb⟩
  have HB2 := Lib.hid (HB.out.trans (hb.mono HB.out.size))
  clear hb
  go_wp2_with fail
  go_ret
  exact ⟨rfl, HB2.out⟩
set_option maxHeartbeats 2000000 in
set_option maxRecDepth 100000 in
theorem hnone_retire (e : Int) (w : World) : Calls Tryz.prog 18 #[.pointer none, .int .i64 e] w fun x w' => x = .returned (.int .i64 1) ∧ Below w.heap.size w w' := by
  obtain ⟨w1, hw1⟩ : ∃ w1, w1 = w.alloc (.cells #[.int .i64 e] 3) := ⟨_, rfl⟩
  have hb1 : Below w.heap.size w w1 := by rw [hw1]; exact (Below.refl _ w).alloc (Nat.le_refl _) _
  have HR := Lib.hid (hrefn_any e none 0 0 w1)
  have HB := Lib.hid hb1
  clear hb1
  go_enter Tryz.func18, Tryz.ntmps18
  go_wp2_with fail
  rw [← hw1]
  clear hw1
  refine HR.out.mono ?_
  rintro o w2 ⟨rfl, hb⟩
  have HB2 := Lib.hid (HB.out.trans (hb.mono HB.out.size))
  clear hb
  go_wp2_with fail
  go_ret
  exact ⟨rfl, HB2.out⟩
set_option maxHeartbeats 2000000 in
set_option maxRecDepth 100000 in
theorem hnone_push (e : Int) (b : Bat) (A : Option Addr) (n c : Nat) (w : World) : Calls Tryz.prog 13 #[.pointer none, .int .i64 e, bval b (.slice A n c)] w fun o w' => ∃ n, o = .returned (.tuple #[.int .i64 n, .int .i64 1]) ∧ Below w.heap.size w w' := by
  obtain ⟨pv, ve, kw, cs⟩ := b
  obtain ⟨w1, hw1⟩ : ∃ w1, w1 = w.alloc (.cells #[.int .i64 pv, .int .i64 ve, .int .i64 kw, .slice A n c] 38) := ⟨_, rfl⟩
  have hb1 : Below w.heap.size w w1 := by rw [hw1]; exact (Below.refl _ w).alloc (Nat.le_refl _) _
  have hp := hpshn_any e w1
  rw [zlog_eq] at hp
  have HR := Lib.hid hp
  have HB := Lib.hid hb1
  unfold bval
  clear hb1 hp
  go_enter Tryz.func13, Tryz.ntmps13
  go_wp2_with fail
  rw [← hw1]
  clear hw1
  refine HR.out.mono ?_
  rintro o w2 ⟨rfl, hb⟩
  have HB2 := Lib.hid (HB.out.trans (hb.mono HB.out.size))
  clear hb
  go_wp2_with fail
  go_ret2
  exact ⟨0, rfl, HB2.out.alloc HB2.out.size _⟩
set_option maxHeartbeats 2000000 in
set_option maxRecDepth 100000 in
theorem hnone_lock (e o : Int) (w : World) : Calls Tryz.prog 12 #[.pointer none, .int .i64 e, .int .i64 o] w fun x w' => ∃ a b v, x = .returned (.tuple #[.int .i64 a, .int .i64 b, v, .int .i64 1]) ∧ Below w.heap.size w w' := by
  obtain ⟨w1, hw1⟩ : ∃ w1, w1 = (w.alloc (.cells #[.int .i64 e] 3)).alloc (.cells #[.int .i64 o] 3) := ⟨_, rfl⟩
  have hb1 : Below w.heap.size w w1 := by rw [hw1]; exact ((Below.refl _ w).alloc (Nat.le_refl _) _).alloc (by simp) _
  have HR := Lib.hid (hrefn_any e (some ⟨w.heap.size + 1, 0, none⟩) 1 1 w1)
  have HB := Lib.hid hb1
  clear hb1
  go_enter Tryz.func12, Tryz.ntmps12
  go_wp2_with fail
  rw [← hw1]
  clear hw1
  refine HR.out.mono ?_
  rintro x w2 ⟨rfl, hb⟩
  have HB2 := Lib.hid (HB.out.trans (hb.mono HB.out.size))
  clear hb
  go_wp2_with fail
  exact bodyPost_ret (v := .tuple #[.int .i64 0, .int .i64 0, .slice none 0 0, .int .i64 1]) (by simp [results, Tryz.results12, go_sem]) rfl ⟨0, 0, _, rfl, HB2.out⟩
set_option maxHeartbeats 2000000 in
set_option maxRecDepth 100000 in
theorem hnone_peek (e v m : Int) (w : World) : Calls Tryz.prog 15 #[.pointer none, .int .i64 e, .int .i64 v, .int .i64 m] w fun x w' => ∃ u a, x = .returned (.tuple #[u, .int .i64 a, .int .i64 1]) ∧ Below w.heap.size w w' := by
  obtain ⟨w1, hw1⟩ : ∃ w1, w1 = w.alloc (.cells #[.int .i64 v, .int .i64 m] 3) := ⟨_, rfl⟩
  have hb1 : Below w.heap.size w w1 := by rw [hw1]; exact (Below.refl _ w).alloc (Nat.le_refl _) _
  have hf := hfindn_any e (some ⟨w.heap.size, 0, none⟩) 2 2 w1
  rw [zlog_eq] at hf
  have HR := Lib.hid hf
  have HB := Lib.hid hb1
  clear hb1 hf
  go_enter Tryz.func15, Tryz.ntmps15
  go_wp2_with fail
  rw [← hw1]
  clear hw1
  refine HR.out.mono ?_
  rintro x w2 ⟨rfl, hb⟩
  have HB2 := Lib.hid (HB.out.trans (hb.mono HB.out.size))
  clear hb
  go_wp2_with fail
  exact bodyPost_ret (v := .tuple #[.slice none 0 0, .int .i64 0, .int .i64 1]) (by simp [results, Tryz.results15, go_sem]) rfl ⟨_, 0, rfl, HB2.out.alloc HB2.out.size _⟩
set_option maxHeartbeats 2000000 in
set_option maxRecDepth 100000 in
theorem hnone_pop (e v : Int) (w : World) : Calls Tryz.prog 16 #[.pointer none, .int .i64 e, .int .i64 v] w fun x w' => x = .returned (.int .i64 1) ∧ Below w.heap.size w w' := by
  obtain ⟨w1, hw1⟩ : ∃ w1, w1 = (w.alloc (.cells #[.int .i64 e] 3)).alloc (.cells #[.int .i64 v] 3) := ⟨_, rfl⟩
  have hb1 : Below w.heap.size w w1 := by rw [hw1]; exact ((Below.refl _ w).alloc (Nat.le_refl _) _).alloc (by simp) _
  have hf := hfindn_any e (some ⟨w.heap.size + 1, 0, none⟩) 1 1 w1
  rw [zlog_eq] at hf
  have HR := Lib.hid hf
  have HB := Lib.hid hb1
  clear hb1 hf
  go_enter Tryz.func16, Tryz.ntmps16
  go_wp2_with fail
  rw [← hw1]
  clear hw1
  refine HR.out.mono ?_
  rintro x w2 ⟨rfl, hb⟩
  have HB2 := Lib.hid (HB.out.trans (hb.mono HB.out.size))
  clear hb
  go_wp2_with fail
  go_ret
  exact ⟨rfl, HB2.out.alloc HB2.out.size _⟩

theorem Ch.lock_lower (g : Lg) (lock : Int) (u : Nat) (room e : Int) (h : e < lock) : (⟨[g], lock, u, room⟩ : Ch).lockd e g.epoch = ((0, 0, [], 15), ⟨[g], lock, u + 1, room⟩) := by
  unfold Ch.lockd
  rw [if_pos h]
  rfl
set_option maxHeartbeats 16000000 in
set_option maxRecDepth 100000 in
theorem hlock_any (base q : Nat) (G : Nat → Prop) (h : Ch) (e o : Int) (w : World) (he : 1 ≤ e ∧ e < 4611686018427387904) (ho : 0 ≤ o ∧ o < 4611686018427387904) (_hs : h.Spare 1) (hh : ChAt w base q G h) (h1 : ∃ g, h.logs = [g] ∧ g.epoch = o) :
    Calls Tryz.prog 12 #[.pointer (some ⟨q, 0, none⟩), .int .i64 e, .int .i64 o] w fun x w' => ∃ G' v l, x = .returned (.tuple #[.int .i64 (h.lockd e o).1.1, .int .i64 (h.lockd e o).1.2.1, v, .int .i64 (h.lockd e o).1.2.2.2]) ∧
      l.map (·.t) = (h.lockd e o).1.2.2.1 ∧ RdBts w' w'.heap.size (fun i => i < w.heap.size ∨ G' i) v l ∧ ChAt w' base q G' (h.lockd e o).2 ∧ (∀ i, G' i → G i ∨ w.heap.size ≤ i) ∧ Mv G w w' := by
  obtain ⟨qb, p, mb, Gb, Gf, bk, L, k⟩ := hh
  obtain ⟨g, h1, rfl⟩ := h1
  obtain ⟨x, rfl, rfl⟩ := k.one h1
  obtain ⟨logs, lock, units, room⟩ := h
  simp only at h1
  subst h1
  obtain ⟨⟨ep, ba, go, kn, fi, he⟩, f, F, nf, hd, H, nh⟩ := x
  rename_i hee
  simp only at k ho ⊢
  have hxm : (⟨⟨ep, ba, go, kn, fi, he⟩, f, F, nf, hd, H, nh⟩ : LgV) ∈ [(⟨⟨ep, ba, go, kn, fi, he⟩, f, F, nf, hd, H, nh⟩ : LgV)] := List.mem_singleton.2 rfl
  have HXM := Lib.hid hxm
  obtain ⟨w0, hw0⟩ : ∃ w0, w0 = w.alloc (.cells #[.int .i64 e] 3) := ⟨_, rfl⟩
  obtain ⟨w1, hw1⟩ : ∃ w1, w1 = w0.alloc (.cells #[.int .i64 ep] 3) := ⟨_, rfl⟩
  have hz0 : w0.heap.size = w.heap.size + 1 := by rw [hw0]; simp
  have hb0 : Below w.heap.size w w0 := by rw [hw0]; exact (Below.refl _ w).alloc (Nat.le_refl _) _
  have hb1 : Below w.heap.size w w1 := by rw [hw1]; exact hb0.alloc hb0.size _
  have hE1 : Whole w1 w.heap.size 3 [.int .i64 e] := by rw [hw1, hw0]; exact (Whole.fresh w _ [_]).alloc _
  have hri : RdI w1 w1.heap.size (.slice (some ⟨w.heap.size + 1, 0, none⟩) 1 1) [ep] := by rw [hw1, ← hz0]; exact RdI.oneN w0 ep
  have k1 := k.new hb1
  have HRF := Lib.hid (href_any q e [ep] _ w1 (k1.at_.cell 3 _ rfl) hee.1 hri (fun n hn => by rw [List.mem_singleton.1 hn]; exact ho.1) (by simp))
  obtain ⟨eb, heb⟩ : ∃ eb, eb = w.heap.size := ⟨_, rfl⟩
  rw [← heb] at hE1
  have HK := Lib.hid k
  have HB1 := Lib.hid (And.intro hb1 heb)
  have HE1 := Lib.hid hE1
  have HE := Lib.hid hee
  clear k hb1 hE1 hri hee ho k1 hb0 hz0
  obtain ⟨POST, hP⟩ : ∃ POST : Ending → World → Prop, POST = fun x w' => ∃ G' v l, x = .returned (.tuple #[.int .i64 ((⟨[⟨ep, ba, go, kn, fi, he⟩], lock, units, room⟩ : Ch).lockd e ep).1.1, .int .i64 ((⟨[⟨ep, ba, go, kn, fi, he⟩], lock, units, room⟩ : Ch).lockd e ep).1.2.1, v, .int .i64 ((⟨[⟨ep, ba, go, kn, fi, he⟩], lock, units, room⟩ : Ch).lockd e ep).1.2.2.2]) ∧
      l.map (·.t) = ((⟨[⟨ep, ba, go, kn, fi, he⟩], lock, units, room⟩ : Ch).lockd e ep).1.2.2.1 ∧ RdBts w' w'.heap.size (fun i => i < w.heap.size ∨ G' i) v l ∧ ChAt w' base q G' ((⟨[⟨ep, ba, go, kn, fi, he⟩], lock, units, room⟩ : Ch).lockd e ep).2 ∧ (∀ i, G' i → G i ∨ w.heap.size ≤ i) ∧ Mv G w w' := ⟨_, rfl⟩
  rw [← hP]
  have HP := Lib.hid hP
  clear hP
  have hmf : ∀ (fn : Fn) (first cap : Array Value) (w : World), (Instr.makeFunc fn first cap).run Tryz.prog w = .ok (.func fn first cap) w := fun _ _ _ _ => rfl
  have e0 := (Whole.fresh w 3 [.int .i64 e]).cell 0 _ rfl
  rw [← hw0] at e0
  rw [hw0] at e0
  go_enter Tryz.func12, Tryz.ntmps12
  go_wp2_with fail
  rw [← hw0, ← hw1]
  clear e0
  refine HRF.out.mono ?_
  rintro x w2 ⟨rfl, hb2⟩
  rw [← heb]
  have hB2 := HB1.out.1.trans (hb2.mono HB1.out.1.size)
  have hE2 := HE1.out.below hb2 HE1.out.size
  obtain ⟨wd, hwd⟩ : ∃ wd, wd = w2.drew := ⟨_, rfl⟩
  have hbd : Below w2.heap.size w2 wd := by rw [hwd]; exact (Below.refl _ w2).drew
  have hBd := hB2.trans (hbd.mono hB2.size)
  have hEd := hE2.below hbd hE2.size
  have hQd := HK.out.at_.below hBd HK.out.at_.size
  have hC : ∀ W, Below wd.heap.size wd W → W.cell? ⟨eb, 0, none⟩ = some (.int .i64 e) ∧ W.cell? ⟨q, 1, none⟩ = some (.int .i64 lock) := fun W hW => ⟨(hEd.below hW hEd.size).cell 0 _ rfl, (hQd.below hW hQd.size).cell 1 _ rfl⟩
  have HC := Lib.hid hC
  have HBD := Lib.hid hBd
  have HED := Lib.hid hEd
  clear hb2 hB2 hE2 hbd hBd hEd hQd hC HRF hw0 hw1 heb
  go_wp2_with fail
  refine wp_region_planB [(true, 0), (true, 1), (true, 2), (true, 3), (true, 4), (true, 5)] (by kernel_rfl) (by kernel_rfl) (fun _ _ d _ _ h => by cases d <;> exact h) ?_
  rw [← hwd]
  clear hwd
  by_cases hlt : e < lock
  · have hld : decide (e < lock) = true := decide_eq_true hlt
    (refine PlanB.take (v := ?_) rfl rfl ?_ ?_; rotate_left; (focus (intro W hW; obtain ⟨k0, k1⟩ := HC.out W (hW); go_simp; (try with_reducible rfl); done)); (try simp only [Act.put, List.setIfInBounds_toArray, List.set_cons_zero, List.set_cons_succ]))
    (refine PlanB.take (v := ?_) rfl rfl ?_ ?_; rotate_left; (focus (intro W hW; obtain ⟨k0, k1⟩ := HC.out W (hW); go_simp; (try with_reducible rfl); done)); (try simp only [Act.put, List.setIfInBounds_toArray, List.set_cons_zero, List.set_cons_succ]))
    (refine PlanB.take (v := ?_) rfl rfl ?_ ?_; rotate_left; (focus (intro W hW; obtain ⟨k0, k1⟩ := HC.out W (hW); go_simp; (try with_reducible rfl); done)); (try simp only [Act.put, List.setIfInBounds_toArray, List.set_cons_zero, List.set_cons_succ]))
    (refine PlanB.take (v := ?_) rfl rfl ?_ ?_; rotate_left; (focus (intro W hW; obtain ⟨k0, k1⟩ := HC.out W (hW); go_simp; (try with_reducible rfl); done)); (try simp only [Act.put, List.setIfInBounds_toArray, List.set_cons_zero, List.set_cons_succ]))
    (refine PlanB.take (v := ?_) rfl rfl ?_ ?_; rotate_left; (focus (intro W hW; obtain ⟨k0, k1⟩ := HC.out W (hW); go_simp; (try with_reducible rfl); done)); (try simp only [Act.put, List.setIfInBounds_toArray, List.set_cons_zero, List.set_cons_succ]))
    (refine PlanB.take (v := ?_) rfl rfl ?_ ?_; rotate_left; (focus (intro W hW; obtain ⟨k0, k1⟩ := HC.out W (hW); go_simp; (try with_reducible rfl); done)); (try simp only [Act.put, List.setIfInBounds_toArray, List.set_cons_zero, List.set_cons_succ]))
    simp only [PlanB]
    have HLT := Lib.hid hlt
    go_wp2_with fail
    refine bodyPost_ret (v := .tuple #[.int .i64 0, .int .i64 0, .slice none 0 0, .int .i64 15]) (by simp [results, Tryz.results12, go_sem]) rfl ?_
    rw [HP.out, Ch.lock_lower ⟨ep, ba, go, kn, fi, he⟩ lock units room e HLT.out]
    obtain ⟨G', h1, h2, h3⟩ := HK.out.moreW (h' := ⟨[⟨ep, ba, go, kn, fi, he⟩], lock, units + 1, room⟩) HBD.out rfl rfl rfl (by show units ≤ units + 1; omega)
    exact ⟨G', .slice none 0 0, [], rfl, rfl, RdBts.nil _ _ _ _ _, h1, h2, h3⟩
  have hld : decide (e < lock) = false := decide_eq_false hlt
  (refine PlanB.take (v := ?_) rfl rfl ?_ ?_; rotate_left; (focus (intro W hW; obtain ⟨k0, k1⟩ := HC.out W (hW); go_simp; (try with_reducible rfl); done)); (try simp only [Act.put, List.setIfInBounds_toArray, List.set_cons_zero, List.set_cons_succ]))
  (refine PlanB.take (v := ?_) rfl rfl ?_ ?_; rotate_left; (focus (intro W hW; obtain ⟨k0, k1⟩ := HC.out W (hW); go_simp; (try with_reducible rfl); done)); (try simp only [Act.put, List.setIfInBounds_toArray, List.set_cons_zero, List.set_cons_succ]))
  (refine PlanB.take (v := ?_) rfl rfl ?_ ?_; rotate_left; (focus (intro W hW; obtain ⟨k0, k1⟩ := HC.out W (hW); go_simp; (try with_reducible rfl); done)); (try simp only [Act.put, List.setIfInBounds_toArray, List.set_cons_zero, List.set_cons_succ]))
  (refine PlanB.take (v := ?_) rfl rfl ?_ ?_; rotate_left; (focus (intro W hW; obtain ⟨k0, k1⟩ := HC.out W (hW); go_simp; (try with_reducible rfl); done)); (try simp only [Act.put, List.setIfInBounds_toArray, List.set_cons_zero, List.set_cons_succ]))
  (refine PlanB.take (v := ?_) rfl rfl ?_ ?_; rotate_left; (focus (intro W hW; obtain ⟨k0, k1⟩ := HC.out W (hW); go_simp; (try with_reducible rfl); done)); (try simp only [Act.put, List.setIfInBounds_toArray, List.set_cons_zero, List.set_cons_succ]))
  (refine PlanB.take (v := ?_) rfl rfl ?_ ?_; rotate_left; (focus (intro W hW; obtain ⟨k0, k1⟩ := HC.out W (hW); go_simp; (try with_reducible rfl); done)); (try simp only [Act.put, List.setIfInBounds_toArray, List.set_cons_zero, List.set_cons_succ]))
  simp only [PlanB]
  have HLT := Lib.hid (Int.not_lt.1 hlt)
  clear hld
  go_wp2_with fail
  obtain ⟨wx, hwx⟩ : ∃ wx, wx = wd.drew := ⟨_, rfl⟩
  have hbx : Below wd.heap.size wd wx := by rw [hwx]; exact (Below.refl _ wd).drew
  have HBX := Lib.hid (And.intro hbx (HBD.out.trans (hbx.mono HBD.out.size)))
  have HEX := Lib.hid (HED.out.below hbx HED.out.size)
  clear hbx
  refine wp_region_planB [(true, 0), (true, 1), (true, 2), (true, 3), (true, 4), (true, 5)] (by kernel_rfl) (by kernel_rfl) (fun _ _ d _ _ h => by cases d <;> exact h) ?_
  rw [← hwx]
  clear hwx
  have hldd := Ch.lock_one ⟨ep, ba, go, kn, fi, he⟩ lock units room e (Int.not_lt.2 HLT.out)
  simp only at hldd
  have HLD := Lib.hid hldd
  clear hldd hlt
  by_cases hgt : lock < e
  · have hgd : decide (lock < e) = true := decide_eq_true hgt
    (refine PlanB.take (v := ?_) rfl rfl ?_ ?_; rotate_left; (focus (intro W hW; obtain ⟨k0, k1⟩ := HC.out W (HBX.out.1.trans (hW.mono HBX.out.1.size)); go_simp; (try with_reducible rfl); done)); (try simp only [Act.put, List.setIfInBounds_toArray, List.set_cons_zero, List.set_cons_succ]))
    (refine PlanB.take (v := ?_) rfl rfl ?_ ?_; rotate_left; (focus (intro W hW; obtain ⟨k0, k1⟩ := HC.out W (HBX.out.1.trans (hW.mono HBX.out.1.size)); go_simp; (try with_reducible rfl); done)); (try simp only [Act.put, List.setIfInBounds_toArray, List.set_cons_zero, List.set_cons_succ]))
    (refine PlanB.take (v := ?_) rfl rfl ?_ ?_; rotate_left; (focus (intro W hW; obtain ⟨k0, k1⟩ := HC.out W (HBX.out.1.trans (hW.mono HBX.out.1.size)); go_simp; (try with_reducible rfl); done)); (try simp only [Act.put, List.setIfInBounds_toArray, List.set_cons_zero, List.set_cons_succ]))
    (refine PlanB.take (v := ?_) rfl rfl ?_ ?_; rotate_left; (focus (intro W hW; obtain ⟨k0, k1⟩ := HC.out W (HBX.out.1.trans (hW.mono HBX.out.1.size)); go_simp; (try with_reducible rfl); done)); (try simp only [Act.put, List.setIfInBounds_toArray, List.set_cons_zero, List.set_cons_succ]))
    (refine PlanB.take (v := ?_) rfl rfl ?_ ?_; rotate_left; (focus (intro W hW; obtain ⟨k0, k1⟩ := HC.out W (HBX.out.1.trans (hW.mono HBX.out.1.size)); go_simp; (try with_reducible rfl); done)); (try simp only [Act.put, List.setIfInBounds_toArray, List.set_cons_zero, List.set_cons_succ]))
    (refine PlanB.take (v := ?_) rfl rfl ?_ ?_; rotate_left; (focus (intro W hW; obtain ⟨k0, k1⟩ := HC.out W (HBX.out.1.trans (hW.mono HBX.out.1.size)); go_simp; (try with_reducible rfl); done)); (try simp only [Act.put, List.setIfInBounds_toArray, List.set_cons_zero, List.set_cons_succ]))
    simp only [PlanB]
    have kx := HK.out.new HBX.out.2
    have hres := kx.room.reset (h' := (⟨[⟨ep, ba, go, kn, fi, he⟩], e, units + 1, room⟩ : Ch)) e ⟨ep, ba, go, kn, fi, he⟩ ⟨by have := HE.out.1; omega, HE.out.2⟩ (kx.log _ hxm).ok rfl
    have hchg : Chgs 32 #[.pointer (some ⟨eb, 0, none⟩)] wx (.pointer (some ⟨qb, 0, none⟩)) lock e [LgV.pr (⟨⟨ep, ba, go, kn, fi, he⟩, f, F, nf, hd, H, nh⟩ : LgV)] [LgV.pr (⟨⟨ep, ba, go, kn, fi, he⟩, f, F, nf, hd, H, nh⟩ : LgV)] := hlock1_any wx _ lock e _ eb HEX.out
    have han := hanew_any base q qb p mb Gb Gf bk lock e [LgV.pr (⟨⟨ep, ba, go, kn, fi, he⟩, f, F, nf, hd, H, nh⟩ : LgV)] (⟨⟨ep, ba, go, kn, fi, he⟩, f, F, nf, hd, H, nh⟩ : LgV) 32 #[.pointer (some ⟨eb, 0, none⟩)] wx kx.bk kx.at_ kx.map (kx.log _ hxm) ⟨by have := HE.out.1; omega, HE.out.2⟩ kx.nq.1 (fun args W => enters_of Tryz.func32 (by kernel_rfl) rfl args W) hchg hres.1
    have HAN := Lib.hid han
    have HRES := Lib.hid hres.2
    clear kx hres hchg han hgd hgt
    go_wp2_with fail
    clear hmf
    refine HAN.out.mono ?_
    rintro x w5 ⟨rfl, m2, Gb', hq5, hk5, hg5, hn5, hn5', hm5, hms5, hmv5⟩
    have kw := HK.out
    have hGl := kw.low.2
    have sB := HBX.out.2.size
    have hgf : ∀ i, Gf i → i < w.heap.size := fun i hi => (hGl i (kw.gf i hi)).2
    have hown := kw.own _ hxm
    have hsz5 : wx.heap.size ≤ w5.heap.size := hmv5.size
    have hm2s : m2 < w5.heap.size := hm5.size
    have hC5 : ChIs w5 base q qb p m2 Gb' Gf (fun i => G i ∨ (w.heap.size ≤ i ∧ i < w5.heap.size)) (⟨[⟨ep, ba, go, kn, fi, he⟩], e, units + 1, room⟩ : Ch) (bk.reset ((recs1 e ⟨ep, ba, go, kn, fi, he⟩).map (·.B))).2 [(⟨⟨ep, ba, go, kn, fi, he⟩, f, F, nf, hd, H, nh⟩ : LgV)] := by
      have hqs : q < w.heap.size := kw.at_.size
      refine ⟨hq5, hk5, hm5, rfl, fun x hx => ?_, fun x hx g hg => ?_, HRES.out, ⟨by have := HE.out.1; show 0 ≤ e; omega, HE.out.2⟩, ⟨hn5, kw.nq.2.1, .inl kw.nq.2.2⟩, ⟨hn5', fun hf => by have := hgf _ hf; omega, .inr ⟨by omega, hm2s⟩, by omega⟩, fun i hi => ?_, fun i hi => .inl (kw.gf i hi), Nat.le_trans kw.low.1 (by omega), ?_⟩
      · rw [List.mem_singleton.1 hx]
        exact ((kw.log _ hxm).new HBX.out.2).mv hmv5 (fun i hi hd => by
          rcases hd with hd | rfl
          · exact (kw.gb i hd).2 hi
          · exact kw.nq.2.1 hi) (fun g hg hd => by
          have := hown g hg
          rcases hd with hd | hd
          · exact this.1 hd
          · exact this.2.1 hd)
      · rw [List.mem_singleton.1 hx] at hg
        have h1 := hown g hg
        have h2 := hGl g h1.2.2.2
        refine ⟨fun hd => ?_, h1.2.1, by omega, .inl h1.2.2.2⟩
        rcases hg5 g hd with hd | hd
        · exact h1.1 hd
        · omega
      · have hl5 := (hk5.low.2 i hi).2
        rcases hg5 i hi with hx | hx
        · exact ⟨.inl (kw.gb i hx).1, (kw.gb i hx).2⟩
        · exact ⟨.inr ⟨by omega, hl5⟩, fun hf => by have := hgf i hf; omega⟩
      · rintro i (hi | hi)
        · exact ⟨(hGl i hi).1, by have := (hGl i hi).2; omega⟩
        · exact ⟨Nat.le_trans kw.low.1 hi.1, hi.2⟩
    obtain ⟨G5, hG5⟩ : ∃ G5 : Nat → Prop, G5 = fun i => G i ∨ (w.heap.size ≤ i ∧ i < w5.heap.size) := ⟨_, rfl⟩
    have hg5' : ∀ i, G5 i → G i ∨ w.heap.size ≤ i := by rw [hG5]; exact fun i hi => hi.elim .inl (fun h => .inr h.1)
    rw [← hG5] at hC5
    have HK5 := Lib.hid hC5
    have HG5 := Lib.hid hg5'
    have HMV := Lib.hid (show Mv G w w5 from (Mv.of_new HBX.out.2 G).trans hmv5 (fun i _ hd => by
      rcases hd with hd | rfl
      · exact (kw.gb i hd).1
      · exact kw.nq.2.2))
    clear hq5 hk5 hg5 hn5 hn5' hm5 hms5 hmv5 kw hGl sB hgf hown hsz5 hm2s hC5 hG5 hg5' HAN
    have hx5 := HK5.out.log _ HXM.out
    have hlk := HK5.out.map.look (P := Tryz.prog) Tryz.underlying59 Tryz.underlying3 (k := ep) (v := (⟨⟨ep, ba, go, kn, fi, he⟩, f, F, nf, hd, H, nh⟩ : LgV).v) (List.mem_singleton.2 rfl) true
    simp only [if_true] at hlk
    rw [LgV.v_eq] at hlk
    simp only at hlk
    have a2 := HK5.out.at_.cell 2 _ rfl
    obtain ⟨w8, hw8⟩ : ∃ w8, w8 = w5.alloc (.cells #[.int .i64 2, .int .i64 ep, .int .i64 ba, .int .i64 0, .slice F f.length nf, .int .i64 go, .int .i64 kn, .slice H hd.length nh] 73) := ⟨_, rfl⟩
    have hb8 : Below w5.heap.size w5 w8 := by rw [hw8]; exact (Below.refl _ w5).alloc (Nat.le_refl _) _
    have hL8 : Whole w8 w5.heap.size 73 [.int .i64 2, .int .i64 ep, .int .i64 ba, .int .i64 0, .slice F f.length nf, .int .i64 go, .int .i64 kn, .slice H hd.length nh] := by rw [hw8]; exact Whole.fresh w5 _ [.int .i64 2, .int .i64 ep, .int .i64 ba, .int .i64 0, .slice F f.length nf, .int .i64 go, .int .i64 kn, .slice H hd.length nh]
    obtain ⟨lb, hlb⟩ : ∃ lb, lb = w5.heap.size := ⟨_, rfl⟩
    rw [← hlb] at hL8
    obtain ⟨wd, hwd⟩ : ∃ wd, wd = w8.drew := ⟨_, rfl⟩
    have hbd : Below w8.heap.size w8 wd := by rw [hwd]; exact (Below.refl _ w8).drew
    have hBd := hb8.trans (hbd.mono hb8.size)
    have hLd := hL8.below hbd hL8.size
    have hC : ∀ W, Below wd.heap.size wd W → W.cell? ⟨lb, 0, none⟩ = some (.int .i64 2) ∧ W.cell? ⟨lb, 1, none⟩ = some (.int .i64 ep) ∧ W.cell? ⟨lb, 2, none⟩ = some (.int .i64 ba) ∧ W.cell? ⟨lb, 3, none⟩ = some (.int .i64 0) ∧ W.cell? ⟨lb, 4, none⟩ = some (.slice F f.length nf) ∧ W.cell? ⟨lb, 5, none⟩ = some (.int .i64 go) ∧ W.cell? ⟨lb, 6, none⟩ = some (.int .i64 kn) ∧ W.cell? ⟨lb, 7, none⟩ = some (.slice H hd.length nh) := fun W hW => by
      have g2 := hLd.below hW hLd.size
      exact ⟨g2.cell 0 _ rfl, g2.cell 1 _ rfl, g2.cell 2 _ rfl, g2.cell 3 _ rfl, g2.cell 4 _ rfl, g2.cell 5 _ rfl, g2.cell 6 _ rfl, g2.cell 7 _ rfl⟩
    have HCL := Lib.hid hC
    have HBD := Lib.hid hBd
    have hxd := hx5.new hBd
    have HFR := Lib.hid (hfresh_any hd (.slice H hd.length nh) wd hxd.held (by have := hxd.hle; simp only at this; omega) (fun y hy => (hxd.ok.he y.t (by have := hxd.he; simp only at this; rw [← this]; exact List.mem_map.2 ⟨y, hy, rfl⟩)).sound.2.1))
    have HHE := Lib.hid (show hd.map (·.t) = he from hxd.he)
    clear hx5 hb8 hL8 hbd hBd hLd hC hxd
    go_wp2_with fail
    rw [← hw8, ← hlb]
    refine wp_region_planB [(true, 0), (true, 1), (true, 2), (true, 3), (true, 4), (true, 5), (false, 6), (true, 7), (true, 8), (true, 9), (true, 10)] (by kernel_rfl) (by kernel_rfl) (fun _ _ d _ _ h => by cases d <;> exact h) ?_
    rw [← hwd]
    clear hw8 hwd hlk a2 hlb
    (refine PlanB.take (v := ?_) rfl rfl ?_ ?_; rotate_left; (focus (intro W hW; obtain ⟨k0, k1, k2, k3, k4, k5, k6, k7⟩ := HCL.out W (hW); go_simp; (try with_reducible rfl); done)); (try simp only [Act.put, List.setIfInBounds_toArray, List.set_cons_zero, List.set_cons_succ]))
    (refine PlanB.take (v := ?_) rfl rfl ?_ ?_; rotate_left; (focus (intro W hW; obtain ⟨k0, k1, k2, k3, k4, k5, k6, k7⟩ := HCL.out W (hW); go_simp; (try with_reducible rfl); done)); (try simp only [Act.put, List.setIfInBounds_toArray, List.set_cons_zero, List.set_cons_succ]))
    (refine PlanB.take (v := ?_) rfl rfl ?_ ?_; rotate_left; (focus (intro W hW; obtain ⟨k0, k1, k2, k3, k4, k5, k6, k7⟩ := HCL.out W (hW); go_simp; (try with_reducible rfl); done)); (try simp only [Act.put, List.setIfInBounds_toArray, List.set_cons_zero, List.set_cons_succ]))
    (refine PlanB.take (v := ?_) rfl rfl ?_ ?_; rotate_left; (focus (intro W hW; obtain ⟨k0, k1, k2, k3, k4, k5, k6, k7⟩ := HCL.out W (hW); go_simp; (try with_reducible rfl); done)); (try simp only [Act.put, List.setIfInBounds_toArray, List.set_cons_zero, List.set_cons_succ]))
    (refine PlanB.take (v := ?_) rfl rfl ?_ ?_; rotate_left; (focus (intro W hW; obtain ⟨k0, k1, k2, k3, k4, k5, k6, k7⟩ := HCL.out W (hW); go_simp; (try with_reducible rfl); done)); (try simp only [Act.put, List.setIfInBounds_toArray, List.set_cons_zero, List.set_cons_succ]))
    (refine PlanB.take (v := ?_) rfl rfl ?_ ?_; rotate_left; (focus (intro W hW; obtain ⟨k0, k1, k2, k3, k4, k5, k6, k7⟩ := HCL.out W (hW); go_simp; (try with_reducible rfl); done)); (try simp only [Act.put, List.setIfInBounds_toArray, List.set_cons_zero, List.set_cons_succ]))
    refine PlanB.step rfl rfl (fun Kk hK => ?_)
    go_simp
    go_at_call 26
    refine HFR.out.mono ?_
    rintro o9 w9 ⟨v9, l9, rfl, hl9, hrow, hb9⟩
    refine hK.out _ _ hb9 ?_
    obtain ⟨A9, c9, rfl⟩ := hrow.form
    have hB9 := HBD.out.trans (hb9.mono HBD.out.size)
    have hk9 := HK5.out.new hB9
    have hlow5 := HK5.out.low.2
    have hwW : w.heap.size ≤ w5.heap.size := HMV.out.size
    have hWd : w5.heap.size ≤ wd.heap.size := HBD.out.size
    have hpost : POST (.returned (.tuple #[.int .i64 go, .int .i64 kn, .slice A9 l9.length c9, .int .i64 0])) w9 := by
      rw [HP.out, HLD.out]
      refine ⟨G5, .slice A9 l9.length c9, l9, rfl, by rw [hl9, HHE.out], hrow.bts.mono (Nat.le_refl _) (fun i _ hi => ?_), ⟨qb, p, _, _, _, _, _, hk9⟩, HG5.out, HMV.out.trans (Mv.of_new hB9 (fun _ => False)) (fun _ _ k => k.elim)⟩
      rcases hi with hi | hi
      · omega
      · have := (hlow5 i hi).2; omega
    obtain ⟨n9, hn9⟩ : ∃ n9, n9 = l9.length := ⟨_, rfl⟩
    rw [← hn9] at hpost ⊢
    have HFN := Lib.hid hpost
    clear hK Kk hl9 hrow hb9 hB9 hk9 hlow5 hwW hWd hpost hn9 HFR
    (try simp only [Act.put, List.setIfInBounds_toArray, List.set_cons_zero, List.set_cons_succ])
    (refine PlanB.take (v := ?_) rfl rfl ?_ ?_; rotate_left; (focus (intro W hW; go_simp; (try with_reducible rfl); done)); (try simp only [Act.put, List.setIfInBounds_toArray, List.set_cons_zero, List.set_cons_succ]))
    (refine PlanB.take (v := ?_) rfl rfl ?_ ?_; rotate_left; (focus (intro W hW; go_simp; (try with_reducible rfl); done)); (try simp only [Act.put, List.setIfInBounds_toArray, List.set_cons_zero, List.set_cons_succ]))
    (refine PlanB.take (v := ?_) rfl rfl ?_ ?_; rotate_left; (focus (intro W hW; go_simp; (try with_reducible rfl); done)); (try simp only [Act.put, List.setIfInBounds_toArray, List.set_cons_zero, List.set_cons_succ]))
    (refine PlanB.take (v := ?_) rfl rfl ?_ ?_; rotate_left; (focus (intro W hW; go_simp; (try with_reducible rfl); done)); (try simp only [Act.put, List.setIfInBounds_toArray, List.set_cons_zero, List.set_cons_succ]))
    simp only [PlanB]
    go_wp2_with fail
    exact bodyPost_ret (v := .tuple #[.int .i64 go, .int .i64 kn, .slice A9 n9 c9, .int .i64 0]) (by simp [results, Tryz.results12, go_sem]) rfl HFN.out
  have hel : e = lock := by have := HLT.out; omega
  have hgd : decide (lock < e) = false := decide_eq_false hgt
  (refine PlanB.take (v := ?_) rfl rfl ?_ ?_; rotate_left; (focus (intro W hW; obtain ⟨k0, k1⟩ := HC.out W (HBX.out.1.trans (hW.mono HBX.out.1.size)); go_simp; (try with_reducible rfl); done)); (try simp only [Act.put, List.setIfInBounds_toArray, List.set_cons_zero, List.set_cons_succ]))
  (refine PlanB.take (v := ?_) rfl rfl ?_ ?_; rotate_left; (focus (intro W hW; obtain ⟨k0, k1⟩ := HC.out W (HBX.out.1.trans (hW.mono HBX.out.1.size)); go_simp; (try with_reducible rfl); done)); (try simp only [Act.put, List.setIfInBounds_toArray, List.set_cons_zero, List.set_cons_succ]))
  (refine PlanB.take (v := ?_) rfl rfl ?_ ?_; rotate_left; (focus (intro W hW; obtain ⟨k0, k1⟩ := HC.out W (HBX.out.1.trans (hW.mono HBX.out.1.size)); go_simp; (try with_reducible rfl); done)); (try simp only [Act.put, List.setIfInBounds_toArray, List.set_cons_zero, List.set_cons_succ]))
  (refine PlanB.take (v := ?_) rfl rfl ?_ ?_; rotate_left; (focus (intro W hW; obtain ⟨k0, k1⟩ := HC.out W (HBX.out.1.trans (hW.mono HBX.out.1.size)); go_simp; (try with_reducible rfl); done)); (try simp only [Act.put, List.setIfInBounds_toArray, List.set_cons_zero, List.set_cons_succ]))
  (refine PlanB.take (v := ?_) rfl rfl ?_ ?_; rotate_left; (focus (intro W hW; obtain ⟨k0, k1⟩ := HC.out W (HBX.out.1.trans (hW.mono HBX.out.1.size)); go_simp; (try with_reducible rfl); done)); (try simp only [Act.put, List.setIfInBounds_toArray, List.set_cons_zero, List.set_cons_succ]))
  (refine PlanB.take (v := ?_) rfl rfl ?_ ?_; rotate_left; (focus (intro W hW; obtain ⟨k0, k1⟩ := HC.out W (HBX.out.1.trans (hW.mono HBX.out.1.size)); go_simp; (try with_reducible rfl); done)); (try simp only [Act.put, List.setIfInBounds_toArray, List.set_cons_zero, List.set_cons_succ]))
  simp only [PlanB]
  · have kx := HK.out.new HBX.out.2
    have hC5 : ChIs wx base q qb p mb Gb Gf G (⟨[⟨ep, ba, go, kn, fi, he⟩], e, units + 1, room⟩ : Ch) bk [(⟨⟨ep, ba, go, kn, fi, he⟩, f, F, nf, hd, H, nh⟩ : LgV)] := ⟨by have := kx.at_; rw [← hel] at this; exact this, kx.bk, kx.map, rfl, kx.log, kx.own, kx.room.of rfl (by show units ≤ units + 1; omega), ⟨by have := HE.out.1; show 0 ≤ e; omega, HE.out.2⟩, kx.nq, kx.nm, kx.gb, kx.gf, kx.low⟩
    obtain ⟨G5, hG5⟩ : ∃ G5 : Nat → Prop, G5 = G := ⟨_, rfl⟩
    have hg5' : ∀ i, G5 i → G i ∨ w.heap.size ≤ i := by rw [hG5]; exact fun i hi => .inl hi
    rw [← hG5] at hC5
    have HK5 := Lib.hid hC5
    have HG5 := Lib.hid hg5'
    have HMV := Lib.hid (show Mv G w wx from Mv.of_new HBX.out.2 G)
    clear kx hC5 hG5 hg5' hgd hgt hel hmf
    have hx5 := HK5.out.log _ HXM.out
    have hlk := HK5.out.map.look (P := Tryz.prog) Tryz.underlying59 Tryz.underlying3 (k := ep) (v := (⟨⟨ep, ba, go, kn, fi, he⟩, f, F, nf, hd, H, nh⟩ : LgV).v) (List.mem_singleton.2 rfl) true
    simp only [if_true] at hlk
    rw [LgV.v_eq] at hlk
    simp only at hlk
    have a2 := HK5.out.at_.cell 2 _ rfl
    obtain ⟨w8, hw8⟩ : ∃ w8, w8 = wx.alloc (.cells #[.int .i64 2, .int .i64 ep, .int .i64 ba, .int .i64 0, .slice F f.length nf, .int .i64 go, .int .i64 kn, .slice H hd.length nh] 73) := ⟨_, rfl⟩
    have hb8 : Below wx.heap.size wx w8 := by rw [hw8]; exact (Below.refl _ wx).alloc (Nat.le_refl _) _
    have hL8 : Whole w8 wx.heap.size 73 [.int .i64 2, .int .i64 ep, .int .i64 ba, .int .i64 0, .slice F f.length nf, .int .i64 go, .int .i64 kn, .slice H hd.length nh] := by rw [hw8]; exact Whole.fresh wx _ [.int .i64 2, .int .i64 ep, .int .i64 ba, .int .i64 0, .slice F f.length nf, .int .i64 go, .int .i64 kn, .slice H hd.length nh]
    obtain ⟨lb, hlb⟩ : ∃ lb, lb = wx.heap.size := ⟨_, rfl⟩
    rw [← hlb] at hL8
    obtain ⟨wd, hwd⟩ : ∃ wd, wd = w8.drew := ⟨_, rfl⟩
    have hbd : Below w8.heap.size w8 wd := by rw [hwd]; exact (Below.refl _ w8).drew
    have hBd := hb8.trans (hbd.mono hb8.size)
    have hLd := hL8.below hbd hL8.size
    have hC : ∀ W, Below wd.heap.size wd W → W.cell? ⟨lb, 0, none⟩ = some (.int .i64 2) ∧ W.cell? ⟨lb, 1, none⟩ = some (.int .i64 ep) ∧ W.cell? ⟨lb, 2, none⟩ = some (.int .i64 ba) ∧ W.cell? ⟨lb, 3, none⟩ = some (.int .i64 0) ∧ W.cell? ⟨lb, 4, none⟩ = some (.slice F f.length nf) ∧ W.cell? ⟨lb, 5, none⟩ = some (.int .i64 go) ∧ W.cell? ⟨lb, 6, none⟩ = some (.int .i64 kn) ∧ W.cell? ⟨lb, 7, none⟩ = some (.slice H hd.length nh) := fun W hW => by
      have g2 := hLd.below hW hLd.size
      exact ⟨g2.cell 0 _ rfl, g2.cell 1 _ rfl, g2.cell 2 _ rfl, g2.cell 3 _ rfl, g2.cell 4 _ rfl, g2.cell 5 _ rfl, g2.cell 6 _ rfl, g2.cell 7 _ rfl⟩
    have HCL := Lib.hid hC
    have HBD := Lib.hid hBd
    have hxd := hx5.new hBd
    have HFR := Lib.hid (hfresh_any hd (.slice H hd.length nh) wd hxd.held (by have := hxd.hle; simp only at this; omega) (fun y hy => (hxd.ok.he y.t (by have := hxd.he; simp only at this; rw [← this]; exact List.mem_map.2 ⟨y, hy, rfl⟩)).sound.2.1))
    have HHE := Lib.hid (show hd.map (·.t) = he from hxd.he)
    clear hx5 hb8 hL8 hbd hBd hLd hC hxd
    go_wp2_with fail
    rw [← hw8, ← hlb]
    refine wp_region_planB [(true, 0), (true, 1), (true, 2), (true, 3), (true, 4), (true, 5), (false, 6), (true, 7), (true, 8), (true, 9), (true, 10)] (by kernel_rfl) (by kernel_rfl) (fun _ _ d _ _ h => by cases d <;> exact h) ?_
    rw [← hwd]
    clear hw8 hwd hlk a2 hlb
    (refine PlanB.take (v := ?_) rfl rfl ?_ ?_; rotate_left; (focus (intro W hW; obtain ⟨k0, k1, k2, k3, k4, k5, k6, k7⟩ := HCL.out W (hW); go_simp; (try with_reducible rfl); done)); (try simp only [Act.put, List.setIfInBounds_toArray, List.set_cons_zero, List.set_cons_succ]))
    (refine PlanB.take (v := ?_) rfl rfl ?_ ?_; rotate_left; (focus (intro W hW; obtain ⟨k0, k1, k2, k3, k4, k5, k6, k7⟩ := HCL.out W (hW); go_simp; (try with_reducible rfl); done)); (try simp only [Act.put, List.setIfInBounds_toArray, List.set_cons_zero, List.set_cons_succ]))
    (refine PlanB.take (v := ?_) rfl rfl ?_ ?_; rotate_left; (focus (intro W hW; obtain ⟨k0, k1, k2, k3, k4, k5, k6, k7⟩ := HCL.out W (hW); go_simp; (try with_reducible rfl); done)); (try simp only [Act.put, List.setIfInBounds_toArray, List.set_cons_zero, List.set_cons_succ]))
    (refine PlanB.take (v := ?_) rfl rfl ?_ ?_; rotate_left; (focus (intro W hW; obtain ⟨k0, k1, k2, k3, k4, k5, k6, k7⟩ := HCL.out W (hW); go_simp; (try with_reducible rfl); done)); (try simp only [Act.put, List.setIfInBounds_toArray, List.set_cons_zero, List.set_cons_succ]))
    (refine PlanB.take (v := ?_) rfl rfl ?_ ?_; rotate_left; (focus (intro W hW; obtain ⟨k0, k1, k2, k3, k4, k5, k6, k7⟩ := HCL.out W (hW); go_simp; (try with_reducible rfl); done)); (try simp only [Act.put, List.setIfInBounds_toArray, List.set_cons_zero, List.set_cons_succ]))
    (refine PlanB.take (v := ?_) rfl rfl ?_ ?_; rotate_left; (focus (intro W hW; obtain ⟨k0, k1, k2, k3, k4, k5, k6, k7⟩ := HCL.out W (hW); go_simp; (try with_reducible rfl); done)); (try simp only [Act.put, List.setIfInBounds_toArray, List.set_cons_zero, List.set_cons_succ]))
    refine PlanB.step rfl rfl (fun Kk hK => ?_)
    go_simp
    go_at_call 26
    refine HFR.out.mono ?_
    rintro o9 w9 ⟨v9, l9, rfl, hl9, hrow, hb9⟩
    refine hK.out _ _ hb9 ?_
    obtain ⟨A9, c9, rfl⟩ := hrow.form
    have hB9 := HBD.out.trans (hb9.mono HBD.out.size)
    have hk9 := HK5.out.new hB9
    have hlow5 := HK5.out.low.2
    have hwW : w.heap.size ≤ wx.heap.size := HMV.out.size
    have hWd : wx.heap.size ≤ wd.heap.size := HBD.out.size
    have hpost : POST (.returned (.tuple #[.int .i64 go, .int .i64 kn, .slice A9 l9.length c9, .int .i64 0])) w9 := by
      rw [HP.out, HLD.out]
      refine ⟨G5, .slice A9 l9.length c9, l9, rfl, by rw [hl9, HHE.out], hrow.bts.mono (Nat.le_refl _) (fun i _ hi => ?_), ⟨qb, p, _, _, _, _, _, hk9⟩, HG5.out, HMV.out.trans (Mv.of_new hB9 (fun _ => False)) (fun _ _ k => k.elim)⟩
      rcases hi with hi | hi
      · omega
      · have := (hlow5 i hi).2; omega
    obtain ⟨n9, hn9⟩ : ∃ n9, n9 = l9.length := ⟨_, rfl⟩
    rw [← hn9] at hpost ⊢
    have HFN := Lib.hid hpost
    clear hK Kk hl9 hrow hb9 hB9 hk9 hlow5 hwW hWd hpost hn9 HFR
    (try simp only [Act.put, List.setIfInBounds_toArray, List.set_cons_zero, List.set_cons_succ])
    (refine PlanB.take (v := ?_) rfl rfl ?_ ?_; rotate_left; (focus (intro W hW; go_simp; (try with_reducible rfl); done)); (try simp only [Act.put, List.setIfInBounds_toArray, List.set_cons_zero, List.set_cons_succ]))
    (refine PlanB.take (v := ?_) rfl rfl ?_ ?_; rotate_left; (focus (intro W hW; go_simp; (try with_reducible rfl); done)); (try simp only [Act.put, List.setIfInBounds_toArray, List.set_cons_zero, List.set_cons_succ]))
    (refine PlanB.take (v := ?_) rfl rfl ?_ ?_; rotate_left; (focus (intro W hW; go_simp; (try with_reducible rfl); done)); (try simp only [Act.put, List.setIfInBounds_toArray, List.set_cons_zero, List.set_cons_succ]))
    (refine PlanB.take (v := ?_) rfl rfl ?_ ?_; rotate_left; (focus (intro W hW; go_simp; (try with_reducible rfl); done)); (try simp only [Act.put, List.setIfInBounds_toArray, List.set_cons_zero, List.set_cons_succ]))
    simp only [PlanB]
    go_wp2_with fail
    exact bodyPost_ret (v := .tuple #[.int .i64 go, .int .i64 kn, .slice A9 n9 c9, .int .i64 0]) (by simp [results, Tryz.results12, go_sem]) rfl HFN.out
end Go.Proofs.YtmigninibdecmaaGreat
namespace Go.Proofs.YtmigninibdecmaaGreat
open Go.RowKit
section
variable {P : Program} {ops : Array Oper} {Q : Exit → Act → World → Prop} {S S2 : World → Prop} {f : Nat}

/-- S holds as long as f has not come up, S2 always -/
def TwoT (S S2 : World → Prop) (f : Nat) (L : Array Bool) (w : World) : Prop := (L.getD f true = false → S w) ∧ S2 w
def RestG (P : Program) (ops : Array Oper) (Q : Exit → Act → World → Prop) (S S2 : World → Prop) (f : Nat) : Nat → Array Bool → Act → World → Prop
  | 0, L, a, w => Region.ready .any ops L = [] ∧ Q .normal a w
  | n + 1, L, a, w => (Region.ready .any ops L = [] → Q .normal a w) ∧ ∀ i ∈ Region.ready .any ops L, wpOp P ops Q i (fun a' w' => TwoT S S2 f (L.setIfInBounds i true) w' ∧ RestG P ops Q S S2 f n (L.setIfInBounds i true) a' w') a w
theorem RestG.plain : ∀ (n : Nat) (L : Array Bool) (a : Act) (w : World), RestG P ops Q S S2 f n L a w → wpAny P .any ops Q n L a w
  | 0, _, _, _, h => h
  | n + 1, _, _, _, h => ⟨h.1, fun i hi => wpOp_mono (fun a' w' h' => RestG.plain n _ a' w' h'.2) (h.2 i hi)⟩
/-- f waits for number i -/
def waitsG (ops : Array Oper) (f i : Nat) : Bool := ((ops[f]?).map fun o => o.after.any fun e => Region.binds .any e && e.on == i).getD false
theorem waitsG.of {i : Nat} (h1 : waitsG ops f i = true) : ∃ o, ops[f]? = some o ∧ ∃ e ∈ o.after, Region.binds .any e = true ∧ e.on = i := by
  unfold waitsG at h1
  cases ho : ops[f]? with
  | none => rw [ho] at h1; simp at h1
  | some o =>
    rw [ho] at h1
    simp only [Option.map_some, Option.getD_some] at h1
    obtain ⟨e, he, hb⟩ := Array.any_eq_true'.1 h1
    simp only [Bool.and_eq_true, beq_iff_eq] at hb
    exact ⟨o, rfl, e, he, hb.1, hb.2⟩
theorem TwoT.other {i : Nat} (hif : i ≠ f) {L : Array Bool} {w : World} (h : TwoT S S2 f L w) : TwoT S S2 f (L.setIfInBounds i true) w :=
  ⟨fun h' => h.1 (by rwa [getD_set_ne true hif] at h'), h.2⟩
theorem TwoT.back {i j : Nat} (hif : i ≠ f) {L : Array Bool} {w : World} (h : TwoT S S2 f ((L.setIfInBounds i true).setIfInBounds j true) w) : TwoT S S2 f (L.setIfInBounds j true) w := by
  by_cases hij : j = i
  · subst hij
    refine ⟨fun h' => h.1 ?_, h.2⟩
    rw [getD_set_ne true hif] at h' ⊢
    rw [getD_set_ne true hif]
    exact h'
  · rw [Array.setIfInBounds_comm _ _ (Ne.symm hij)] at h
    exact ⟨fun h' => h.1 (by rw [getD_set_ne true hif]; exact h'), h.2⟩

/-- what f waits for -/
theorem RestG.early {i : Nat} {oi : Oper} {v : Value} (hi : ops[i]? = some oi) (hs : Region.noSelect ops = true) (hf : waitsG ops f i = true) (hif : i ≠ f)
    (hQ : ∀ c a w, Q (.panic c) (a.put oi.dst v) w → Q (.panic c) a w) : ∀ (n : Nat) (L : Array Bool) (a : Act) (w : World), Region.free .any ops L i = true → i ∈ Region.ready .any ops L → L.getD f true = false → YieldsIf P ops S oi v a → TwoT S S2 f L w →
      RestG P ops Q S S2 f n (L.setIfInBounds i true) (a.put oi.dst v) w → RestG P ops Q S S2 f (n + 1) L a w := by
  have go : ∀ (n : Nat) (L : Array Bool) (a : Act) (w : World), (∀ j oj, ops[j]? = some oj → j ≠ i → L.getD j true = false → (∀ e ∈ oj.after, Region.binds .any e = true → e.on ≠ i) → oi.apart ops oj = true) →
      i ∈ Region.ready .any ops L → L.getD f true = false → YieldsIf P ops S oi v a → TwoT S S2 f L w → RestG P ops Q S S2 f n (L.setIfInBounds i true) (a.put oi.dst v) w → RestG P ops Q S S2 f (n + 1) L a w := by
    intro n
    induction n with
    | zero =>
      intro L a w _ hr hLf hy hS H
      refine ⟨fun h0 => by (rw [h0] at hr; simp at hr), fun j hj => ?_⟩
      by_cases hji : j = i
      · rw [hji]
        exact hy.wpOp hi (hS.1 hLf) ⟨hS.other hif, H⟩
      · have := ready_mono hj hji
        rw [H.1] at this
        simp at this
    | succ n ih =>
      intro L a w hfr hr hLf hy hS H
      refine ⟨fun h0 => by (rw [h0] at hr; simp at hr), fun j hj => ?_⟩
      by_cases hji : j = i
      · rw [hji]
        exact hy.wpOp hi (hS.1 hLf) ⟨hS.other hif, H⟩
      · obtain ⟨hun, oj, hoj, hall⟩ := mem_ready.1 hj
        have hi0 := (mem_ready.1 hr).1
        have hno : ∀ e ∈ oj.after, Region.binds .any e = true → e.on ≠ i := fun e he hb heq => by
          have h1 := hall e he hb
          rw [heq] at h1
          by_cases hL : i < L.size
          · simp [hL] at hi0 h1; rw [hi0] at h1; cases h1
          · simp [Array.getElem?_eq_none (Nat.le_of_not_lt hL)] at h1
        have hjf : j ≠ f := fun e => by
          subst e
          obtain ⟨o, ho, e, he, hb, hon⟩ := waitsG.of hf
          rw [hoj] at ho
          cases ho
          exact hno e he hb hon
        have h2 := wpOp_putIf hoj (hfr j oj hoj hji hun hno) (fun cs b => Region.noSelect_spec hs i oi cs b hi) (fun cs b => Region.noSelect_spec hs j oj cs b hoj) hQ hy (H.2 j (ready_mono hj hji))
        refine wpOp_mono (fun a' w' h3 => ?_) h2
        obtain ⟨hy', hT, H'⟩ := h3
        have hT' := hT.back hif
        refine ⟨hT', ih _ a' w' (fun k ok hk hki hku hkn => hfr k ok hk hki ?_ hkn) (ready_mono hr (Ne.symm hji)) (by rw [getD_set_ne true hjf]; exact hLf) hy' hT' ?_⟩
        · by_cases hjk : j = k
          · subst hjk; exact hun
          · rwa [getD_set_ne true hjk] at hku
        · rw [Array.setIfInBounds_comm _ _ hji]
          exact H'
  intro n L a w hfree hr hLf hy hS H
  exact go n L a w (Region.free_spec hi hfree) hr hLf hy hS H
/-- what it does not wait for -/
theorem RestG.early2 {i : Nat} {oi : Oper} {v : Value} (hi : ops[i]? = some oi) (hs : Region.noSelect ops = true) (hif : i ≠ f)
    (hQ : ∀ c a w, Q (.panic c) (a.put oi.dst v) w → Q (.panic c) a w) : ∀ (n : Nat) (L : Array Bool) (a : Act) (w : World), Region.free .any ops L i = true → i ∈ Region.ready .any ops L → YieldsIf P ops S2 oi v a → TwoT S S2 f L w →
      RestG P ops Q S S2 f n (L.setIfInBounds i true) (a.put oi.dst v) w → RestG P ops Q S S2 f (n + 1) L a w := by
  have go : ∀ (n : Nat) (L : Array Bool) (a : Act) (w : World), (∀ j oj, ops[j]? = some oj → j ≠ i → L.getD j true = false → (∀ e ∈ oj.after, Region.binds .any e = true → e.on ≠ i) → oi.apart ops oj = true) →
      i ∈ Region.ready .any ops L → YieldsIf P ops S2 oi v a → TwoT S S2 f L w → RestG P ops Q S S2 f n (L.setIfInBounds i true) (a.put oi.dst v) w → RestG P ops Q S S2 f (n + 1) L a w := by
    intro n
    induction n with
    | zero =>
      intro L a w _ hr hy hS H
      refine ⟨fun h0 => by (rw [h0] at hr; simp at hr), fun j hj => ?_⟩
      by_cases hji : j = i
      · rw [hji]
        exact hy.wpOp hi hS.2 ⟨hS.other hif, H⟩
      · have := ready_mono hj hji
        rw [H.1] at this
        simp at this
    | succ n ih =>
      intro L a w hfr hr hy hS H
      refine ⟨fun h0 => by (rw [h0] at hr; simp at hr), fun j hj => ?_⟩
      by_cases hji : j = i
      · rw [hji]
        exact hy.wpOp hi hS.2 ⟨hS.other hif, H⟩
      · obtain ⟨hun, oj, hoj, hall⟩ := mem_ready.1 hj
        have hi0 := (mem_ready.1 hr).1
        have hno : ∀ e ∈ oj.after, Region.binds .any e = true → e.on ≠ i := fun e he hb heq => by
          have h1 := hall e he hb
          rw [heq] at h1
          by_cases hL : i < L.size
          · simp [hL] at hi0 h1; rw [hi0] at h1; cases h1
          · simp [Array.getElem?_eq_none (Nat.le_of_not_lt hL)] at h1
        have h2 := wpOp_putIf hoj (hfr j oj hoj hji hun hno) (fun cs b => Region.noSelect_spec hs i oi cs b hi) (fun cs b => Region.noSelect_spec hs j oj cs b hoj) hQ hy (H.2 j (ready_mono hj hji))
        refine wpOp_mono (fun a' w' h3 => ?_) h2
        obtain ⟨hy', hT, H'⟩ := h3
        have hT' := hT.back hif
        refine ⟨hT', ih _ a' w' (fun k ok hk hki hku hkn => hfr k ok hk hki ?_ hkn) (ready_mono hr (Ne.symm hji)) hy' hT' ?_⟩
        · by_cases hjk : j = k
          · subst hjk; exact hun
          · rwa [getD_set_ne true hjk] at hku
        · rw [Array.setIfInBounds_comm _ _ hji]
          exact H'
  intro n L a w hfree hr hy hS H
  exact go n L a w (Region.free_spec hi hfree) hr hy hS H

/-- 0: taken, f waits for it; 1: taken; 2: comes up alone, f or behind it -/
def planOkG (ops : Array Oper) (f : Nat) : List (Nat × Nat) → Array Bool → Bool
  | [], L => (Region.ready .any ops L).isEmpty
  | (0, i) :: r, L => waitsG ops f i && (i != f) && !(L.getD f true) && Region.free .any ops L i && (Region.ready .any ops L).contains i && planOkG ops f r (L.setIfInBounds i true)
  | (1, i) :: r, L => (i != f) && Region.free .any ops L i && (Region.ready .any ops L).contains i && planOkG ops f r (L.setIfInBounds i true)
  | (_, i) :: r, L => Region.ready .any ops L == [i] && ((L.setIfInBounds i true).getD f true) && planOkG ops f r (L.setIfInBounds i true)
def PlanG (P : Program) (ops : Array Oper) (S S2 : World → Prop) (f : Nat) (Q : Exit → Act → World → Prop) : List (Nat × Nat) → Act → World → Prop
  | [], a, w => Q .normal a w
  | (0, i) :: r, a, w => ∃ o v, ops[i]? = some o ∧ YieldsIf P ops S o v a ∧ PlanG P ops S S2 f Q r (a.put o.dst v) w
  | (1, i) :: r, a, w => ∃ o v, ops[i]? = some o ∧ YieldsIf P ops S2 o v a ∧ PlanG P ops S S2 f Q r (a.put o.dst v) w
  | (_, i) :: r, a, w => wpOp P ops Q i (fun a' w' => S2 w' ∧ PlanG P ops S S2 f Q r a' w') a w
theorem PlanG.any (hs : Region.noSelect ops = true) (hQ : ∀ c a d v w, Q (.panic c) (Act.put a d v) w → Q (.panic c) a w) : ∀ (plan : List (Nat × Nat)) (n : Nat) (L : Array Bool) (a : Act) (w : World),
    plan.length ≤ n → planOkG ops f plan L = true → TwoT S S2 f L w → PlanG P ops S S2 f Q plan a w → RestG P ops Q S S2 f n L a w
  | [], n, L, a, w, _, hp, _, h => by
    have hr : Region.ready .any ops L = [] := by simpa [planOkG] using hp
    cases n with
    | zero => exact ⟨hr, h⟩
    | succ n => exact ⟨fun _ => h, by rw [hr]; simp⟩
  | (0, i) :: r, n + 1, L, a, w, hn, hp, hS, h => by
    obtain ⟨o, v, ho, hy, hr⟩ := h
    simp only [planOkG, Bool.and_eq_true, Bool.not_eq_true', bne_iff_ne] at hp
    obtain ⟨⟨⟨⟨⟨h1, h2⟩, h3⟩, h4⟩, h5⟩, h6⟩ := hp
    exact RestG.early ho hs h1 h2 (fun c a w => hQ c a _ _ w) n L a w h4 (by simpa using h5) h3 hy hS (PlanG.any hs hQ r n _ _ _ (by simpa using hn) h6 (hS.other h2) hr)
  | (1, i) :: r, n + 1, L, a, w, hn, hp, hS, h => by
    obtain ⟨o, v, ho, hy, hr⟩ := h
    simp only [planOkG, Bool.and_eq_true, bne_iff_ne] at hp
    obtain ⟨⟨⟨h2, h4⟩, h5⟩, h6⟩ := hp
    exact RestG.early2 ho hs h2 (fun c a w => hQ c a _ _ w) n L a w h4 (by simpa using h5) hy hS (PlanG.any hs hQ r n _ _ _ (by simpa using hn) h6 (hS.other h2) hr)
  | (k + 2, i) :: r, n + 1, L, a, w, hn, hp, _, h => by
    simp only [planOkG, Bool.and_eq_true, beq_iff_eq] at hp
    obtain ⟨⟨h1, h2⟩, h3⟩ := hp
    refine ⟨fun h0 => by rw [h1] at h0; simp at h0, fun j hj => ?_⟩
    rw [h1] at hj
    obtain rfl : j = i := by simpa using hj
    refine wpOp_mono (fun a' w' h' => ?_) h
    have hT : TwoT S S2 f (L.setIfInBounds j true) w' := ⟨fun e => (by rw [h2] at e; cases e), h'.1⟩
    exact ⟨hT, PlanG.any hs hQ r n _ _ _ (by simpa using hn) h3 hT h'.2⟩
  | _ :: _, 0, _, _, _, hn, _, _, _ => by simp at hn

theorem wp_region_planG (S S2 : World → Prop) (f : Nat) (plan : List (Nat × Nat)) {id : Nat} {a : Act} {w : World} (hm : P.follows .mixedOrders = true) (hs : (Region.noSelect ops && planOkG ops f plan (Array.replicate ops.size false) && decide (plan.length ≤ ops.size)) = true)
    (hQ : ∀ c a d v w, Q (.panic c) (Act.put a d v) w → Q (.panic c) a w) (hS : S w.drew) (hS2 : S2 w.drew) (h : PlanG P ops S S2 f Q plan a w.drew) : (Code.region id ops true).wp P Q a w := by
  simp only [Bool.and_eq_true, decide_eq_true_eq] at hs
  exact wp_region_any hm (RestG.plain _ _ _ _ (PlanG.any hs.1.1 hQ plan _ _ _ _ hs.2 hs.1.2 ⟨fun _ => hS, hS2⟩ h))

theorem PlanG.take {i : Nat} {o : Oper} {v : Value} {r : List (Nat × Nat)} {a : Act} {w : World} (hi : ops.toList[i]? = some o) (hw : Region.wanted o (yielded ops a.tmps) = true)
    (hy : ∀ W, S W → (execOp a.eval o).run P W = .ok (.value v) W) (h : PlanG P ops S S2 f Q r (a.put o.dst v) w) : PlanG P ops S S2 f Q ((0, i) :: r) a w :=
  ⟨o, v, by simpa using hi, .inl ⟨hw, hy⟩, h⟩
theorem PlanG.take2 {i : Nat} {o : Oper} {v : Value} {r : List (Nat × Nat)} {a : Act} {w : World} (hi : ops.toList[i]? = some o) (hw : Region.wanted o (yielded ops a.tmps) = true)
    (hy : ∀ W, S2 W → (execOp a.eval o).run P W = .ok (.value v) W) (h : PlanG P ops S S2 f Q r (a.put o.dst v) w) : PlanG P ops S S2 f Q ((1, i) :: r) a w :=
  ⟨o, v, by simpa using hi, .inl ⟨hw, hy⟩, h⟩
theorem PlanG.step {i : Nat} {o : Oper} {r : List (Nat × Nat)} {a : Act} {w : World} (hi : ops.toList[i]? = some o) (hw : Region.wanted o (yielded ops a.tmps) = true)
    (h : ∀ K : Act → World → Prop, Shut (∀ a w, S2 w → PlanG P ops S S2 f Q r a w → K a w) → Oper.wp P o a w K Q) : PlanG P ops S S2 f Q ((2, i) :: r) a w := by
  show wpOp P ops Q i _ a w
  refine wpOp_step (o := o) (by simpa using hi) fun K' hK => ?_
  rw [if_pos hw]
  exact h K' fun a w h1 h2 => hK a w ⟨h1, h2⟩
end
end Go.Proofs.YtmigninibdecmaaGreat
namespace Go.Proofs.YtmigninibdecmaaGreat
open Go.RowKit
section
variable {P : Program} {ops : Array Oper} {Q : Exit → Act → World → Prop} {S S2 : World → Prop} {f : Nat}

/-- 0: taken, f waits for it; 1: taken; 2: comes up alone, f or behind it; 3: comes up alone, ahead of f -/
def planOkH (ops : Array Oper) (f : Nat) : List (Nat × Nat) → Array Bool → Bool
  | [], L => (Region.ready .any ops L).isEmpty
  | (0, i) :: r, L => waitsG ops f i && (i != f) && !(L.getD f true) && Region.free .any ops L i && (Region.ready .any ops L).contains i && planOkH ops f r (L.setIfInBounds i true)
  | (1, i) :: r, L => (i != f) && Region.free .any ops L i && (Region.ready .any ops L).contains i && planOkH ops f r (L.setIfInBounds i true)
  | (2, i) :: r, L => Region.ready .any ops L == [i] && ((L.setIfInBounds i true).getD f true) && planOkH ops f r (L.setIfInBounds i true)
  | (_, i) :: r, L => Region.ready .any ops L == [i] && planOkH ops f r (L.setIfInBounds i true)
def PlanH (P : Program) (ops : Array Oper) (S S2 : World → Prop) (f : Nat) (Q : Exit → Act → World → Prop) : List (Nat × Nat) → Act → World → Prop
  | [], a, w => Q .normal a w
  | (0, i) :: r, a, w => ∃ o v, ops[i]? = some o ∧ YieldsIf P ops S o v a ∧ PlanH P ops S S2 f Q r (a.put o.dst v) w
  | (1, i) :: r, a, w => ∃ o v, ops[i]? = some o ∧ YieldsIf P ops S2 o v a ∧ PlanH P ops S S2 f Q r (a.put o.dst v) w
  | (2, i) :: r, a, w => wpOp P ops Q i (fun a' w' => S2 w' ∧ PlanH P ops S S2 f Q r a' w') a w
  | (_, i) :: r, a, w => wpOp P ops Q i (fun a' w' => (S w' ∧ S2 w') ∧ PlanH P ops S S2 f Q r a' w') a w
theorem PlanH.any (hs : Region.noSelect ops = true) (hQ : ∀ c a d v w, Q (.panic c) (Act.put a d v) w → Q (.panic c) a w) : ∀ (plan : List (Nat × Nat)) (n : Nat) (L : Array Bool) (a : Act) (w : World),
    plan.length ≤ n → planOkH ops f plan L = true → TwoT S S2 f L w → PlanH P ops S S2 f Q plan a w → RestG P ops Q S S2 f n L a w
  | [], n, L, a, w, _, hp, _, h => by
    have hr : Region.ready .any ops L = [] := by simpa [planOkH] using hp
    cases n with
    | zero => exact ⟨hr, h⟩
    | succ n => exact ⟨fun _ => h, by rw [hr]; simp⟩
  | (0, i) :: r, n + 1, L, a, w, hn, hp, hS, h => by
    obtain ⟨o, v, ho, hy, hr⟩ := h
    simp only [planOkH, Bool.and_eq_true, Bool.not_eq_true', bne_iff_ne] at hp
    obtain ⟨⟨⟨⟨⟨h1, h2⟩, h3⟩, h4⟩, h5⟩, h6⟩ := hp
    exact RestG.early ho hs h1 h2 (fun c a w => hQ c a _ _ w) n L a w h4 (by simpa using h5) h3 hy hS (PlanH.any hs hQ r n _ _ _ (by simpa using hn) h6 (hS.other h2) hr)
  | (1, i) :: r, n + 1, L, a, w, hn, hp, hS, h => by
    obtain ⟨o, v, ho, hy, hr⟩ := h
    simp only [planOkH, Bool.and_eq_true, bne_iff_ne] at hp
    obtain ⟨⟨⟨h2, h4⟩, h5⟩, h6⟩ := hp
    exact RestG.early2 ho hs h2 (fun c a w => hQ c a _ _ w) n L a w h4 (by simpa using h5) hy hS (PlanH.any hs hQ r n _ _ _ (by simpa using hn) h6 (hS.other h2) hr)
  | (2, i) :: r, n + 1, L, a, w, hn, hp, _, h => by
    simp only [planOkH, Bool.and_eq_true, beq_iff_eq] at hp
    obtain ⟨⟨h1, h2⟩, h3⟩ := hp
    refine ⟨fun h0 => by rw [h1] at h0; simp at h0, fun j hj => ?_⟩
    rw [h1] at hj
    obtain rfl : j = i := by simpa using hj
    refine wpOp_mono (fun a' w' h' => ?_) h
    have hT : TwoT S S2 f (L.setIfInBounds j true) w' := ⟨fun e => (by rw [h2] at e; cases e), h'.1⟩
    exact ⟨hT, PlanH.any hs hQ r n _ _ _ (by simpa using hn) h3 hT h'.2⟩
  | (k + 3, i) :: r, n + 1, L, a, w, hn, hp, _, h => by
    simp only [planOkH, Bool.and_eq_true, beq_iff_eq] at hp
    obtain ⟨h1, h3⟩ := hp
    refine ⟨fun h0 => by rw [h1] at h0; simp at h0, fun j hj => ?_⟩
    rw [h1] at hj
    obtain rfl : j = i := by simpa using hj
    refine wpOp_mono (fun a' w' h' => ?_) h
    have hT : TwoT S S2 f (L.setIfInBounds j true) w' := ⟨fun _ => h'.1.1, h'.1.2⟩
    exact ⟨hT, PlanH.any hs hQ r n _ _ _ (by simpa using hn) h3 hT h'.2⟩
  | _ :: _, 0, _, _, _, hn, _, _, _ => by simp at hn

theorem wp_region_planH (S S2 : World → Prop) (f : Nat) (plan : List (Nat × Nat)) {id : Nat} {a : Act} {w : World} (hm : P.follows .mixedOrders = true) (hs : (Region.noSelect ops && planOkH ops f plan (Array.replicate ops.size false) && decide (plan.length ≤ ops.size)) = true)
    (hQ : ∀ c a d v w, Q (.panic c) (Act.put a d v) w → Q (.panic c) a w) (hS : S w.drew) (hS2 : S2 w.drew) (h : PlanH P ops S S2 f Q plan a w.drew) : (Code.region id ops true).wp P Q a w := by
  simp only [Bool.and_eq_true, decide_eq_true_eq] at hs
  exact wp_region_any hm (RestG.plain _ _ _ _ (PlanH.any hs.1.1 hQ plan _ _ _ _ hs.2 hs.1.2 ⟨fun _ => hS, hS2⟩ h))

theorem PlanH.take {i : Nat} {o : Oper} {v : Value} {r : List (Nat × Nat)} {a : Act} {w : World} (hi : ops.toList[i]? = some o) (hw : Region.wanted o (yielded ops a.tmps) = true)
    (hy : ∀ W, S W → (execOp a.eval o).run P W = .ok (.value v) W) (h : PlanH P ops S S2 f Q r (a.put o.dst v) w) : PlanH P ops S S2 f Q ((0, i) :: r) a w :=
  ⟨o, v, by simpa using hi, .inl ⟨hw, hy⟩, h⟩
theorem PlanH.take2 {i : Nat} {o : Oper} {v : Value} {r : List (Nat × Nat)} {a : Act} {w : World} (hi : ops.toList[i]? = some o) (hw : Region.wanted o (yielded ops a.tmps) = true)
    (hy : ∀ W, S2 W → (execOp a.eval o).run P W = .ok (.value v) W) (h : PlanH P ops S S2 f Q r (a.put o.dst v) w) : PlanH P ops S S2 f Q ((1, i) :: r) a w :=
  ⟨o, v, by simpa using hi, .inl ⟨hw, hy⟩, h⟩
theorem PlanH.step {i : Nat} {o : Oper} {r : List (Nat × Nat)} {a : Act} {w : World} (hi : ops.toList[i]? = some o) (hw : Region.wanted o (yielded ops a.tmps) = true)
    (h : ∀ K : Act → World → Prop, Shut (∀ a w, S2 w → PlanH P ops S S2 f Q r a w → K a w) → Oper.wp P o a w K Q) : PlanH P ops S S2 f Q ((2, i) :: r) a w := by
  show wpOp P ops Q i _ a w
  refine wpOp_step (o := o) (by simpa using hi) fun K' hK => ?_
  rw [if_pos hw]
  exact h K' fun a w h1 h2 => hK a w ⟨h1, h2⟩
theorem PlanH.call {i : Nat} {o : Oper} {r : List (Nat × Nat)} {a : Act} {w : World} (hi : ops.toList[i]? = some o) (hw : Region.wanted o (yielded ops a.tmps) = true)
    (h : ∀ K : Act → World → Prop, Shut (∀ a w, S w ∧ S2 w → PlanH P ops S S2 f Q r a w → K a w) → Oper.wp P o a w K Q) : PlanH P ops S S2 f Q ((3, i) :: r) a w := by
  show wpOp P ops Q i _ a w
  refine wpOp_step (o := o) (by simpa using hi) fun K' hK => ?_
  rw [if_pos hw]
  exact h K' fun a w h1 h2 => hK a w ⟨h1, h2⟩
end
end Go.Proofs.YtmigninibdecmaaGreat

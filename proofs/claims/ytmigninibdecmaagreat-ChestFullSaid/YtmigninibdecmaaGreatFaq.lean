/- Lay: batches of an epoch begin. -/
import Derived.Test.YtmigninibdecmaaGreatFap
namespace Go.Proofs.YtmigninibdecmaaGreat
open Go.RowKit
attribute [local go_sem] less_eq same_eq le_eq ge_eq gt_eq

theorem Ch.lay_new {h : Ch} {e b : Int} {l : List Bat} (h1 : ¬ e < h.lock) (h2 : ∀ g ∈ h.logs, g.epoch < e) : h.lay e b l = (0, ⟨h.logs ++ [⟨e, b, b, knownB 0 l, l, l⟩], h.lock, h.units + (1 + l.length), h.room⟩) := by
  have hf : h.find e = none := by
    unfold Ch.find
    refine List.find?_eq_none.2 fun g hg => ?_
    have := h2 g hg
    simp only [beq_iff_eq]
    omega
  unfold Ch.lay
  rw [if_neg h1, hf]
  simp only [Ch.ins, Ch.more]
  have e1 : ∀ L : List Lg, (∀ g ∈ L, g.epoch < e) → L.takeWhile (fun x => decide (x.epoch < e)) = L ∧ L.dropWhile (fun x => decide (x.epoch < e)) = [] := fun L hL => by
    induction L with
    | nil => exact ⟨rfl, rfl⟩
    | cons g L ih =>
      have h3 := hL g (by simp)
      obtain ⟨h4, h5⟩ := ih (fun x hx => hL x (by simp [hx]))
      rw [List.takeWhile_cons, if_pos (by simpa using h3), List.dropWhile_cons, if_pos (by simpa using h3), h4, h5]
      exact ⟨rfl, rfl⟩
  rw [(e1 _ h2).1, (e1 _ h2).2]
theorem Ch.lay_same (g : Lg) (lock : Int) (u : Nat) (room b : Int) (l : List Bat) (h : ¬ g.epoch < lock) : (⟨[g], lock, u, room⟩ : Ch).lay g.epoch b l = (if g.base = b ∧ g.first = l then 0 else 13, ⟨[g], lock, u + (1 + l.length), room⟩) := by
  unfold Ch.lay
  rw [if_neg h, Ch.find_one, if_pos rfl]
  simp only
  split <;> rfl
theorem ChIs.more {w w' : World} {base q qb p mb : Nat} {Gb Gf G : Nat → Prop} {h h' : Ch} {b : Bks} {L : List LgV} (k : ChIs w base q qb p mb Gb Gf G h b L) (hb : Below w.heap.size w w') (h1 : h'.logs = h.logs) (h2 : h'.lock = h.lock) (h3 : h'.room = h.room) (h4 : h.units ≤ h'.units) : ChAt w' base q G h' := by
  have k2 := k.new hb
  exact ⟨qb, p, mb, Gb, Gf, b, L, ⟨h2 ▸ k2.at_, k2.bk, k2.map, k2.logs.trans h1.symm, k2.log, k2.own, k2.room.of h3 h4, h2 ▸ k2.lk, k2.nq, k2.nm, k2.gb, k2.gf, k2.low⟩⟩
theorem RowP.form {w : World} {base : Nat} {G : Nat → Prop} {v : Value} {l : List BtV} (h : RowP w base G v l) : ∃ A c, v = .slice A l.length c := by
  rcases Own.form h.own with ⟨rfl, rfl⟩ | ⟨g, cap, rfl, -, -, -⟩
  · exact ⟨none, 0, rfl⟩
  · exact ⟨_, cap, rfl⟩
theorem RdI.oneN (w : World) (n : Int) : RdI (w.alloc (.cells #[.int .i64 n] 3)) (w.alloc (.cells #[.int .i64 n] 3)).heap.size (.slice (some ⟨w.heap.size, 0, none⟩) 1 1) [n] := by
  rw [World.size_alloc]; exact RdI.one w n
def Tail (f : Prop) : Prop := f

set_option maxHeartbeats 16000000 in
set_option maxRecDepth 100000 in
theorem hlay_any (base q : Nat) (G : Nat → Prop) (h : Ch) (e b : Int) (l : List BtV) (v : Value) (w : World) (he : 1 ≤ e ∧ e < 4611686018427387904) (hb : 0 ≤ b ∧ b < 4611686018427387904) (ht : ∀ x ∈ l, x.t.Tiny) (hc : chainB b (l.map (·.t))) (hl : l.length ≤ 24) (hs : h.Spare (1 + l.length)) (hq : e < h.lock ∨ h.logs = [] ∨ ∃ g, h.logs = [g] ∧ g.epoch ≤ e)
    (hh : ChAt w base q G h) (hv : RdBts w w.heap.size (fun _ => False) v l) :
    Calls Tryz.prog 11 #[.pointer (some ⟨q, 0, none⟩), .int .i64 e, .int .i64 b, v] w fun o w' => ∃ G', o = .returned (.int .i64 (h.lay e b (l.map (·.t))).1) ∧ ChAt w' base q G' (h.lay e b (l.map (·.t))).2 ∧ (∀ i, G' i → G i ∨ w.heap.size ≤ i) ∧ Mv G w w' := by
  obtain ⟨qb, p, mb, Gb, Gf, bk, L, k⟩ := hh
  obtain ⟨A, c, rfl, -, -⟩ := hv.at
  obtain ⟨w1, hw1⟩ : ∃ w1, w1 = w.alloc (.cells #[.int .i64 b] 3) := ⟨_, rfl⟩
  have hb1 : Below w.heap.size w w1 := by rw [hw1]; exact (Below.refl _ w).alloc (Nat.le_refl _) _
  have hri : RdI w1 w1.heap.size (.slice (some ⟨w.heap.size, 0, none⟩) 1 1) [b] := by rw [hw1]; exact RdI.oneN w b
  have k1 := k.new hb1
  have HRF := Lib.hid (href_any q e [b] _ w1 (k1.at_.cell 3 _ rfl) he.1 hri (fun n hn => by rw [List.mem_singleton.1 hn]; exact hb.1) (by simp))
  have HK := Lib.hid k
  have HV := Lib.hid hv
  have HB1 := Lib.hid hb1
  have HT := Lib.hid ht
  have HC := Lib.hid hc
  have HS := Lib.hid hs
  have HQ := Lib.hid hq
  have HE := Lib.hid he
  have HBB := Lib.hid hb
  clear k k1 hv hb1 hri ht hc hs hq he hb
  obtain ⟨POST, hP⟩ : ∃ POST : Ending → World → Prop, POST = fun o w' => ∃ G', o = .returned (.int .i64 (h.lay e b (l.map (·.t))).1) ∧ ChAt w' base q G' (h.lay e b (l.map (·.t))).2 ∧ (∀ i, G' i → G i ∨ w.heap.size ≤ i) ∧ Mv G w w' := ⟨_, rfl⟩
  rw [← hP]
  have HP := Lib.hid hP
  clear hP
  obtain ⟨lock, hlock⟩ : ∃ lock, lock = h.lock := ⟨_, rfl⟩
  have HLK := Lib.hid hlock
  clear hlock
  go_enter Tryz.func11, Tryz.ntmps11
  go_wp2_with fail
  rw [← hw1]
  clear hw1
  refine HRF.out.mono ?_
  rintro o w2 ⟨rfl, hb2⟩
  have HB2 := Lib.hid (HB1.out.trans (hb2.mono HB1.out.size))
  have k2 := HK.out.new HB2.out
  have a1 := k2.at_.cell 1 _ rfl
  rw [← HLK.out] at a1
  clear hb2 HB1 HRF k2
  by_cases hlt : e < lock
  · go_wp2_with fail
    show POST (.returned (.int .i64 15)) w2
    have hlt' : e < h.lock := by rw [← HLK.out]; exact hlt
    rw [HP.out, Ch.lay_locked h e b _ hlt']
    exact ⟨G, rfl, HK.out.more HB2.out rfl rfl rfl (by simp [Ch.more]), fun i hi => .inl hi, Mv.of_new HB2.out G⟩
  have hca := hcheckAll_any l (.slice A l.length c) (fun _ => False) w2 (HV.out.next HB2.out (fun _ _ k => k)) hl HT.out
  have HCA := Lib.hid hca
  clear hca
  go_wp2_with fail
  clear a1
  refine HCA.out.mono ?_
  rintro o w3 ⟨rfl, hb3⟩
  have HB3 := Lib.hid (HB2.out.trans (hb3.mono HB2.out.size))
  have HFR := Lib.hid (hfresh_any l (.slice A l.length c) w3 (HV.out.next HB3.out (fun _ _ k => k)) (by omega) (fun x hx => (HT.out x hx).sound.2.1))
  clear hb3 HCA
  go_wp2_with fail
  refine HFR.out.mono ?_
  rintro o w4 ⟨v4, l', rfl, hl', hrow, hb4⟩
  obtain ⟨A4, c4, rfl⟩ := hrow.form
  have hll : l'.length = l.length := by have := congrArg List.length hl'; simpa using this
  obtain ⟨w5, hw5⟩ : ∃ w5, w5 = w4.alloc (.cells #[.int .i64 2, .int .i64 e, .int .i64 b, .int .i64 0, .slice A4 l'.length c4] 65) := ⟨_, rfl⟩
  have hb5 : Below w4.heap.size w4 w5 := by rw [hw5]; exact (Below.refl _ w4).alloc (Nat.le_refl _) _
  have hR5 : Whole w5 w4.heap.size 65 [.int .i64 2, .int .i64 e, .int .i64 b, .int .i64 0, .slice A4 l'.length c4] := by rw [hw5]; exact Whole.fresh w4 _ [_, _, _, _, _]
  have hrd4 := hrow.bts
  have hbe := hbegin_any 2 e b 0 l' A4 c4 (fun i => i < w3.heap.size) w5 (hrd4.next hb5 (fun _ _ k => k)) (by rw [hl']; exact HC.out) (by rw [hll]; exact hl)
  rw [hl'] at hbe
  have HBE := Lib.hid hbe
  have HB4 := Lib.hid (HB3.out.trans (hb4.mono HB3.out.size))
  have HB5 := Lib.hid ((HB3.out.trans (hb4.mono HB3.out.size)).trans (hb5.mono (HB3.out.trans (hb4.mono HB3.out.size)).size))
  have H34 := Lib.hid (And.intro HB3.out.size (And.intro hb4.size hb5.size))
  have HRD4 := Lib.hid hrd4
  have HR5 := Lib.hid hR5
  have HL' := Lib.hid (And.intro hl' hll)
  have HB45 := Lib.hid hb5
  obtain ⟨n4, hn4⟩ : ∃ n4, n4 = l'.length := ⟨_, rfl⟩
  rw [← hn4] at hw5 HBE HR5 HRD4 ⊢
  have HN4 := Lib.hid hn4
  clear hl' hrow hb4 hll hb5 hR5 hrd4 hbe HFR hn4
  unfold rcv lgv at HBE
  go_wp2_with fail
  rw [← hw5]
  clear hw5
  refine HBE.out.mono ?_
  rintro o w6 ⟨A6, n6, c6, rfl, hn6, ho6, hb6⟩
  obtain ⟨kk, hkk⟩ : ∃ kk, kk = knownB 0 (l.map (·.t)) := ⟨_, rfl⟩
  rw [← hkk]
  obtain ⟨w7, hw7⟩ : ∃ w7, w7 = w6.alloc (.cells #[.int .i64 2, .int .i64 e, .int .i64 b, .int .i64 0, .slice A4 n4 c4, .int .i64 b, .int .i64 kk, .slice A6 n6 c6] 73) := ⟨_, rfl⟩
  have hb7 : Below w6.heap.size w6 w7 := by rw [hw7]; exact (Below.refl _ w6).alloc (Nat.le_refl _) _
  have hY7 : Whole w7 w6.heap.size 73 [.int .i64 2, .int .i64 e, .int .i64 b, .int .i64 0, .slice A4 n4 c4, .int .i64 b, .int .i64 kk, .slice A6 n6 c6] := by rw [hw7]; exact Whole.fresh w6 _ [.int .i64 2, .int .i64 e, .int .i64 b, .int .i64 0, .slice A4 n4 c4, .int .i64 b, .int .i64 kk, .slice A6 n6 c6]
  have hR7 := (HR5.out.below hb6 HR5.out.size).below hb7 (Nat.lt_of_lt_of_le HR5.out.size hb6.size)
  obtain ⟨rb, hrb⟩ : ∃ rb, rb = w4.heap.size := ⟨_, rfl⟩
  obtain ⟨yb, hyb⟩ : ∃ yb, yb = w6.heap.size := ⟨_, rfl⟩
  rw [← hrb] at hR7 ⊢
  rw [← hyb] at hY7
  have hB6 := HB5.out.trans (hb6.mono HB5.out.size)
  have hB7 := hB6.trans (hb7.mono hB6.size)
  have k7 := HK.out.new hB7
  have a2 := k7.at_.cell 2 _ rfl
  have HY7 := Lib.hid hY7
  have HR7 := Lib.hid hR7
  have HB7 := Lib.hid hB7
  have HO6 := Lib.hid (And.intro hn6 (And.intro ho6 hb6))
  have HKK := Lib.hid hkk
  have HSZ := Lib.hid (And.intro hrb (And.intro hyb (And.intro hb6.size (And.intro hb7.size hb7))))
  have hmp := k7.map
  clear hn6 ho6 hb6 hkk hb7 hY7 hR7 hB6 hB7 k7 HBE hrb
  have hcase : (∀ x ∈ L, x.g.epoch < e) ∨ ∃ x, L = [x] ∧ x.g.epoch = e := by
    rcases HQ.out with h1 | h1 | ⟨g, h1, h2⟩
    · exact absurd h1 (by rw [← HLK.out]; omega)
    · refine .inl fun x hx => ?_
      have := HK.out.logs
      rw [h1, List.map_eq_nil_iff] at this
      rw [this] at hx
      cases hx
    · obtain ⟨x, rfl, rfl⟩ := HK.out.one h1
      rcases Int.lt_or_eq_of_le h2 with h3 | h3
      · exact .inl fun y hy => by rw [List.mem_singleton.1 hy]; exact h3
      · exact .inr ⟨x, rfl, h3⟩
  rcases hcase with hall | ⟨x, rfl, hxe⟩
  · have hlk := hmp.miss (P := Tryz.prog) Tryz.underlying59 Tryz.underlying3 (k := e) (z := .agg #[.int .i64 0, .int .i64 0, .int .i64 0, .int .i64 0, .slice none 0 0, .int .i64 0, .int .i64 0, .slice none 0 0]) (fun y hy => by obtain ⟨x, hx, rfl⟩ := List.mem_map.1 hy; have := hall x hx; show x.g.epoch ≠ e; omega) (by kernel_rfl) true
    simp only [if_true] at hlk
    rw [hw7] at hlk a2
    obtain ⟨w8, hw8⟩ : ∃ w8, w8 = w7.alloc (.cells #[.int .i64 0, .int .i64 0, .int .i64 0, .int .i64 0, .slice none 0 0, .int .i64 0, .int .i64 0, .slice none 0 0] 73) := ⟨_, rfl⟩
    have hb8 : Below w7.heap.size w7 w8 := by rw [hw8]; exact (Below.refl _ w7).alloc (Nat.le_refl _) _
    have hB8 := HB7.out.trans (hb8.mono HB7.out.size)
    have k8 := HK.out.new hB8
    have hY8 := HY7.out.below hb8 HY7.out.size
    have hR8 := HR7.out.below hb8 HR7.out.size
    have hHALL := Lib.hid hall
    have hOK : (⟨2, e, b, 0, l.map (·.t)⟩ : Rc).Ok := Rc.mkOk in2 ⟨by have := HE.out.1; omega, HE.out.2⟩ HBB.out in0 (fun y hy => by obtain ⟨x, hx, rfl⟩ := List.mem_map.1 hy; exact HT.out x hx) (by rw [List.length_map]; exact hl)
    have hbka := k8.room.add (h' := ⟨h.logs ++ [⟨e, b, b, kk, l.map (·.t), l.map (·.t)⟩], h.lock, h.units + (1 + (l.map (·.t)).length), h.room⟩) _ hOK (1 + l.length) (by show 1 + (l.map (·.t)).length ≤ _; rw [List.length_map]; exact Nat.le_refl _) HS.out rfl (by show h.units + _ = _; rw [List.length_map])
    have hbkl : bk.l.length ≤ 4000000 := by
      have h1 := k8.room.num
      have h2 := k8.room.big
      have h3 := HS.out
      unfold Ch.Spare at h3
      omega
    have hrd8 : RdBts w8 w8.heap.size (fun i => i < w3.heap.size) (.slice A4 n4 c4) l' := (((HRD4.out.next HB45.out (fun _ _ k => k)).next HO6.out.2.2 (fun _ _ k => k)).next HSZ.out.2.2.2.2 (fun _ _ k => k)).next hb8 (fun _ _ k => k)
    have hAD := hadd_any base q qb p mb Gb bk h.lock (L.map LgV.pr) ⟨2, e, b, 0, l.map (·.t)⟩ l' A4 c4 (fun i => i < w3.heap.size) 2 e b 0 A4 n4 c4 b kk A6 n6 c6 w8 k8.bk k8.at_ k8.map ⟨k8.nq.1, k8.nm.1⟩ hOK HL'.out.1 (by rw [← HN4.out]; exact hrd8) hbka.1 hbkl
    rw [← HN4.out] at hAD
    unfold rcv lgv at hAD
    simp only at hAD
    have HAD := Lib.hid hAD
    have HBK := Lib.hid hbka.2
    have HK8 := Lib.hid k8
    have HB8 := Lib.hid hB8
    have HRD8 := Lib.hid hrd8
    have HZ8 := Lib.hid hb8
    have y0 := hY8.cell 0 _ rfl
    have y1 := hY8.cell 1 _ rfl
    have y2 := hY8.cell 2 _ rfl
    have y3 := hY8.cell 3 _ rfl
    have y4 := hY8.cell 4 _ rfl
    have y5 := hY8.cell 5 _ rfl
    have y6 := hY8.cell 6 _ rfl
    have y7 := hY8.cell 7 _ rfl
    have r0 := hR8.cell 0 _ rfl
    have r1 := hR8.cell 1 _ rfl
    have r2 := hR8.cell 2 _ rfl
    have r3 := hR8.cell 3 _ rfl
    have r4 := hR8.cell 4 _ rfl
    rw [hw8, hw7, hyb] at y0 y1 y2 y3 y4 y5 y6 y7
    rw [hw8, hw7] at r0 r1 r2 r3 r4
    have HRBS := Lib.hid hR8.size
    clear k8 hY8 hR8 hOK hbka hbkl hrd8 hAD hB8 hmp hall hb8
    go_wp2_with fail
    rw [← hw7, ← hw8]
    clear hw7 hw8 hlk a2 y0 y1 y2 y3 y4 y5 y6 y7 r0 r1 r2 r3 r4 hyb
    refine HAD.out.mono ?_
    rintro o w9 ⟨rfl, hq9, ⟨Gb', hk9, hg9, hn9⟩, hm9, hmv9⟩
    have HFIN : POST (.returned (.int .i64 0)) w9 := by
      have hlt' : ¬ e < h.lock := by rw [← HLK.out]; omega
      have hep : ∀ g ∈ h.logs, g.epoch < e := fun g hg => by
        rw [← HK8.out.logs] at hg
        obtain ⟨x, hx, rfl⟩ := List.mem_map.1 hg
        exact hHALL.out x hx
      rw [HP.out, Ch.lay_new hlt' hep, ← HKK.out]
      have kk8 := HK8.out
      have kw := HK.out
      have s3 := H34.out
      have s6 := HSZ.out
      have s8 := HZ8.out.size
      have sK := HB8.out.size
      have hGl := kw.low.2
      have hgf : ∀ i, Gf i → i < w.heap.size := fun i hi => (hGl i (kw.gf i hi)).2
      have hgb : ∀ i, Gb i → i < w.heap.size := fun i hi => (hGl i (kw.gb i hi).1).2
      have hqs : q < w.heap.size := kw.at_.size
      have hms : mb < w.heap.size := kw.map.size
      have hg9' : ∀ i, Gb' i → Gb i ∨ w8.heap.size ≤ i := hg9
      have ho8 : OwnBt w8 w5.heap.size (.slice A6 n6 c6) l' := Own.below (Own.below HO6.out.2.1 s6.2.2.2.2 (Nat.le_refl _)) HZ8.out (Nat.le_refl _)
      have hol := fun g (hg : Value.ownBlock (.slice A6 n6 c6) = some g) => Own.low HO6.out.2.1 hg
      have hnew : LgIs w8 base (fun i => Gf i ∨ (w3.heap.size ≤ i ∧ i < w4.heap.size)) ⟨⟨e, b, b, kk, l.map (·.t), l.map (·.t)⟩, l', A4, c4, l', A6, c6⟩ := by
        have hmo : ∀ i, i < w4.heap.size → (¬ (Gf i ∨ (w3.heap.size ≤ i ∧ i < w4.heap.size))) → i < w3.heap.size := fun i h1 h2 => by
          rcases Nat.lt_or_ge i w3.heap.size with h | h
          · exact h
          · exact absurd (.inr ⟨h, h1⟩) h2
        have hrd4 : RdBts w4 w4.heap.size (fun i => ¬ (Gf i ∨ (w3.heap.size ≤ i ∧ i < w4.heap.size))) (.slice A4 n4 c4) l' := HRD4.out.mono (Nat.le_refl _) hmo
        have hrd : RdBts w8 w8.heap.size (fun i => ¬ (Gf i ∨ (w3.heap.size ≤ i ∧ i < w4.heap.size))) (.slice A4 n4 c4) l' := (((hrd4.next HB45.out (fun _ _ k => k)).next HO6.out.2.2 (fun _ _ k => k)).next s6.2.2.2.2 (fun _ _ k => k)).next HZ8.out (fun _ _ k => k)
        rw [HN4.out] at hrd
        refine ⟨HL'.out.1, HL'.out.1, hrd, ?_, ?_, hrd.parts, ?_⟩
        · unfold LgV.hv
          simp only
          have hw := Own.lower ho8 (base' := base) (Nat.le_trans kw.low.1 (by omega))
          rw [HO6.out.1, HN4.out] at hw
          exact hw
        · intro g hg
          unfold LgV.hv at hg
          simp only at hg
          have := (hol g (by rw [HO6.out.1, HN4.out]; exact hg)).1
          rintro (hx | hx)
          · have := hgf g hx; omega
          · omega
        · have hto : ∀ y ∈ l.map (·.t), y.Tiny := fun y hy => by obtain ⟨x, hx, rfl⟩ := List.mem_map.1 hy; exact HT.out x hx
          have hkn := knownB_ge 0 (l.map (·.t))
          rw [← HKK.out] at hkn
          have hkl := knownB_lt 0 (l.map (·.t)) (by decide) hto
          rw [← HKK.out] at hkl
          exact ⟨HE.out, HBB.out, HBB.out, ⟨hkn.1, hkl⟩, hto, hto, by show (l.map (·.t)).length ≤ 24; rw [List.length_map]; exact hl, by show (l.map (·.t)).length ≤ 24; rw [List.length_map]; exact hl, HC.out, hkn.2⟩
      have hdis : ∀ i, (Gf i ∨ (w3.heap.size ≤ i ∧ i < w4.heap.size)) → ¬ (Gb i ∨ i = q ∨ i = mb) := fun i hi hd => by
        rcases hi with hi | hi
        · rcases hd with hd | hd | hd
          · exact (kw.gb i hd).2 hi
          · exact kw.nq.2.1 (hd ▸ hi)
          · exact kw.nm.2.1 (hd ▸ hi)
        · rcases hd with hd | hd | hd
          · have := hgb i hd; omega
          · omega
          · omega
      have hol9 : ∀ g, Value.ownBlock (LgV.hv ⟨⟨e, b, b, kk, l.map (·.t), l.map (·.t)⟩, l', A4, c4, l', A6, c6⟩) = some g → w5.heap.size ≤ g ∧ g < w6.heap.size := fun g hg => by
        unfold LgV.hv at hg
        simp only at hg
        exact hol g (by rw [HO6.out.1, HN4.out]; exact hg)
      have hnew9 := hnew.mv hmv9 hdis (fun g hg hd => by
        have := hol9 g hg
        rcases hd with hd | hd | hd
        · have := hgb g hd; omega
        · omega
        · omega)
      have hold9 : ∀ x ∈ L, LgIs w9 base (fun i => Gf i ∨ (w3.heap.size ≤ i ∧ i < w4.heap.size)) x := fun x hx => by
        have h1 := (kk8.log x hx).mv hmv9 (fun i hi => hdis i (.inl hi)) (fun g hg hd => by
          have := kw.own x hx g hg
          rcases hd with hd | hd | hd
          · exact this.1 hd
          · exact this.2.1 hd
          · exact this.2.2.1 hd)
        refine ⟨h1.fe, h1.he, h1.first.mono (Nat.le_refl _) (fun i _ hi hf => hi (.inl hf)), h1.own, fun g hg hf => ?_, fun y hy => (h1.parts y hy).mono (Nat.le_refl _) (fun i _ hi hf => hi (.inl hf)), h1.ok⟩
        rcases hf with hf | hf
        · exact h1.no g hg hf
        · have := hGl g (kw.own x hx g hg).2.2.2; omega
      have hmapL : offI e (L.map LgV.pr) = L.map LgV.pr := List.filter_eq_self.2 (fun y hy => by
        obtain ⟨x, hx, rfl⟩ := List.mem_map.1 hy
        have := hHALL.out x hx
        show decide (x.g.epoch ≠ e) = true
        simp only [decide_eq_true_eq]
        omega)
      rw [hmapL] at hm9
      have hm9' : MapI w9 mb ((L ++ [(⟨⟨e, b, b, kk, l.map (·.t), l.map (·.t)⟩, l', A4, c4, l', A6, c6⟩ : LgV)]).map LgV.pr) := by
        rw [List.map_append]
        refine MapI.perm (L := _ :: L.map LgV.pr) ?_ (List.perm_append_comm (l₁ := [_]) (l₂ := L.map LgV.pr))
        have e1 : LgV.pr ⟨⟨e, b, b, kk, l.map (·.t), l.map (·.t)⟩, l', A4, c4, l', A6, c6⟩ = (e, .agg #[.int .i64 2, .int .i64 e, .int .i64 b, .int .i64 0, .slice A4 n4 c4, .int .i64 b, .int .i64 kk, .slice A6 n6 c6]) := by
          unfold LgV.pr LgV.v lgv LgV.fv LgV.hv
          simp only
          rw [HO6.out.1, HN4.out]
        rw [e1]
        exact hm9
      have hsz9 : w8.heap.size ≤ w9.heap.size := hmv9.size
      refine ⟨fun i => G i ∨ (w.heap.size ≤ i ∧ i < w9.heap.size), rfl, ⟨qb, p, mb, Gb', fun i => Gf i ∨ (w3.heap.size ≤ i ∧ i < w4.heap.size), (bk.add [(⟨2, e, b, 0, l.map (·.t)⟩ : Rc).B]).2, L ++ [⟨⟨e, b, b, kk, l.map (·.t), l.map (·.t)⟩, l', A4, c4, l', A6, c6⟩], ?_⟩, fun i hi => hi.elim .inl (fun h => .inr h.1), ((Mv.of_new HB8.out G).trans hmv9 (fun i _ hd => by
        rcases hd with hd | rfl | rfl
        · exact (kw.gb i hd).1
        · exact kw.nq.2.2
        · exact kw.nm.2.2.1))⟩
      have hgb9 : ∀ i, Gb' i → (G i ∨ (w.heap.size ≤ i ∧ i < w9.heap.size)) ∧ ¬ (Gf i ∨ (w3.heap.size ≤ i ∧ i < w4.heap.size)) := fun i hi => by
        have hl9 := (hk9.low.2 i hi).2
        rcases hg9' i hi with hx | hx
        · refine ⟨.inl (kw.gb i hx).1, fun hf => hdis i hf (.inl hx)⟩
        · refine ⟨.inr ⟨by omega, hl9⟩, fun hf => ?_⟩
          rcases hf with hf | hf
          · have := hgf i hf; omega
          · omega
      refine ⟨hq9, hk9, hm9', ?_, ?_, ?_, HBK.out, kw.lk, ⟨hn9.1, fun hf => hdis q hf (.inr (.inl rfl)), .inl kw.nq.2.2⟩, ⟨hn9.2, fun hf => hdis mb hf (.inr (.inr rfl)), .inl kw.nm.2.2.1, kw.nm.2.2.2⟩, hgb9, ?_, Nat.le_trans kw.low.1 (by omega), ?_⟩
      · rw [List.map_append, kw.logs]; rfl
      · intro x hx
        rcases List.mem_append.1 hx with hx | hx
        · exact hold9 x hx
        · rw [List.mem_singleton.1 hx]; exact hnew9
      · intro x hx g hg
        rcases List.mem_append.1 hx with hx | hx
        · have h1 := kw.own x hx g hg
          refine ⟨fun hd => ?_, h1.2.1, h1.2.2.1, .inl h1.2.2.2⟩
          rcases hg9' g hd with hd | hd
          · exact h1.1 hd
          · have := hGl g h1.2.2.2; omega
        · rw [List.mem_singleton.1 hx] at hg
          have h1 := hol9 g hg
          refine ⟨fun hd => ?_, by omega, by omega, .inr ⟨by omega, by omega⟩⟩
          rcases hg9' g hd with hd | hd
          · have := hgb g hd; omega
          · omega
      · rintro i (hi | hi)
        · exact .inl (kw.gf i hi)
        · exact .inr ⟨by omega, by omega⟩
      · rintro i (hi | hi)
        · exact ⟨(hGl i hi).1, by have := (hGl i hi).2; omega⟩
        · exact ⟨Nat.le_trans kw.low.1 hi.1, hi.2⟩
    have HFN := Lib.hid HFIN
    clear hq9 hk9 hg9 hn9 hm9 hmv9 HFIN HAD
    go_wp2_with fail
    exact HFN.out
  · have hxm : x ∈ [x] := List.mem_singleton.2 rfl
    have hlk := hmp.look (P := Tryz.prog) Tryz.underlying59 Tryz.underlying3 (k := x.g.epoch) (v := x.v) (List.mem_singleton.2 rfl) true
    simp only [if_true] at hlk
    have hrow := (HK.out.log x hxm).ok.row
    have hfe := (HK.out.log x hxm).fe
    have hfi := fun W (hW : Below w.heap.size w W) => ((HK.out.log x hxm).first.next hW (fun _ _ k => k))
    have hby := fun W (hW : Below w.heap.size w W) => hbytes_any x.g.row x.f x.fv (fun i => ¬ Gf i) W hrow hfe (hfi W hW)
    have hinj : (x.g.row.B = (⟨2, e, b, 0, l.map (·.t)⟩ : Rc).B) ↔ (x.g.base = b ∧ x.g.first = l.map (·.t)) := by
      have hOK : (⟨2, e, b, 0, l.map (·.t)⟩ : Rc).Ok := Rc.mkOk in2 ⟨by have := HE.out.1; omega, HE.out.2⟩ HBB.out in0 (fun y hy => by obtain ⟨x, hx, rfl⟩ := List.mem_map.1 hy; exact HT.out x hx) (by rw [List.length_map]; exact hl)
      refine ⟨fun hB => Rc.B_inj hrow hOK hB, fun ⟨h1, h2⟩ => ?_⟩
      unfold Lg.row
      rw [h1, h2, hxe]
    have hlay := Ch.lay_same x.g h.lock h.units h.room b (l.map (·.t)) (by rw [hxe, ← HLK.out]; omega)
    have hlogs : h.logs = [x.g] := HK.out.logs.symm
    have hhe : h = ⟨[x.g], h.lock, h.units, h.room⟩ := by rw [← hlogs]
    rw [← hhe, hxe] at hlay
    have HLAY := Lib.hid hlay
    have HINJ := Lib.hid hinj
    rw [LgV.v_eq] at hlk
    unfold rcv LgV.fv at hby
    unfold Lg.row at hby
    simp only at hby
    obtain ⟨P1, hP1⟩ : ∃ P1, P1 = x.g.row.B := ⟨_, rfl⟩
    unfold Lg.row at hP1
    rw [← hP1] at hby
    have HP1 := Lib.hid (show P1 = x.g.row.B from hP1)
    rw [hxe] at hlk hby
    obtain ⟨ba, hba⟩ : ∃ ba, ba = x.g.base := ⟨_, rfl⟩
    obtain ⟨go, hgo⟩ : ∃ go, go = x.g.gone := ⟨_, rfl⟩
    obtain ⟨kn, hkn⟩ : ∃ kn, kn = x.g.known := ⟨_, rfl⟩
    obtain ⟨fl, hfl⟩ : ∃ fl, fl = x.f.length := ⟨_, rfl⟩
    obtain ⟨hl2, hhl⟩ : ∃ hl2, hl2 = x.h.length := ⟨_, rfl⟩
    obtain ⟨F, hF⟩ : ∃ F, F = x.F := ⟨_, rfl⟩
    obtain ⟨H, hH⟩ : ∃ H, H = x.H := ⟨_, rfl⟩
    obtain ⟨nf, hnf⟩ : ∃ nf, nf = x.nf := ⟨_, rfl⟩
    obtain ⟨nh, hnh⟩ : ∃ nh, nh = x.nh := ⟨_, rfl⟩
    rw [← hba, ← hgo, ← hkn, ← hfl, ← hhl, ← hF, ← hH, ← hnf, ← hnh] at hlk
    simp only [← hba, ← hfl, ← hF, ← hnf] at hby
    have HBY := Lib.hid hby
    obtain ⟨w8, hw8⟩ : ∃ w8, w8 = w7.alloc (.cells #[.int .i64 2, .int .i64 e, .int .i64 ba, .int .i64 0, .slice F fl nf, .int .i64 go, .int .i64 kn, .slice H hl2 nh] 73) := ⟨_, rfl⟩
    have hb8 : Below w7.heap.size w7 w8 := by rw [hw8]; exact (Below.refl _ w7).alloc (Nat.le_refl _) _
    have hX8 : Whole w8 w7.heap.size 73 [.int .i64 2, .int .i64 e, .int .i64 ba, .int .i64 0, .slice F fl nf, .int .i64 go, .int .i64 kn, .slice H hl2 nh] := by rw [hw8]; exact Whole.fresh w7 _ [_, _, _, _, _, _, _, _]
    have hB8 := HB7.out.trans (hb8.mono HB7.out.size)
    have hR8 := HR7.out.below hb8 HR7.out.size
    obtain ⟨ob, hob⟩ : ∃ ob, ob = w7.heap.size := ⟨_, rfl⟩
    rw [← hob] at hX8
    obtain ⟨wd, hwd⟩ : ∃ wd, wd = w8.drew := ⟨_, rfl⟩
    have hbd : Below w8.heap.size w8 wd := by rw [hwd]; exact (Below.refl _ w8).drew
    have hBd := hB8.trans (hbd.mono hB8.size)
    have hXd := hX8.below hbd hX8.size
    have hRd := hR8.below hbd hR8.size
    have hC : ∀ W, Below wd.heap.size wd W → (W.cell? ⟨ob, 0, none⟩ = some (.int .i64 2) ∧ W.cell? ⟨ob, 1, none⟩ = some (.int .i64 e) ∧ W.cell? ⟨ob, 2, none⟩ = some (.int .i64 ba) ∧ W.cell? ⟨ob, 3, none⟩ = some (.int .i64 0) ∧ W.cell? ⟨ob, 4, none⟩ = some (.slice F fl nf)) ∧ (W.cell? ⟨rb, 0, none⟩ = some (.int .i64 2) ∧ W.cell? ⟨rb, 1, none⟩ = some (.int .i64 e) ∧ W.cell? ⟨rb, 2, none⟩ = some (.int .i64 b) ∧ W.cell? ⟨rb, 3, none⟩ = some (.int .i64 0) ∧ W.cell? ⟨rb, 4, none⟩ = some (.slice A4 n4 c4)) := fun W hW => by
      have g1 := hXd.below hW hXd.size
      have g2 := hRd.below hW hRd.size
      exact ⟨⟨g1.cell 0 _ rfl, g1.cell 1 _ rfl, g1.cell 2 _ rfl, g1.cell 3 _ rfl, g1.cell 4 _ rfl⟩, g2.cell 0 _ rfl, g2.cell 1 _ rfl, g2.cell 2 _ rfl, g2.cell 3 _ rfl, g2.cell 4 _ rfl⟩
    have HCL := Lib.hid hC
    have HBD := Lib.hid hBd
    have hrd : RdBts wd wd.heap.size (fun i => i < w3.heap.size) (.slice A4 n4 c4) l' := ((((HRD4.out.next HB45.out (fun _ _ k => k)).next HO6.out.2.2 (fun _ _ k => k)).next HSZ.out.2.2.2.2 (fun _ _ k => k)).next hb8 (fun _ _ k => k)).next hbd (fun _ _ k => k)
    have HRDD := Lib.hid hrd
    rw [hw7] at hlk a2
    have hob2 : ob = w6.heap.size + 1 := by rw [hob, hw7]; simp
    clear hob
    clear hmp hrow hfe hfi hby hinj hlay hlogs hhe hba hgo hkn hfl hhl hF hH hnf hnh hb8 hX8 hB8 hR8 hbd hBd hXd hRd hC hrd hP1
    go_wp2_with fail
    rw [← hw7, ← hw8, ← hob2]
    refine wp_region_planB [(true, 0), (true, 1), (true, 3), (false, 2), (false, 4), (false, 5), (true, 6), (true, 7)] (by kernel_rfl) (by kernel_rfl) (fun _ _ d _ _ h => by cases d <;> exact h) ?_
    rw [← hwd]
    clear hw7 hw8 hwd hlk a2 hob2 hyb
    (refine PlanB.take (v := ?_) rfl rfl ?_ ?_; rotate_left; (focus (intro W hW; obtain ⟨⟨k0, k1, k2, k3, k4⟩, k5, k6, k7, k8, k9⟩ := HCL.out W hW; go_simp; (try with_reducible rfl); done)); (try simp only [Act.put, List.setIfInBounds_toArray, List.set_cons_zero, List.set_cons_succ]))
    (refine PlanB.take (v := ?_) rfl rfl ?_ ?_; rotate_left; (focus (intro W hW; obtain ⟨⟨k0, k1, k2, k3, k4⟩, k5, k6, k7, k8, k9⟩ := HCL.out W hW; go_simp; (try with_reducible rfl); done)); (try simp only [Act.put, List.setIfInBounds_toArray, List.set_cons_zero, List.set_cons_succ]))
    (refine PlanB.take (v := ?_) rfl rfl ?_ ?_; rotate_left; (focus (intro W hW; obtain ⟨⟨k0, k1, k2, k3, k4⟩, k5, k6, k7, k8, k9⟩ := HCL.out W hW; go_simp; (try with_reducible rfl); done)); (try simp only [Act.put, List.setIfInBounds_toArray, List.set_cons_zero, List.set_cons_succ]))
    refine PlanB.step rfl rfl (fun Kk hK => ?_)
    go_simp
    go_at_call 30
    refine (HBY.out wd HBD.out).mono ?_
    rintro o w9 ⟨v9, rfl, ho9, hb9⟩
    refine hK.out _ _ hb9 ?_
    obtain ⟨A9, c9, rfl, -, -⟩ := (OwnB.rdB ho9).at
    have HO9 := Lib.hid ho9
    have HB9 := Lib.hid hb9
    have hby2 := hbytes_any ⟨2, e, b, 0, l.map (·.t)⟩ l' (.slice A4 n4 c4) (fun i => i < w3.heap.size) w9 (Rc.mkOk in2 ⟨by have := HE.out.1; omega, HE.out.2⟩ HBB.out in0 (fun y hy => by obtain ⟨x, hx, rfl⟩ := List.mem_map.1 hy; exact HT.out x hx) (by rw [List.length_map]; exact hl)) HL'.out.1 (HRDD.out.next hb9 (fun _ _ k => k))
    unfold rcv at hby2
    simp only at hby2
    have HBY2 := Lib.hid hby2
    clear hK Kk ho9 hb9 hby2
    (try simp only [Act.put, List.setIfInBounds_toArray, List.set_cons_zero, List.set_cons_succ])
    refine PlanB.step rfl rfl (fun Kk hK => ?_)
    go_simp
    go_at_call 30
    refine HBY2.out.mono ?_
    rintro o w10 ⟨v10, rfl, ho10, hb10⟩
    refine hK.out _ _ hb10 ?_
    obtain ⟨A10, c10, rfl, -, -⟩ := (OwnB.rdB ho10).at
    obtain ⟨P2, hP2⟩ : ∃ P2, P2 = (⟨2, e, b, 0, l.map (·.t)⟩ : Rc).B := ⟨_, rfl⟩
    rw [← hP2] at ho10 ⊢
    have heq := bequal_any P1 P2 (.slice A9 P1.length c9) (.slice A10 P2.length c10) w10 (OwnB.rdB (Own.below HO9.out hb10 (Nat.le_refl _))) (OwnB.rdB ho10)
    have HEQ := Lib.hid heq
    have HB10 := Lib.hid (HB9.out.trans (hb10.mono HB9.out.size))
    have HP2 := Lib.hid hP2
    clear hK Kk ho10 hb10 heq hP2 HBY2
    (try simp only [Act.put, List.setIfInBounds_toArray, List.set_cons_zero, List.set_cons_succ])
    refine PlanB.step rfl rfl (fun Kk hK => ?_)
    go_simp
    go_at_call 29
    refine HEQ.out.mono ?_
    rintro o w11 ⟨rfl, hb11⟩
    refine hK.out _ _ hb11 ?_
    have HB11 := Lib.hid (HBD.out.trans ((HB10.out.trans (hb11.mono HB10.out.size)).mono HBD.out.size))
    clear hK Kk hb11
    (try simp only [Act.put, List.setIfInBounds_toArray, List.set_cons_zero, List.set_cons_succ])
    have HIF := Lib.hid HINJ.out
    rw [← HP1.out, ← HP2.out] at HIF
    have hfin : ∀ o, o = .returned (.int .i64 (if P1 = P2 then 0 else 13)) → POST o w11 := fun o ho => by
      rw [HP.out, HLAY.out]
      refine ⟨G, ?_, HK.out.more HB11.out (HK.out.logs) rfl rfl (by show h.units ≤ h.units + _; omega), fun i hi => .inl hi, Mv.of_new HB11.out G⟩
      rw [ho]
      simp only [HIF.out]
    have HFN := Lib.hid hfin
    clear hfin HIF
    by_cases hE : P1 = P2
    · rw [decide_eq_true hE]
      have hF1 := HFN.out _ (by rw [if_pos hE])
      have HF1 := Lib.hid hF1
      clear hF1 HFN
      (refine PlanB.take (v := ?_) rfl rfl ?_ ?_; rotate_left; (focus (intro W hW; go_simp; (try with_reducible rfl); done)); (try simp only [Act.put, List.setIfInBounds_toArray, List.set_cons_zero, List.set_cons_succ]))
      (refine PlanB.take (v := ?_) rfl rfl ?_ ?_; rotate_left; (focus (intro W hW; go_simp; (try with_reducible rfl); done)); (try simp only [Act.put, List.setIfInBounds_toArray, List.set_cons_zero, List.set_cons_succ]))
      simp only [PlanB]
      go_wp2_with fail
      exact HF1.out
    · rw [decide_eq_false hE]
      have hF1 := HFN.out _ (by rw [if_neg hE])
      have HF1 := Lib.hid hF1
      clear hF1 HFN
      (refine PlanB.take (v := ?_) rfl rfl ?_ ?_; rotate_left; (focus (intro W hW; go_simp; (try with_reducible rfl); done)); (try simp only [Act.put, List.setIfInBounds_toArray, List.set_cons_zero, List.set_cons_succ]))
      (refine PlanB.take (v := ?_) rfl rfl ?_ ?_; rotate_left; (focus (intro W hW; go_simp; (try with_reducible rfl); done)); (try simp only [Act.put, List.setIfInBounds_toArray, List.set_cons_zero, List.set_cons_succ]))
      simp only [PlanB]
      go_wp2_with fail
      exact HF1.out
end Go.Proofs.YtmigninibdecmaaGreat

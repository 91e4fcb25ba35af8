/- The chest lays records down. add: a record behind the others, a log in the map. anew: what there is behind a change is laid down in the place of all records. Open: of a new tape; of none. -/
import Derived.Test.YtmigninibdecmaaGreatFao
namespace Go.Proofs.YtmigninibdecmaaGreat
open Go.RowKit
attribute [local go_sem] less_eq same_eq le_eq ge_eq gt_eq

/-- one record in a list of its own -/
theorem RdRs.one {w : World} {G : Nat → Prop} {A : Option Addr} {c : Nat} {l : List UInt8} (h : RdBG w w.heap.size G (.slice A l.length c) l) (hG : ∀ i, G i → i < w.heap.size) : RdRs (w.alloc (.cells #[.slice A l.length c] 41)) (w.heap.size + 1) G (.slice (some ⟨w.heap.size, 0, none⟩) 1 1) [⟨A, c, l⟩] := by
  have hm : Mv (fun _ => False) w (w.alloc (.cells #[.slice A l.length c] 41)) := (Mv.refl _ w).alloc _
  refine ⟨⟨some ⟨w.heap.size, 0, none⟩, 1, rfl, Nat.le_refl _, fun i hi => ⟨w.heap.size, 0, rfl, Nat.lt_succ_self _, fun hg => ?_, ?_⟩⟩, fun r hr => ?_⟩
  · have := hG _ hg; omega
  · obtain rfl : i = 0 := by simpa using hi
    exact (Whole.fresh w 41 [.slice A l.length c]).cell 0 _ rfl
  · rw [List.mem_singleton.1 hr]
    exact (h.mv hm (Nat.le_refl _) (fun _ _ e => e.elim)).mono (Nat.le_succ _) (fun _ _ hg => hg)

set_option maxHeartbeats 8000000 in
set_option maxRecDepth 100000 in
theorem hadd1_any (base q qb p cb rb : Nat) (Gb : Nat → Prop) (b : Bks) (r : Rc) (l : List BtV) (A : Option Addr) (c : Nat) (G : Nat → Prop) (v1 v2 v3 : Value) (w : World) (hk : BkAt w base qb p Gb b) (hq : Whole w q 61 [.pointer (some ⟨qb, 0, none⟩), v1, v2, v3]) (hcb : Whole w cb 26 [.pointer (some ⟨q, 0, none⟩)]) (hrb : Whole w rb 65 [.int .i64 r.kind, .int .i64 r.epoch, .int .i64 r.base, .int .i64 r.known, .slice A l.length c])
    (hn : ¬ Gb q ∧ ¬ Gb cb ∧ ¬ Gb rb) (hr : r.Ok) (he : l.map (·.t) = r.list) (hv : RdBts w w.heap.size G (.slice A l.length c) l) (ha : (b.add [r.B]).1 = 0) (hbl : b.l.length ≤ 4000000) :
    Calls Tryz.prog 58 #[.pointer (some ⟨cb, 0, none⟩), .pointer (some ⟨rb, 0, none⟩)] w fun e w' => e = .returned (.int .i64 0) ∧ ∃ Gb', BkAt w' base qb p Gb' (b.add [r.B]).2 ∧ (∀ i, Gb' i → Gb i ∨ w.heap.size ≤ i) ∧ Mv Gb w w' := by
  have hsz := hr.size
  have hlen := hr.len
  obtain ⟨wd, hwd⟩ : ∃ wd, wd = w.drew := ⟨_, rfl⟩
  have hbd : Below w.heap.size w wd := by rw [hwd]; exact (Below.refl _ w).drew
  have hzd : wd.heap.size = w.heap.size := by rw [hwd]; rfl
  have HKD := Lib.hid (hk.mv (Mv.of_new hbd (fun _ => False)) (fun _ _ k => k))
  have HQD := Lib.hid (hq.below hbd hq.size)
  have HCD := Lib.hid (hcb.below hbd hcb.size)
  have HRD := Lib.hid (hrb.below hbd hrb.size)
  have hby := hbytes_any r l (.slice A l.length c) G wd hr he (hv.next hbd (fun _ _ k => k))
  have HBD := Lib.hid hbd
  obtain ⟨P, hP⟩ : ∃ P, P = r.B := ⟨_, rfl⟩
  rw [← hP] at hby ha hsz ⊢
  obtain ⟨K, E, B, N, L⟩ := r
  simp only at hby HRD hsz hlen
  unfold rcv at hby
  have HBY := Lib.hid hby
  have HA := Lib.hid ha
  have HN := Lib.hid hn
  have HLW := Lib.hid (fun i (hi : Gb i) => (hk.low.2 i hi).2)
  have HSZ := Lib.hid (show P.length ≤ 10000 by omega)
  have HZD := Lib.hid hzd
  have HBL := Lib.hid hbl
  clear hk hq hcb hrb hn hr he hv ha hby hbd hsz hlen hzd hP hbl
  go_enter Tryz.func58, Tryz.ntmps58
  go_wp2_with fail
  refine wp_region_planT (fun W => W.cell? ⟨cb, 0, none⟩ = some (.pointer (some ⟨q, 0, none⟩)) ∧ W.cell? ⟨q, 0, none⟩ = some (.pointer (some ⟨qb, 0, none⟩)) ∧ W.cell? ⟨rb, 0, none⟩ = some (.int .i64 K) ∧ W.cell? ⟨rb, 1, none⟩ = some (.int .i64 E) ∧ W.cell? ⟨rb, 2, none⟩ = some (.int .i64 B) ∧ W.cell? ⟨rb, 3, none⟩ = some (.int .i64 N) ∧ W.cell? ⟨rb, 4, none⟩ = some (.slice A l.length c)) (.take 0 (.take 1 (.take 2 (.take 3 (.take 4 (.step 5 (.step 6 (.step 7 (.take 8 .done))))))))) (by kernel_rfl) (by kernel_rfl) (fun _ _ d _ _ h => by cases d <;> exact h) (by rw [← hwd]; exact ⟨HCD.out.cell 0 _ rfl, HQD.out.cell 0 _ rfl, HRD.out.cell 0 _ rfl, HRD.out.cell 1 _ rfl, HRD.out.cell 2 _ rfl, HRD.out.cell 3 _ rfl, HRD.out.cell 4 _ rfl⟩) ?_
  rw [← hwd]
  clear hwd
  (refine PlanT.takeI (v := ?_) rfl rfl ?_ ?_; rotate_left; (focus (intro W hW; obtain ⟨k0, k1, k2, k3, k4, k5, k6⟩ := hW; go_simp; (try with_reducible rfl); done)); (try simp only [Act.put, List.setIfInBounds_toArray, List.set_cons_zero, List.set_cons_succ]))
  (refine PlanT.takeI (v := ?_) rfl rfl ?_ ?_; rotate_left; (focus (intro W hW; obtain ⟨k0, k1, k2, k3, k4, k5, k6⟩ := hW; go_simp; (try with_reducible rfl); done)); (try simp only [Act.put, List.setIfInBounds_toArray, List.set_cons_zero, List.set_cons_succ]))
  (refine PlanT.takeI (v := ?_) rfl rfl ?_ ?_; rotate_left; (focus (intro W hW; obtain ⟨k0, k1, k2, k3, k4, k5, k6⟩ := hW; go_simp; (try with_reducible rfl); done)); (try simp only [Act.put, List.setIfInBounds_toArray, List.set_cons_zero, List.set_cons_succ]))
  (refine PlanT.takeI (v := ?_) rfl rfl ?_ ?_; rotate_left; (focus (intro W hW; obtain ⟨k0, k1, k2, k3, k4, k5, k6⟩ := hW; go_simp; (try with_reducible rfl); done)); (try simp only [Act.put, List.setIfInBounds_toArray, List.set_cons_zero, List.set_cons_succ]))
  (refine PlanT.takeI (v := ?_) rfl rfl ?_ ?_; rotate_left; (focus (intro W hW; obtain ⟨k0, k1, k2, k3, k4, k5, k6⟩ := hW; go_simp; (try with_reducible rfl); done)); (try simp only [Act.put, List.setIfInBounds_toArray, List.set_cons_zero, List.set_cons_succ]))
  refine wpOp_stepT rfl rfl (fun Kk hK => ?_)
  go_simp
  go_at_call 30
  refine HBY.out.mono ?_
  rintro e w3 ⟨v3', rfl, ho3, hb3⟩
  have hC3 := HCD.out.below hb3 HCD.out.size
  have hQ3 := HQD.out.below hb3 HQD.out.size
  have hR3 := HRD.out.below hb3 HRD.out.size
  refine hK.out _ _ ⟨hC3.cell 0 _ rfl, hQ3.cell 0 _ rfl, hR3.cell 0 _ rfl, hR3.cell 1 _ rfl, hR3.cell 2 _ rfl, hR3.cell 3 _ rfl, hR3.cell 4 _ rfl⟩ ?_
  obtain ⟨A3, c3, rfl, -, -⟩ := (OwnB.rdB ho3).at
  have hk3 := HKD.out.mv (Mv.of_new hb3 (fun _ => False)) (fun _ _ k => k)
  have hlow : ∀ i, Gb i → i < w.heap.size := HLW.out
  have hbg : RdBG w3 w3.heap.size Gb (.slice A3 P.length c3) P := (HoldB.ofOwn ho3).rdBG (fun g hg hd => by have h1 := ((HoldB.ofOwn ho3).low hg).1; have h2 := hlow g hd; have h3 := HZD.out; omega)
  have hrs := RdRs.one hbg (fun i hi => by have := hlow i hi; have := hb3.size; have := HZD.out; omega)
  have hB3 := HBD.out.trans (hb3.mono HBD.out.size)
  obtain ⟨w4, hw4⟩ : ∃ w4, w4 = w3.alloc (.cells #[.slice A3 P.length c3] 41) := ⟨_, rfl⟩
  have hz4 : w4.heap.size = w3.heap.size + 1 := by rw [hw4]; simp
  have hb4 : Below w3.heap.size w3 w4 := by rw [hw4]; exact (Below.refl _ w3).alloc (Nat.le_refl _) _
  rw [← hw4, ← hz4] at hrs
  have HRS := Lib.hid hrs
  have HK4 := Lib.hid (hk3.mv (Mv.of_new hb4 (fun _ => False)) (fun _ _ k => k))
  have HC4 := Lib.hid (hC3.below hb4 hC3.size)
  have HQ4 := Lib.hid (hQ3.below hb4 hQ3.size)
  have HR4 := Lib.hid (hR3.below hb4 hR3.size)
  have HB4 := Lib.hid (hB3.trans (hb4.mono hB3.size))
  clear hK Kk hb3 hC3 hQ3 hR3 ho3 hk3 hlow hbg hrs hB3 hb4 hz4 HBY
  (try simp only [Act.put, List.setIfInBounds_toArray, List.set_cons_zero, List.set_cons_succ])
  refine wpOp_stepT rfl rfl (fun Kk hK => ?_)
  go_simp
  rw [← hw4]
  refine hK.out _ _ ⟨HC4.out.cell 0 _ rfl, HQ4.out.cell 0 _ rfl, HR4.out.cell 0 _ rfl, HR4.out.cell 1 _ rfl, HR4.out.cell 2 _ rfl, HR4.out.cell 3 _ rfl, HR4.out.cell 4 _ rfl⟩ ?_
  clear hK Kk hw4
  (try simp only [Act.put, List.setIfInBounds_toArray, List.set_cons_zero, List.set_cons_succ])
  refine wpOp_stepT rfl rfl (fun Kk hK => ?_)
  go_simp
  go_at_call 59
  refine (badd_any base qb p Gb b [⟨A3, c3, P⟩] _ w4 HK4.out HRS.out (by simp) (fun x hx => by rw [List.mem_singleton.1 hx]; show P.length ≤ _; have := HSZ.out; omega) (fun _ => HBL.out)).mono ?_
  rintro e w5 ⟨rfl, Gb', hk5, hg5, hm5⟩
  have ht : texts [(⟨A3, c3, P⟩ : Row)] = [P] := rfl
  rw [ht] at hk5 ⊢
  rw [HA.out]
  have hC5 := hm5.whole HC4.out HN.out.2.1
  have hQ5 := hm5.whole HQ4.out HN.out.1
  have hR5 := hm5.whole HR4.out HN.out.2.2
  refine hK.out _ _ ⟨hC5.cell 0 _ rfl, hQ5.cell 0 _ rfl, hR5.cell 0 _ rfl, hR5.cell 1 _ rfl, hR5.cell 2 _ rfl, hR5.cell 3 _ rfl, hR5.cell 4 _ rfl⟩ ?_
  have HFIN := Lib.hid (show ∃ Gb', BkAt w5 base qb p Gb' (b.add [P]).2 ∧ (∀ i, Gb' i → Gb i ∨ w.heap.size ≤ i) ∧ Mv Gb w w5 from ⟨Gb', hk5, fun i hi => by rcases hg5 i hi with k | k; exact .inl k; exact .inr (Nat.le_trans HB4.out.size k), (Mv.of_new HB4.out Gb).trans hm5 (fun _ _ k => k)⟩)
  clear hK Kk hk5 hg5 hm5 hC5 hQ5 hR5 ht
  (try simp only [Act.put, List.setIfInBounds_toArray, List.set_cons_zero, List.set_cons_succ])
  (refine PlanT.takeI (v := ?_) rfl rfl ?_ ?_; rotate_left; (focus (intro W hW; obtain ⟨k0, k1, k2, k3, k4, k5, k6⟩ := hW; go_simp; (try with_reducible rfl); done)); (try simp only [Act.put, List.setIfInBounds_toArray, List.set_cons_zero, List.set_cons_succ]))
  simp only [PlanT]
  go_wp2_with fail
  go_ret
  exact ⟨rfl, HFIN.out⟩

set_option maxHeartbeats 8000000 in
set_option maxRecDepth 100000 in
theorem hanew1_any (base q qb p cb nb mb : Nat) (Gb Gf : Nat → Prop) (b : Bks) (lock : Int) (x : LgV) (v0 v1 v2 v3 u3 : Value) (w : World) (hk : BkAt w base qb p Gb b) (hq : Whole w q 61 [.pointer (some ⟨qb, 0, none⟩), v1, v2, v3]) (hcb : Whole w cb 26 [.pointer (some ⟨q, 0, none⟩)]) (hnb : Whole w nb 61 [v0, .int .i64 lock, .map (some mb), u3]) (hm : MapI w mb [x.pr]) (k : LgIs w base Gf x) (hlk : 0 ≤ lock ∧ lock < 4611686018427387904)
    (hn : ¬ Gb q ∧ ¬ Gb cb) (ha : (b.reset ((recs1 lock x.g).map (·.B))).1 = 0) :
    Calls Tryz.prog 64 #[.pointer (some ⟨cb, 0, none⟩), .pointer (some ⟨nb, 0, none⟩)] w fun e w' => e = .returned (.int .i64 0) ∧ ∃ Gb', BkAt w' base qb p Gb' (b.reset ((recs1 lock x.g).map (·.B))).2 ∧ (∀ i, Gb' i → Gb i ∨ w.heap.size ≤ i) ∧ Mv Gb w w' := by
  obtain ⟨wd, hwd⟩ : ∃ wd, wd = w.drew := ⟨_, rfl⟩
  have hbd : Below w.heap.size w wd := by rw [hwd]; exact (Below.refl _ w).drew
  have hzd : wd.heap.size = w.heap.size := by rw [hwd]; rfl
  have HKD := Lib.hid (hk.mv (Mv.of_new hbd (fun _ => False)) (fun _ _ k => k))
  have HQD := Lib.hid (hq.below hbd hq.size)
  have HCD := Lib.hid (hcb.below hbd hcb.size)
  have hrec := hrecs_any nb mb v0 u3 lock x base Gf wd (hnb.below hbd hnb.size) (hm.mv (Mv.of_new hbd (fun _ => False)) (fun k => k)) (k.new hbd) hlk
  have HBD := Lib.hid hbd
  have hfit : ∀ t ∈ (recs1 lock x.g).map (·.B), t.length ≤ 65532 := recs1_fits hlk k.ok
  have hlen : ((recs1 lock x.g).map (·.B)).length ≤ 27 := by rw [List.length_map]; exact recs1_len k.ok
  obtain ⟨P, hP⟩ : ∃ P, P = (recs1 lock x.g).map (·.B) := ⟨_, rfl⟩
  rw [← hP] at hrec ha hfit hlen ⊢
  have HRC := Lib.hid hrec
  have HA := Lib.hid ha
  have HN := Lib.hid hn
  have HLW := Lib.hid (fun i (hi : Gb i) => (hk.low.2 i hi).2)
  have HFT := Lib.hid (And.intro hfit hlen)
  have HZD := Lib.hid hzd
  clear hk hq hcb hnb hm k hn ha hrec hbd hzd hfit hlen hP
  go_enter Tryz.func64, Tryz.ntmps64
  go_wp2_with fail
  refine wp_region_planT (fun W => W.cell? ⟨cb, 0, none⟩ = some (.pointer (some ⟨q, 0, none⟩)) ∧ W.cell? ⟨q, 0, none⟩ = some (.pointer (some ⟨qb, 0, none⟩))) (.take 0 (.take 1 (.take 2 (.take 3 (.step 4 (.step 5 (.take 6 .done))))))) (by kernel_rfl) (by kernel_rfl) (fun _ _ d _ _ h => by cases d <;> exact h) (by rw [← hwd]; exact ⟨HCD.out.cell 0 _ rfl, HQD.out.cell 0 _ rfl⟩) ?_
  rw [← hwd]
  clear hwd
  (refine PlanT.takeI (v := ?_) rfl rfl ?_ ?_; rotate_left; (focus (intro W hW; obtain ⟨k0, k1⟩ := hW; go_simp; (try with_reducible rfl); done)); (try simp only [Act.put, List.setIfInBounds_toArray, List.set_cons_zero, List.set_cons_succ]))
  (refine PlanT.takeI (v := ?_) rfl rfl ?_ ?_; rotate_left; (focus (intro W hW; obtain ⟨k0, k1⟩ := hW; go_simp; (try with_reducible rfl); done)); (try simp only [Act.put, List.setIfInBounds_toArray, List.set_cons_zero, List.set_cons_succ]))
  (refine PlanT.takeI (v := ?_) rfl rfl ?_ ?_; rotate_left; (focus (intro W hW; obtain ⟨k0, k1⟩ := hW; go_simp; (try with_reducible rfl); done)); (try simp only [Act.put, List.setIfInBounds_toArray, List.set_cons_zero, List.set_cons_succ]))
  (refine PlanT.takeI (v := ?_) rfl rfl ?_ ?_; rotate_left; (focus (intro W hW; obtain ⟨k0, k1⟩ := hW; go_simp; (try with_reducible rfl); done)); (try simp only [Act.put, List.setIfInBounds_toArray, List.set_cons_zero, List.set_cons_succ]))
  refine wpOp_stepT rfl rfl (fun Kk hK => ?_)
  go_simp
  go_at_call 66
  refine HRC.out.mono ?_
  rintro e w3 ⟨A3, n3, c3, rfl, ho3, hb3⟩
  have hC3 := HCD.out.below hb3 HCD.out.size
  have hQ3 := HQD.out.below hb3 HQD.out.size
  refine hK.out _ _ ⟨hC3.cell 0 _ rfl, hQ3.cell 0 _ rfl⟩ ?_
  obtain ⟨rows, hr1, hr2, hr3⟩ := ho3
  have hk3 := HKD.out.mv (Mv.of_new hb3 (fun _ => False)) (fun _ _ k => k)
  have hlow : ∀ i, Gb i → i < wd.heap.size := fun i hi => by rw [HZD.out]; exact HLW.out i hi
  have hrs : RdRs w3 w3.heap.size Gb (.slice A3 n3 c3) rows := OwnR.held hr1 hr2 (fun g hg hd => by have h1 := (Own.low hr1 hg).1; have h2 := hlow g hd; omega) (fun r hr g hg hd => by have h1 := ((hr2 r hr).low hg).1; have h2 := hlow g hd; omega)
  have hB3 := HBD.out.trans (hb3.mono HBD.out.size)
  have hrl : rows.length ≤ 1000 := by
    have := congrArg List.length hr3
    rw [texts, List.length_map] at this
    rw [this]; have := HFT.out.2; omega
  have hrr : ∀ r ∈ rows, r.l.length ≤ 140737488351232 := fun r hr => by
    have := HFT.out.1 r.l (hr3 ▸ List.mem_map.2 ⟨r, hr, rfl⟩)
    omega
  have HRS := Lib.hid (And.intro hrs (And.intro hrl (And.intro hrr hr3)))
  have HK3 := Lib.hid hk3
  have HC3 := Lib.hid hC3
  have HQ3 := Lib.hid hQ3
  have HB3 := Lib.hid hB3
  clear hK Kk hb3 hC3 hQ3 hr1 hr2 hr3 hk3 hlow hrs hB3 hrl hrr HRC
  (try simp only [Act.put, List.setIfInBounds_toArray, List.set_cons_zero, List.set_cons_succ])
  refine wpOp_stepT rfl rfl (fun Kk hK => ?_)
  go_simp
  go_at_call 65
  refine (breset_any base qb p Gb b rows _ w3 HK3.out HRS.out.1 HRS.out.2.1 HRS.out.2.2.1).mono ?_
  rintro e w5 ⟨rfl, Gb', hk5, hg5, hm5⟩
  rw [HRS.out.2.2.2] at hk5 ⊢
  rw [HA.out]
  have hC5 := hm5.whole HC3.out HN.out.2
  have hQ5 := hm5.whole HQ3.out HN.out.1
  refine hK.out _ _ ⟨hC5.cell 0 _ rfl, hQ5.cell 0 _ rfl⟩ ?_
  have HFIN := Lib.hid (show ∃ Gb', BkAt w5 base qb p Gb' (b.reset P).2 ∧ (∀ i, Gb' i → Gb i ∨ w.heap.size ≤ i) ∧ Mv Gb w w5 from ⟨Gb', hk5, fun i hi => by rcases hg5 i hi with k | k; exact .inl k; exact .inr (Nat.le_trans HB3.out.size k), (Mv.of_new HB3.out Gb).trans hm5 (fun _ _ k => k)⟩)
  clear hK Kk hk5 hg5 hm5 hC5 hQ5
  (try simp only [Act.put, List.setIfInBounds_toArray, List.set_cons_zero, List.set_cons_succ])
  (refine PlanT.takeI (v := ?_) rfl rfl ?_ ?_; rotate_left; (focus (intro W hW; obtain ⟨k0, k1⟩ := hW; go_simp; (try with_reducible rfl); done)); (try simp only [Act.put, List.setIfInBounds_toArray, List.set_cons_zero, List.set_cons_succ]))
  simp only [PlanT]
  go_wp2_with fail
  go_ret
  exact ⟨rfl, HFIN.out⟩

set_option maxHeartbeats 4000000 in
set_option maxRecDepth 100000 in
/-- lay, whatever puts them down, so it is done -/
theorem hlayc_any (F : FuncId) (caps : Array Value) (q : Nat) (v0 v1 v2 v3 : Value) (Post : World → Prop) (w : World) (hF : ∀ w, (callFunc F caps).run Tryz.prog w = .ok (.enter F caps) w) (hc : Calls Tryz.prog F caps w fun e w' => e = .returned (.int .i64 0) ∧ Post w') (hq : ∀ w', Post w' → Whole w' q 61 [v0, v1, v2, v3]) :
    Calls Tryz.prog 57 #[.pointer (some ⟨q, 0, none⟩), .func (.func F) #[] caps] w fun e w' => e = .returned (.int .i64 0) ∧ ∃ w1, Post w1 ∧ w' = w1.setCell ⟨q, 3, none⟩ (.bool false) := by
  have HC := Lib.hid hc
  have HQ := Lib.hid hq
  clear hc hq
  go_enter Tryz.func57, Tryz.ntmps57
  go_wp2_with fail
  clear hF
  refine HC.out.mono ?_
  rintro e w1 ⟨rfl, hp⟩
  have h1 := HQ.out w1 hp
  have z3 := h1.cell 3 _ rfl
  have f3 := h1.frozen 3
  have HP := Lib.hid hp
  clear hp h1 HC HQ
  go_wp2_with fail
  go_ret
  exact ⟨rfl, w1, HP.out, rfl⟩
end Go.Proofs.YtmigninibdecmaaGreat
namespace Go.Proofs.YtmigninibdecmaaGreat
open Go.RowKit
attribute [local go_sem] less_eq same_eq le_eq ge_eq gt_eq

set_option maxHeartbeats 8000000 in
set_option maxRecDepth 100000 in
theorem hadd_any (base q qb p mb : Nat) (Gb : Nat → Prop) (b : Bks) (lock : Int) (M : List (Int × Value)) (r : Rc) (l : List BtV) (A : Option Addr) (c : Nat) (G : Nat → Prop) (K2 E2 B2 N2 : Int) (F : Option Addr) (fl nf : Nat) (go kn : Int) (H : Option Addr) (hl nh : Nat) (w : World) (hk : BkAt w base qb p Gb b) (hq : Whole w q 61 [.pointer (some ⟨qb, 0, none⟩), .int .i64 lock, .map (some mb), .bool false]) (hm : MapI w mb M)
    (hn : ¬ Gb q ∧ ¬ Gb mb) (hr : r.Ok) (he : l.map (·.t) = r.list) (hv : RdBts w w.heap.size G (.slice A l.length c) l) (ha : (b.add [r.B]).1 = 0) (hbl : b.l.length ≤ 4000000) :
    Calls Tryz.prog 28 #[.pointer (some ⟨q, 0, none⟩), rcv r.kind r.epoch r.base r.known (.slice A l.length c), lgv K2 E2 B2 N2 (.slice F fl nf) go kn (.slice H hl nh)] w fun e w' => e = .returned (.int .i64 0) ∧
      Whole w' q 61 [.pointer (some ⟨qb, 0, none⟩), .int .i64 lock, .map (some mb), .bool false] ∧ (∃ Gb', BkAt w' base qb p Gb' (b.add [r.B]).2 ∧ (∀ i, Gb' i → Gb i ∨ w.heap.size ≤ i) ∧ ¬ Gb' q ∧ ¬ Gb' mb) ∧
      MapI w' mb ((r.epoch, lgv K2 E2 B2 N2 (.slice F fl nf) go kn (.slice H hl nh)) :: offI r.epoch M) ∧ Mv (fun i => Gb i ∨ i = q ∨ i = mb) w w' := by
  have hmf : ∀ (fn : Fn) (first cap : Array Value) (w : World), (Instr.makeFunc fn first cap).run Tryz.prog w = .ok (.func fn first cap) w := fun _ _ _ _ => rfl
  have hqm := hm.apart hq
  have hlow := hk.low
  obtain ⟨w1, hw1⟩ : ∃ w1, w1 = w.alloc (.cells #[.pointer (some ⟨q, 0, none⟩)] 26) := ⟨_, rfl⟩
  obtain ⟨w2, hw2⟩ : ∃ w2, w2 = w1.alloc (.cells #[.int .i64 r.kind, .int .i64 r.epoch, .int .i64 r.base, .int .i64 r.known, .slice A l.length c] 65) := ⟨_, rfl⟩
  obtain ⟨w3, hw3⟩ : ∃ w3, w3 = w2.alloc (.cells #[.int .i64 K2, .int .i64 E2, .int .i64 B2, .int .i64 N2, .slice F fl nf, .int .i64 go, .int .i64 kn, .slice H hl nh] 73) := ⟨_, rfl⟩
  have hz1 : w1.heap.size = w.heap.size + 1 := by rw [hw1]; simp
  have hz2 : w2.heap.size = w.heap.size + 1 + 1 := by rw [hw2, World.size_alloc, hz1]
  have hz3 : w3.heap.size = w.heap.size + 3 := by rw [hw3, World.size_alloc, hz2]
  have hb1 : Below w.heap.size w w1 := by rw [hw1]; exact (Below.refl _ w).alloc (Nat.le_refl _) _
  have hb2 : Below w.heap.size w w2 := by rw [hw2]; exact hb1.alloc hb1.size _
  have hb3 : Below w.heap.size w w3 := by rw [hw3]; exact hb2.alloc hb2.size _
  have hC3 : Whole w3 w.heap.size 26 [.pointer (some ⟨q, 0, none⟩)] := by rw [hw3, hw2, hw1]; exact ((Whole.fresh w _ [_]).alloc _).alloc _
  have hR3 : Whole w3 (w.heap.size + 1) 65 [.int .i64 r.kind, .int .i64 r.epoch, .int .i64 r.base, .int .i64 r.known, .slice A l.length c] := by rw [hw3, hw2, ← hz1]; exact (Whole.fresh w1 _ [.int .i64 r.kind, .int .i64 r.epoch, .int .i64 r.base, .int .i64 r.known, .slice A l.length c]).alloc _
  have hL3 : Whole w3 (w.heap.size + 1 + 1) 73 [.int .i64 K2, .int .i64 E2, .int .i64 B2, .int .i64 N2, .slice F fl nf, .int .i64 go, .int .i64 kn, .slice H hl nh] := by rw [hw3, ← hz2]; exact Whole.fresh w2 _ [.int .i64 K2, .int .i64 E2, .int .i64 B2, .int .i64 N2, .slice F fl nf, .int .i64 go, .int .i64 kn, .slice H hl nh]
  obtain ⟨cb, hcb⟩ : ∃ cb, cb = w.heap.size := ⟨_, rfl⟩
  obtain ⟨rb, hrb⟩ : ∃ rb, rb = w.heap.size + 1 := ⟨_, rfl⟩
  obtain ⟨lb, hlb⟩ : ∃ lb, lb = w.heap.size + 1 + 1 := ⟨_, rfl⟩
  rw [← hcb] at hC3
  rw [← hrb] at hR3
  rw [← hlb] at hL3
  have hk3 := hk.mv (Mv.of_new hb3 (fun _ => False)) (fun _ _ k => k)
  have hq3 := hq.below hb3 hq.size
  have hGs : ∀ i, Gb i → i < w.heap.size := fun i hi => (hlow.2 i hi).2
  have hng : ¬ Gb q ∧ ¬ Gb cb ∧ ¬ Gb rb := ⟨hn.1, fun h => by have := hGs _ h; omega, fun h => by have := hGs _ h; omega⟩
  have hngl : ¬ Gb lb := fun h => by have := hGs _ h; omega
  have hcl := hadd1_any base q qb p cb rb Gb b r l A c G (.int .i64 lock) (.map (some mb)) (.bool false) w3 hk3 hq3 hC3 hR3 hng hr he (hv.next hb3 (fun _ _ k => k)) ha hbl
  have hlay := hlayc_any 58 #[.pointer (some ⟨cb, 0, none⟩), .pointer (some ⟨rb, 0, none⟩)] q (.pointer (some ⟨qb, 0, none⟩)) (.int .i64 lock) (.map (some mb)) (.bool false) (fun w' => ∃ Gb', BkAt w' base qb p Gb' (b.add [r.B]).2 ∧ (∀ i, Gb' i → Gb i ∨ w3.heap.size ≤ i) ∧ Mv Gb w3 w') w3 (fun W => enters_of Tryz.func58 (by kernel_rfl) rfl _ W) hcl (fun w' ⟨_, _, _, hmv⟩ => hmv.whole hq3 hn.1)
  obtain ⟨b', hb'⟩ : ∃ b', b' = (b.add [r.B]).2 := ⟨_, rfl⟩
  rw [← hb'] at hlay ⊢
  clear hcl
  obtain ⟨K, E, B, N, L⟩ := r
  simp only at hlay hw2 hR3 ⊢
  have HLAY := Lib.hid hlay
  have HC3 := Lib.hid hC3
  have HR3 := Lib.hid hR3
  have HL3 := Lib.hid hL3
  have HQ3 := Lib.hid hq3
  have HB3 := Lib.hid hb3
  have HM3 := Lib.hid (hm.mv (Mv.of_new hb3 (fun _ => False)) (fun k => k))
  have HGS := Lib.hid hGs
  have HNG := Lib.hid (And.intro hng (And.intro hngl hn))
  have HQM := Lib.hid hqm
  have HCB := Lib.hid (And.intro hcb (And.intro hrb (And.intro hlb hz3)))
  have HQS := Lib.hid (And.intro hq.size hm.size)
  unfold rcv lgv
  clear hk hq hm hn hr he hv ha hbl hlow hz1 hz2 hz3 hb1 hb2 hb3 hC3 hR3 hL3 hk3 hq3 hGs hng hngl hlay hb' hqm
  go_enter Tryz.func28, Tryz.ntmps28
  go_wp2_with fail
  rw [← hw1, ← hw2, ← hw3, ← hlb, ← hrb, ← hcb]
  clear hw1 hw2 hw3 hcb hrb hlb hmf
  refine HLAY.out.mono ?_
  rintro e w5 ⟨rfl, w4, ⟨Gb', hk4, hg4, hm4⟩, hw5⟩
  have hQ4 := hm4.whole HQ3.out HNG.out.1.1
  have hC4 := hm4.whole HC3.out HNG.out.1.2.1
  have hR4 := hm4.whole HR3.out HNG.out.1.2.2
  have hL4 := hm4.whole HL3.out HNG.out.2.1
  have hM4 := HM3.out.mv hm4 HNG.out.2.2.2
  have hmq : Mv (fun i => i = q) w4 w5 := by rw [hw5]; exact (Mv.refl (fun i => i = q) w4).one 3 _
  have hng4 : ¬ Gb' q ∧ ¬ Gb' mb := by
    have h1 := HQS.out
    have h2 := HCB.out.2.2.2
    refine ⟨fun h => ?_, fun h => ?_⟩
    · rcases hg4 _ h with k | k
      · exact HNG.out.2.2.1 k
      · omega
    · rcases hg4 _ h with k | k
      · exact HNG.out.2.2.2 k
      · omega
  have hsz := HCB.out
  have hqs := HQS.out
  have hQ5 : Whole w5 q 61 [.pointer (some ⟨qb, 0, none⟩), .int .i64 lock, .map (some mb), .bool false] := by rw [hw5]; exact hQ4.put 3 _
  have hC5 := hmq.whole hC4 (fun e => by omega)
  have hR5 := hmq.whole hR4 (fun e => by omega)
  have hL5 := hmq.whole hL4 (fun e => by omega)
  have hM5 := hM4.mv hmq (fun e => HQM.out e.symm)
  have hk5 := hk4.mv hmq (fun i hi e => hng4.1 (e ▸ hi))
  obtain ⟨wd, hwd⟩ : ∃ wd, wd = w5.drew := ⟨_, rfl⟩
  have hbd : Below w5.heap.size w5 wd := by rw [hwd]; exact (Below.refl _ w5).drew
  have hMd := hM5.mv (Mv.of_new hbd (fun _ => False)) (fun k => k)
  obtain ⟨w6, hrun, hM6, hmv6, hz6⟩ := hMd.store (P := Tryz.prog) (t := 59) Tryz.underlying59 Tryz.underlying3 E (.agg #[.int .i64 K2, .int .i64 E2, .int .i64 B2, .int .i64 N2, .slice F fl nf, .int .i64 go, .int .i64 kn, .slice H hl nh])
  have hQd := hQ5.below hbd hQ5.size
  have hCd := hC5.below hbd hC5.size
  have hRd := hR5.below hbd hR5.size
  have hLd := hL5.below hbd hL5.size
  have hbm : ∀ i, Gb' i → ¬ i = mb := fun i hi e => hng4.2 (e ▸ hi)
  have HK6 := Lib.hid ((hk5.mv (Mv.of_new hbd (fun _ => False)) (fun _ _ k => k)).mv hmv6 hbm)
  have HQ6 := Lib.hid (hmv6.whole hQd HQM.out)
  have HC6 := Lib.hid (hmv6.whole hCd (fun e => by omega))
  have HR6 := Lib.hid (hmv6.whole hRd (fun e => by omega))
  have HL6 := Lib.hid (hmv6.whole hLd (fun e => by omega))
  have HM6 := Lib.hid hM6
  have HG4 := Lib.hid (And.intro hg4 hng4)
  have HMV := Lib.hid (show Mv (fun i => Gb i ∨ i = q ∨ i = mb) w w6 from ((((Mv.of_new HB3.out _).trans hm4 (fun _ _ k => .inl k)).trans hmq (fun _ _ k => .inr (.inl k))).trans (Mv.of_new hbd (fun _ => False)) (fun _ _ k => k.elim)).trans hmv6 (fun _ _ k => .inr (.inr k)))
  have HQD := Lib.hid hQd
  have HCD := Lib.hid hCd
  have HRD := Lib.hid hRd
  have HLD := Lib.hid hLd
  have HRUN := Lib.hid hrun
  clear hk4 hg4 hm4 hQ4 hC4 hR4 hL4 hM4 hmq hng4 hsz hqs hQ5 hC5 hR5 hL5 hM5 hk5 hMd hM6 hmv6 hz6 hQd hCd hRd hLd hbm hbd hw5 hrun HLAY
  go_wp2_with fail
  refine wp_region_planT (fun W => W.cell? ⟨cb, 0, none⟩ = some (.pointer (some ⟨q, 0, none⟩)) ∧ W.cell? ⟨q, 2, none⟩ = some (.map (some mb)) ∧ W.cell? ⟨rb, 1, none⟩ = some (.int .i64 E) ∧ W.cell? ⟨lb, 0, none⟩ = some (.int .i64 K2) ∧ W.cell? ⟨lb, 1, none⟩ = some (.int .i64 E2) ∧ W.cell? ⟨lb, 2, none⟩ = some (.int .i64 B2) ∧ W.cell? ⟨lb, 3, none⟩ = some (.int .i64 N2) ∧ W.cell? ⟨lb, 4, none⟩ = some (.slice F fl nf) ∧ W.cell? ⟨lb, 5, none⟩ = some (.int .i64 go) ∧ W.cell? ⟨lb, 6, none⟩ = some (.int .i64 kn) ∧ W.cell? ⟨lb, 7, none⟩ = some (.slice H hl nh)) (.take 0 (.take 1 (.take 2 (.take 3 (.take 4 (.take 5 (.take 6 (.step 7 .done)))))))) (by kernel_rfl) (by kernel_rfl) (fun _ _ d _ _ h => by cases d <;> exact h) (by rw [← hwd]; exact ⟨HCD.out.cell 0 _ rfl, HQD.out.cell 2 _ rfl, HRD.out.cell 1 _ rfl, HLD.out.cell 0 _ rfl, HLD.out.cell 1 _ rfl, HLD.out.cell 2 _ rfl, HLD.out.cell 3 _ rfl, HLD.out.cell 4 _ rfl, HLD.out.cell 5 _ rfl, HLD.out.cell 6 _ rfl, HLD.out.cell 7 _ rfl⟩) ?_
  rw [← hwd]
  clear hwd
  (refine PlanT.takeI (v := ?_) rfl rfl ?_ ?_; rotate_left; (focus (intro W hW; obtain ⟨k0, k1, k2, k3, k4, k5, k6, k7, k8, k9, k10⟩ := hW; go_simp; (try with_reducible rfl); done)); (try simp only [Act.put, List.setIfInBounds_toArray, List.set_cons_zero, List.set_cons_succ]))
  (refine PlanT.takeI (v := ?_) rfl rfl ?_ ?_; rotate_left; (focus (intro W hW; obtain ⟨k0, k1, k2, k3, k4, k5, k6, k7, k8, k9, k10⟩ := hW; go_simp; (try with_reducible rfl); done)); (try simp only [Act.put, List.setIfInBounds_toArray, List.set_cons_zero, List.set_cons_succ]))
  (refine PlanT.takeI (v := ?_) rfl rfl ?_ ?_; rotate_left; (focus (intro W hW; obtain ⟨k0, k1, k2, k3, k4, k5, k6, k7, k8, k9, k10⟩ := hW; go_simp; (try with_reducible rfl); done)); (try simp only [Act.put, List.setIfInBounds_toArray, List.set_cons_zero, List.set_cons_succ]))
  (refine PlanT.takeI (v := ?_) rfl rfl ?_ ?_; rotate_left; (focus (intro W hW; obtain ⟨k0, k1, k2, k3, k4, k5, k6, k7, k8, k9, k10⟩ := hW; go_simp; (try with_reducible rfl); done)); (try simp only [Act.put, List.setIfInBounds_toArray, List.set_cons_zero, List.set_cons_succ]))
  (refine PlanT.takeI (v := ?_) rfl rfl ?_ ?_; rotate_left; (focus (intro W hW; obtain ⟨k0, k1, k2, k3, k4, k5, k6, k7, k8, k9, k10⟩ := hW; go_simp; (try with_reducible rfl); done)); (try simp only [Act.put, List.setIfInBounds_toArray, List.set_cons_zero, List.set_cons_succ]))
  (refine PlanT.takeI (v := ?_) rfl rfl ?_ ?_; rotate_left; (focus (intro W hW; obtain ⟨k0, k1, k2, k3, k4, k5, k6, k7, k8, k9, k10⟩ := hW; go_simp; (try with_reducible rfl); done)); (try simp only [Act.put, List.setIfInBounds_toArray, List.set_cons_zero, List.set_cons_succ]))
  (refine PlanT.takeI (v := ?_) rfl rfl ?_ ?_; rotate_left; (focus (intro W hW; obtain ⟨k0, k1, k2, k3, k4, k5, k6, k7, k8, k9, k10⟩ := hW; go_simp; (try with_reducible rfl); done)); (try simp only [Act.put, List.setIfInBounds_toArray, List.set_cons_zero, List.set_cons_succ]))
  have hrun := HRUN.out
  refine wpOp_stepT rfl rfl (fun Kk hK => ?_)
  go_simp
  refine hK.out _ _ ⟨HC6.out.cell 0 _ rfl, HQ6.out.cell 2 _ rfl, HR6.out.cell 1 _ rfl, HL6.out.cell 0 _ rfl, HL6.out.cell 1 _ rfl, HL6.out.cell 2 _ rfl, HL6.out.cell 3 _ rfl, HL6.out.cell 4 _ rfl, HL6.out.cell 5 _ rfl, HL6.out.cell 6 _ rfl, HL6.out.cell 7 _ rfl⟩ ?_
  clear hK Kk hrun
  (try simp only [Act.put, List.setIfInBounds_toArray, List.set_cons_zero, List.set_cons_succ])
  simp only [PlanT]
  go_wp2_with fail
  go_ret
  refine ⟨rfl, HQ6.out, ⟨Gb', HK6.out, fun i hi => ?_, HG4.out.2⟩, HM6.out, HMV.out⟩
  rcases HG4.out.1 i hi with k | k
  · exact .inl k
  · exact .inr (by have := HCB.out.2.2.2; omega)
end Go.Proofs.YtmigninibdecmaaGreat
namespace Go.Proofs.YtmigninibdecmaaGreat
open Go.RowKit
attribute [local go_sem] less_eq same_eq le_eq ge_eq gt_eq

theorem hclone_any {w : World} {mb : Nat} {M : List (Int × Value)} (h : MapI w mb M) :
    Calls Tryz.prog 63 #[.map (some mb)] w fun e w' => e = .returned (.map (some w.heap.size)) ∧ MapI w' w.heap.size M ∧ Below w.heap.size w w' := by
  obtain ⟨es, clock, hb, hs, hl⟩ := h
  refine (AnyW.maps_Clone Tryz.cloneM mb es clock w hb).mono ?_
  rintro e w' ⟨rfl, rfl⟩
  exact ⟨rfl, ⟨es, clock, (MapKept.heap_alloc w _).1, hs, hl⟩, (Below.refl _ w).alloc (Nat.le_refl _) _⟩
/-- what a change of a chest does to the next one -/
def Chgs (F : FuncId) (caps : Array Value) (w : World) (v0 : Value) (lock lock' : Int) (M M' : List (Int × Value)) : Prop :=
  ∀ (w1 : World) (nb mb : Nat), Below w.heap.size w w1 → w.heap.size ≤ nb → w.heap.size ≤ mb → Whole w1 nb 61 [v0, .int .i64 lock, .map (some mb), .bool false] → MapI w1 mb M →
    Calls Tryz.prog F (#[.pointer (some ⟨nb, 0, none⟩)] ++ caps) w1 fun e w' => e = .returned (.tuple #[]) ∧ Whole w' nb 61 [v0, .int .i64 lock', .map (some mb), .bool false] ∧ MapI w' mb M' ∧ Mv (fun i => i = nb ∨ i = mb) w1 w'

set_option maxHeartbeats 2000000 in
set_option maxRecDepth 100000 in
theorem hlock1_any (w : World) (v0 : Value) (lock lock' : Int) (M : List (Int × Value)) (eb : Nat) (he : Whole w eb 3 [.int .i64 lock']) : Chgs 32 #[.pointer (some ⟨eb, 0, none⟩)] w v0 lock lock' M M := by
  intro w1 nb mb hb hnb hmb hn hm
  have h0 := (he.below hb he.size).cell 0 _ rfl
  have z1 := hn.cell 1 _ rfl
  have f1 := hn.frozen 1
  have hmv : Mv (fun i => i = nb ∨ i = mb) w1 (w1.setCell ⟨nb, 1, none⟩ (.int .i64 lock')) := (Mv.refl (fun i => i = nb ∨ i = mb) w1).setCell (p := ⟨nb, 1, none⟩) (fun _ => .inl rfl) _
  have HF := Lib.hid (And.intro (hn.put 1 (.int .i64 lock')) (And.intro (hm.mv ((Mv.refl (fun i => i = nb) w1).one 1 (.int .i64 lock')) (fun e => hm.apart hn e.symm)) hmv))
  show Calls Tryz.prog 32 #[.pointer (some ⟨nb, 0, none⟩), .pointer (some ⟨eb, 0, none⟩)] w1 _
  clear hn hm hmv hb he hnb hmb
  go_enter Tryz.func32, Tryz.ntmps32
  go_wp2_with fail
  go_end0
  exact ⟨rfl, HF.out⟩

set_option maxHeartbeats 4000000 in
set_option maxRecDepth 100000 in
theorem hpop1_any (w : World) (v0 : Value) (lock : Int) (M : List (Int × Value)) (eb lb : Nat) (E : Int) (K2 E2 B2 N2 : Int) (F : Option Addr) (fl nf : Nat) (go kn : Int) (H : Option Addr) (hl nh : Nat) (he : Whole w eb 3 [.int .i64 E]) (hlb : Whole w lb 73 [.int .i64 K2, .int .i64 E2, .int .i64 B2, .int .i64 N2, .slice F fl nf, .int .i64 go, .int .i64 kn, .slice H hl nh]) :
    Chgs 40 #[.pointer (some ⟨lb, 0, none⟩), .pointer (some ⟨eb, 0, none⟩)] w v0 lock lock M ((E, .agg #[.int .i64 K2, .int .i64 E2, .int .i64 B2, .int .i64 N2, .slice F fl nf, .int .i64 go, .int .i64 kn, .slice H hl nh]) :: offI E M) := by
  intro w1 nb mb hb hnb hmb hn hm
  obtain ⟨wd, hwd⟩ : ∃ wd, wd = w1.drew := ⟨_, rfl⟩
  have hbd : Below w1.heap.size w1 wd := by rw [hwd]; exact (Below.refl _ w1).drew
  have hbwd := hb.trans (hbd.mono hb.size)
  have hnd := hn.below hbd hn.size
  have hed := he.below hbwd he.size
  have hld := hlb.below hbwd hlb.size
  have hmd := hm.mv (Mv.of_new hbd (fun _ => False)) (fun k => k)
  obtain ⟨w6, hrun, hM6, hmv6, hz6⟩ := hmd.store (P := Tryz.prog) (t := 59) Tryz.underlying59 Tryz.underlying3 E (.agg #[.int .i64 K2, .int .i64 E2, .int .i64 B2, .int .i64 N2, .slice F fl nf, .int .i64 go, .int .i64 kn, .slice H hl nh])
  have HN6 := Lib.hid (hmv6.whole hnd (hmd.apart hnd))
  have HE6 := Lib.hid (hmv6.whole hed (hmd.apart hed))
  have HL6 := Lib.hid (hmv6.whole hld (hmd.apart hld))
  have HM6 := Lib.hid hM6
  have HMV := Lib.hid (show Mv (fun i => i = nb ∨ i = mb) w1 w6 from (Mv.of_new hbd _).trans hmv6 (fun _ _ k => .inr k))
  have HND := Lib.hid hnd
  have HED := Lib.hid hed
  have HLD := Lib.hid hld
  have HRUN := Lib.hid hrun
  show Calls Tryz.prog 40 #[.pointer (some ⟨nb, 0, none⟩), .pointer (some ⟨lb, 0, none⟩), .pointer (some ⟨eb, 0, none⟩)] w1 _
  clear hn hm hb he hnb hmb hbd hbwd hnd hed hld hmd hrun hM6 hmv6 hz6 hlb
  go_enter Tryz.func40, Tryz.ntmps40
  go_wp2_with fail
  refine wp_region_planT (fun W => W.cell? ⟨nb, 2, none⟩ = some (.map (some mb)) ∧ W.cell? ⟨eb, 0, none⟩ = some (.int .i64 E) ∧ W.cell? ⟨lb, 0, none⟩ = some (.int .i64 K2) ∧ W.cell? ⟨lb, 1, none⟩ = some (.int .i64 E2) ∧ W.cell? ⟨lb, 2, none⟩ = some (.int .i64 B2) ∧ W.cell? ⟨lb, 3, none⟩ = some (.int .i64 N2) ∧ W.cell? ⟨lb, 4, none⟩ = some (.slice F fl nf) ∧ W.cell? ⟨lb, 5, none⟩ = some (.int .i64 go) ∧ W.cell? ⟨lb, 6, none⟩ = some (.int .i64 kn) ∧ W.cell? ⟨lb, 7, none⟩ = some (.slice H hl nh)) (.take 0 (.take 1 (.take 2 (.take 3 (.take 4 (.take 5 (.step 6 .done))))))) (by kernel_rfl) (by kernel_rfl) (fun _ _ d _ _ h => by cases d <;> exact h) (by rw [← hwd]; exact ⟨HND.out.cell 2 _ rfl, HED.out.cell 0 _ rfl, HLD.out.cell 0 _ rfl, HLD.out.cell 1 _ rfl, HLD.out.cell 2 _ rfl, HLD.out.cell 3 _ rfl, HLD.out.cell 4 _ rfl, HLD.out.cell 5 _ rfl, HLD.out.cell 6 _ rfl, HLD.out.cell 7 _ rfl⟩) ?_
  rw [← hwd]
  clear hwd
  (refine PlanT.takeI (v := ?_) rfl rfl ?_ ?_; rotate_left; (focus (intro W hW; obtain ⟨k0, k1, k2, k3, k4, k5, k6, k7, k8, k9⟩ := hW; go_simp; (try with_reducible rfl); done)); (try simp only [Act.put, List.setIfInBounds_toArray, List.set_cons_zero, List.set_cons_succ]))
  (refine PlanT.takeI (v := ?_) rfl rfl ?_ ?_; rotate_left; (focus (intro W hW; obtain ⟨k0, k1, k2, k3, k4, k5, k6, k7, k8, k9⟩ := hW; go_simp; (try with_reducible rfl); done)); (try simp only [Act.put, List.setIfInBounds_toArray, List.set_cons_zero, List.set_cons_succ]))
  (refine PlanT.takeI (v := ?_) rfl rfl ?_ ?_; rotate_left; (focus (intro W hW; obtain ⟨k0, k1, k2, k3, k4, k5, k6, k7, k8, k9⟩ := hW; go_simp; (try with_reducible rfl); done)); (try simp only [Act.put, List.setIfInBounds_toArray, List.set_cons_zero, List.set_cons_succ]))
  (refine PlanT.takeI (v := ?_) rfl rfl ?_ ?_; rotate_left; (focus (intro W hW; obtain ⟨k0, k1, k2, k3, k4, k5, k6, k7, k8, k9⟩ := hW; go_simp; (try with_reducible rfl); done)); (try simp only [Act.put, List.setIfInBounds_toArray, List.set_cons_zero, List.set_cons_succ]))
  (refine PlanT.takeI (v := ?_) rfl rfl ?_ ?_; rotate_left; (focus (intro W hW; obtain ⟨k0, k1, k2, k3, k4, k5, k6, k7, k8, k9⟩ := hW; go_simp; (try with_reducible rfl); done)); (try simp only [Act.put, List.setIfInBounds_toArray, List.set_cons_zero, List.set_cons_succ]))
  (refine PlanT.takeI (v := ?_) rfl rfl ?_ ?_; rotate_left; (focus (intro W hW; obtain ⟨k0, k1, k2, k3, k4, k5, k6, k7, k8, k9⟩ := hW; go_simp; (try with_reducible rfl); done)); (try simp only [Act.put, List.setIfInBounds_toArray, List.set_cons_zero, List.set_cons_succ]))
  have hrun := HRUN.out
  refine wpOp_stepT rfl rfl (fun Kk hK => ?_)
  go_simp
  refine hK.out _ _ ⟨HN6.out.cell 2 _ rfl, HE6.out.cell 0 _ rfl, HL6.out.cell 0 _ rfl, HL6.out.cell 1 _ rfl, HL6.out.cell 2 _ rfl, HL6.out.cell 3 _ rfl, HL6.out.cell 4 _ rfl, HL6.out.cell 5 _ rfl, HL6.out.cell 6 _ rfl, HL6.out.cell 7 _ rfl⟩ ?_
  clear hK Kk hrun
  (try simp only [Act.put, List.setIfInBounds_toArray, List.set_cons_zero, List.set_cons_succ])
  simp only [PlanT]
  (try go_wp2_with fail)
  go_end0
  exact ⟨rfl, HN6.out, HM6.out, HMV.out⟩

set_option maxHeartbeats 16000000 in
set_option maxRecDepth 100000 in
theorem hanew_any (base q qb p mb : Nat) (Gb Gf : Nat → Prop) (b : Bks) (lock lock' : Int) (M : List (Int × Value)) (y : LgV) (F : FuncId) (caps : Array Value) (w : World) (hk : BkAt w base qb p Gb b) (hq : Whole w q 61 [.pointer (some ⟨qb, 0, none⟩), .int .i64 lock, .map (some mb), .bool false]) (hm : MapI w mb M) (hy : LgIs w base Gf y) (hlk : 0 ≤ lock' ∧ lock' < 4611686018427387904)
    (hn : ¬ Gb q) (hF : ∀ args w, (callFunc F args).run Tryz.prog w = .ok (.enter F args) w) (hc : Chgs F caps w (.pointer (some ⟨qb, 0, none⟩)) lock lock' M [y.pr]) (ha : (b.reset ((recs1 lock' y.g).map (·.B))).1 = 0) :
    Calls Tryz.prog 31 #[.pointer (some ⟨q, 0, none⟩), .func (.func F) #[] caps] w fun e w' => e = .returned (.int .i64 0) ∧ ∃ m2 Gb', Whole w' q 61 [.pointer (some ⟨qb, 0, none⟩), .int .i64 lock', .map (some m2), .bool false] ∧
      BkAt w' base qb p Gb' (b.reset ((recs1 lock' y.g).map (·.B))).2 ∧ (∀ i, Gb' i → Gb i ∨ w.heap.size ≤ i) ∧ ¬ Gb' q ∧ ¬ Gb' m2 ∧ MapI w' m2 [y.pr] ∧ w.heap.size ≤ m2 ∧ Mv (fun i => Gb i ∨ i = q) w w' := by
  have hmf : ∀ (fn : Fn) (first cap : Array Value) (w : World), (Instr.makeFunc fn first cap).run Tryz.prog w = .ok (.func fn first cap) w := fun _ _ _ _ => rfl
  have hlow := hk.low
  obtain ⟨w1, hw1⟩ : ∃ w1, w1 = w.alloc (.cells #[.pointer (some ⟨q, 0, none⟩)] 26) := ⟨_, rfl⟩
  obtain ⟨w2, hw2⟩ : ∃ w2, w2 = w1.alloc (.cells #[.pointer (some ⟨qb, 0, none⟩), .int .i64 lock, .map (some mb), .bool false] 61) := ⟨_, rfl⟩
  have hz1 : w1.heap.size = w.heap.size + 1 := by rw [hw1]; simp
  have hz2 : w2.heap.size = w.heap.size + 1 + 1 := by rw [hw2, World.size_alloc, hz1]
  have hb1 : Below w.heap.size w w1 := by rw [hw1]; exact (Below.refl _ w).alloc (Nat.le_refl _) _
  have hb2 : Below w.heap.size w w2 := by rw [hw2]; exact hb1.alloc hb1.size _
  have hC2 : Whole w2 w.heap.size 26 [.pointer (some ⟨q, 0, none⟩)] := by rw [hw2, hw1]; exact (Whole.fresh w _ [_]).alloc _
  have hN2 : Whole w2 (w.heap.size + 1) 61 [.pointer (some ⟨qb, 0, none⟩), .int .i64 lock, .map (some mb), .bool false] := by rw [hw2, ← hz1]; exact Whole.fresh w1 _ [_, _, _, _]
  obtain ⟨cb, hcb⟩ : ∃ cb, cb = w.heap.size := ⟨_, rfl⟩
  obtain ⟨nb, hnb⟩ : ∃ nb, nb = w.heap.size + 1 := ⟨_, rfl⟩
  rw [← hcb] at hC2
  rw [← hnb] at hN2
  have hq1 := hq.below hb1 hq.size
  have q0 := hq1.cell 0 _ rfl
  have q1 := hq1.cell 1 _ rfl
  have q2 := hq1.cell 2 _ rfl
  have q3 := hq1.cell 3 _ rfl
  have hm2 := hm.mv (Mv.of_new hb2 (fun _ => False)) (fun k => k)
  have HCL := Lib.hid (hclone_any hm2)
  have HC2 := Lib.hid hC2
  have HN2 := Lib.hid hN2
  have HB2 := Lib.hid hb2
  have HK := Lib.hid hk
  have HQ := Lib.hid hq
  have HLW := Lib.hid (fun i (hi : Gb i) => (hlow.2 i hi).2)
  have HNG := Lib.hid hn
  have HY := Lib.hid hy
  have HCH := Lib.hid hc
  have HA := Lib.hid ha
  have HLK := Lib.hid hlk
  have HZ := Lib.hid (And.intro hcb (And.intro hnb hz2))
  have hc2 := hC2.cell 0 _ rfl
  have hc2q := (hq.below hb2 hq.size).cell 2 _ rfl
  rw [hw1] at q0 q1 q2 q3
  rw [hw2, hw1] at hc2q hc2
  clear hk hq hm hy hlk hn hc ha hlow hz1 hz2 hb1 hb2 hC2 hN2 hq1 hm2
  go_enter Tryz.func31, Tryz.ntmps31
  go_wp2_with fail
  rw [← hw1, ← hw2, ← hnb, ← hcb]
  clear hw1 hw2 hnb hcb q0 q1 q2 q3 hc2 hc2q
  refine HCL.out.mono ?_
  rintro e w3 ⟨rfl, hM3, hb3⟩
  have hB3 := HB2.out.trans (hb3.mono HB2.out.size)
  have hN3 := HN2.out.below hb3 HN2.out.size
  have hC3 := HC2.out.below hb3 HC2.out.size
  have z2 := hN3.cell 2 _ rfl
  have f2 := hN3.frozen 2
  obtain ⟨m2, hm2⟩ : ∃ m2, m2 = w2.heap.size := ⟨_, rfl⟩
  rw [← hm2] at hM3 ⊢
  obtain ⟨w4, hw4⟩ : ∃ w4, w4 = w3.setCell ⟨nb, 2, none⟩ (.map (some m2)) := ⟨_, rfl⟩
  have hmv4 : Mv (fun i => i = nb) w3 w4 := by rw [hw4]; exact (Mv.refl (fun i => i = nb) w3).one 2 _
  have hN4 : Whole w4 nb 61 [.pointer (some ⟨qb, 0, none⟩), .int .i64 lock, .map (some m2), .bool false] := by rw [hw4]; exact hN3.put 2 _
  have hmn : m2 ≠ nb := fun e => hM3.apart hN3 e.symm
  have hM4 := hM3.mv hmv4 hmn
  have hz := HZ.out
  have hB4 : Below w.heap.size w w4 := hB3.trans (hmv4.below hB3.size (fun i e => by omega))
  have hC4 := hmv4.whole hC3 (fun e => by omega)
  have hch := HCH.out w4 nb m2 hB4 (by omega) (by omega) hN4 hM4
  have HCC := Lib.hid hch
  have HB4 := Lib.hid hB4
  have HC4 := Lib.hid hC4
  have HM2 := Lib.hid (And.intro hm2 hmn)
  clear hM3 hb3 hB3 hN3 hC3 hmv4 hN4 hmn hM4 hB4 hC4 hch hz hm2 HCL HCH HN2 HC2 HB2
  go_wp2_with fail
  rw [← hw4]
  clear hw4 z2 f2
  refine HCC.out.mono ?_
  rintro e w5 ⟨rfl, hN5, hM5, hmv5⟩
  have hz := HZ.out
  have hm2 := HM2.out
  have hB5 : Below w.heap.size w w5 := HB4.out.trans (hmv5.below HB4.out.size (fun i e => by rcases e with e | e <;> omega))
  have hC5 := hmv5.whole HC4.out (fun e => by rcases e with e | e <;> omega)
  have hQ5 := HQ.out.below hB5 HQ.out.size
  have hK5 := HK.out.mv (Mv.of_new hB5 (fun _ => False)) (fun _ _ k => k)
  have hng : ¬ Gb q ∧ ¬ Gb cb := ⟨HNG.out, fun h => by have := HLW.out _ h; omega⟩
  have hcl := hanew1_any base q qb p cb nb m2 Gb Gf b lock' y (.pointer (some ⟨qb, 0, none⟩)) (.int .i64 lock) (.map (some mb)) (.bool false) (.bool false) w5 hK5 hQ5 hC5 hN5 hM5 (HY.out.new hB5) HLK.out hng HA.out
  have hlay := hlayc_any 64 #[.pointer (some ⟨cb, 0, none⟩), .pointer (some ⟨nb, 0, none⟩)] q (.pointer (some ⟨qb, 0, none⟩)) (.int .i64 lock) (.map (some mb)) (.bool false) (fun w' => ∃ Gb', BkAt w' base qb p Gb' (b.reset ((recs1 lock' y.g).map (·.B))).2 ∧ (∀ i, Gb' i → Gb i ∨ w5.heap.size ≤ i) ∧ Mv Gb w5 w') w5 (fun W => enters_of Tryz.func64 (by kernel_rfl) rfl _ W) hcl (fun w' ⟨_, _, _, hmv⟩ => hmv.whole hQ5 HNG.out)
  have HLAY := Lib.hid hlay
  have c5 := hC5.cell 0 _ rfl
  have HC5 := Lib.hid hC5
  have HN5 := Lib.hid hN5
  have HM5 := Lib.hid hM5
  have HQ5 := Lib.hid hQ5
  have HB5 := Lib.hid hB5
  clear hN5 hM5 hmv5 hB5 hC5 hQ5 hK5 hng hcl hlay hz hm2 HCC HB4 HC4 HY HA HK
  go_wp2_with fail
  clear c5
  refine HLAY.out.mono ?_
  rintro e w7 ⟨rfl, w6, ⟨Gb', hk6, hg6, hm6⟩, hw7⟩
  have hz := HZ.out
  have hm2 := HM2.out
  have hqs := HQ.out.size
  have hms := HM5.out.size
  have hns := HN5.out.size
  have hcs := HC5.out.size
  have hGs : ∀ i, Gb i → i < w.heap.size := HLW.out
  have hQ6 := hm6.whole HQ5.out HNG.out
  have hC6 := hm6.whole HC5.out (fun h => by have := hGs _ h; omega)
  have hN6 := hm6.whole HN5.out (fun h => by have := hGs _ h; omega)
  have hM6 := HM5.out.mv hm6 (fun h => by have := hGs _ h; omega)
  have hmq : Mv (fun i => i = q) w6 w7 := by rw [hw7]; exact (Mv.refl (fun i => i = q) w6).one 3 _
  have hQ7 : Whole w7 q 61 [.pointer (some ⟨qb, 0, none⟩), .int .i64 lock, .map (some mb), .bool false] := by rw [hw7]; exact hQ6.put 3 _
  have hC7 := hmq.whole hC6 (fun e => by omega)
  have hN7 := hmq.whole hN6 (fun e => by omega)
  have hg : ¬ Gb' q ∧ ¬ Gb' m2 := by
    refine ⟨fun h => ?_, fun h => ?_⟩
    · rcases hg6 _ h with k | k
      · exact HNG.out k
      · have := HB5.out.size; omega
    · rcases hg6 _ h with k | k
      · have := hGs _ k; omega
      · omega
  have z0 := hQ7.cell 0 _ rfl
  have z1 := hQ7.cell 1 _ rfl
  have z2 := hQ7.cell 2 _ rfl
  have z3 := hQ7.cell 3 _ rfl
  have f0 := hQ7.frozen 0
  have f1 := hQ7.frozen 1
  have f2 := hQ7.frozen 2
  have f3 := hQ7.frozen 3
  have n0 := hN7.cell 0 _ rfl
  have n1 := hN7.cell 1 _ rfl
  have n2 := hN7.cell 2 _ rfl
  have n3 := hN7.cell 3 _ rfl
  have c0 := hC7.cell 0 _ rfl
  have hnq : nb ≠ q := by omega
  have hqn : q ≠ nb := by omega
  have HQ7 := Lib.hid hQ7
  have HFIN := Lib.hid (And.intro hk6 (And.intro hg6 (And.intro hm6 (And.intro hmq (And.intro hM6 hg)))))
  have hq7s := hQ7.size
  clear hz hm2 hqs hms hns hcs hGs hQ6 hC6 hN6 hM6 hQ7 hC7 hN7 hg hk6 hg6 hm6 hmq hw7 HLAY HC5 HN5
  go_wp2_with fail
  go_ret
  obtain ⟨hk6, hg6, hm6, hmq, hM6, hg⟩ := HFIN.out
  have hQ8 := ((((HQ7.out.put 0 (.pointer (some ⟨qb, 0, none⟩))).put 1 (.int .i64 lock')).put 2 (.map (some m2))).put 3 (.bool false))
  simp only [List.set] at hQ8
  have hm8 := (((((Mv.refl (fun i => i = q) w7).one 0 (.pointer (some ⟨qb, 0, none⟩))).one 1 (.int .i64 lock')).one 2 (.map (some m2))).one 3 (.bool false))
  have hmq8 := hmq.trans hm8 (fun _ _ k => k)
  have hz := HZ.out
  have hm2 := HM2.out
  have hqs := HQ.out.size
  refine ⟨rfl, m2, Gb', hQ8, hk6.mv hmq8 (fun i hi e => hg.1 (e ▸ hi)), fun i hi => ?_, hg.1, hg.2, hM6.mv hmq8 (fun e => by omega), by omega, ?_⟩
  · rcases hg6 i hi with k | k
    · exact .inl k
    · exact .inr (Nat.le_trans HB5.out.size k)
  · exact ((Mv.of_new HB5.out _).trans hm6 (fun _ _ k => .inl k)).trans hmq8 (fun _ _ k => .inr k)
end Go.Proofs.YtmigninibdecmaaGreat
namespace Go.Proofs.YtmigninibdecmaaGreat
open Go.RowKit
attribute [local go_sem] less_eq same_eq le_eq ge_eq gt_eq

theorem opens_new (room : Int) : Bks.opens ⟨[], [], room, -1, false⟩ = (0, ⟨[], false, ⟨[], [], room, -1, false⟩⟩) := by
  have e : Bks.all ⟨[], [], room, -1, false⟩ = [] := rfl
  have r : readAns [] = ([], 0) := rfl
  unfold Bks.opens
  rw [if_neg (by simp), e, r]
  rfl
set_option maxHeartbeats 4000000 in
set_option maxRecDepth 100000 in
theorem hopen_any (room : Int) (h1 : 10000 ≤ room) (h2 : room ≤ 1048576) (w w1 : World) (p : Nat) (ht : TapeAt w1 w.heap.size p none ⟨[], [], room, -1, false⟩) (hb : Below w.heap.size w w1) :
    Calls Tryz.prog 9 #[.pointer (some ⟨p, 0, none⟩)] w1 fun e w' => ∃ q G, e = .returned (.tuple #[.pointer (some ⟨q, 0, none⟩), .int .i64 0]) ∧ ChAt w' w.heap.size q G (Ch.new room) ∧ Below w.heap.size w w' := by
  have hop := bopen_any w.heap.size p none ⟨[], [], room, -1, false⟩ w1 ht (by rw [opens_new])
  rw [opens_new] at hop
  simp only at hop
  have hp := ht.low.1
  have HOP := Lib.hid hop
  have HB := Lib.hid hb
  have HP := Lib.hid hp
  clear hop hb hp ht
  go_enter Tryz.func9, Tryz.ntmps9
  go_wp2_with fail
  refine HOP.out.mono ?_
  rintro e w2 ⟨qb, Gb, rfl, hk2, hg2, hm2⟩
  have hb2 : Below w.heap.size w w2 := HB.out.trans (hm2.below HB.out.size (fun i hi => by
    have hp := HP.out
    unfold TapeD at hi
    rcases hi with e | e
    · omega
    · cases e))
  obtain ⟨w3, hw3⟩ : ∃ w3, w3 = w2.alloc (.map #[] 0) := ⟨_, rfl⟩
  have hb3 : Below w2.heap.size w2 w3 := by rw [hw3]; exact (Below.refl _ w2).alloc (Nat.le_refl _) _
  have hz3 : w3.heap.size = w2.heap.size + 1 := by rw [hw3]; simp
  have hM3 : MapI w3 w2.heap.size [] := by rw [hw3]; exact MapI.made w2
  obtain ⟨w4, hw4⟩ : ∃ w4, w4 = w3.alloc (.cells #[.pointer (some ⟨qb, 0, none⟩), .int .i64 0, .map (some w2.heap.size), .bool false] 61) := ⟨_, rfl⟩
  have hb4 : Below w2.heap.size w2 w4 := by rw [hw4]; exact hb3.alloc hb3.size _
  have hQ4 : Whole w4 (w2.heap.size + 1) 61 [.pointer (some ⟨qb, 0, none⟩), .int .i64 0, .map (some w2.heap.size), .bool false] := by rw [hw4, ← hz3]; exact Whole.fresh w3 _ [_, _, _, _]
  have hM4 : MapI w4 w2.heap.size [] := by rw [hw4]; exact hM3.mv ((Mv.refl (fun _ => False) w3).alloc _) (fun k => k)
  have hK4 := hk2.mv (Mv.of_new hb4 (fun _ => False)) (fun _ _ k => k)
  have hrc := brec_any w.heap.size qb p Gb _ w4 hK4 (by simp)
  have HRC := Lib.hid hrc
  have HK4 := Lib.hid hK4
  have HQ4 := Lib.hid hQ4
  have HM4 := Lib.hid hM4
  have HB4 := Lib.hid (hb2.trans (hb4.mono hb2.size))
  have HG2 := Lib.hid (And.intro hg2 (And.intro hk2.low hb2.size))
  have q0 := hQ4.cell 0 _ rfl
  rw [hw4, hw3] at q0
  have hmk : (Instr.makeMap 59 none).run Tryz.prog w2 = .ok (.map (some w2.heap.size)) (w2.alloc (.map #[] 0)) := rfl
  clear hk2 hg2 hm2 hb2 hb3 hM3 hb4 hQ4 hM4 hK4 hrc HOP hz3
  go_wp2_with fail
  rw [← hw3, ← hw4]
  clear hw3 hw4 q0 hmk
  refine HRC.out.mono ?_
  rintro e w5 ⟨A5, c5, rows, rfl, -, htx, hb5⟩
  have hrows : rows = [] := by
    have := congrArg List.length htx
    rw [texts, List.length_map] at this
    exact List.eq_nil_of_length_eq_zero this
  subst hrows
  obtain ⟨mb, hmb⟩ : ∃ mb, mb = w2.heap.size := ⟨_, rfl⟩
  obtain ⟨q, hq⟩ : ∃ q, q = w2.heap.size + 1 := ⟨_, rfl⟩
  have hQ5 := HQ4.out.below hb5 HQ4.out.size
  have hM5 := HM4.out.mv (Mv.of_new hb5 (fun _ => False)) (fun k => k)
  have hK5 := HK4.out.mv (Mv.of_new hb5 (fun _ => False)) (fun _ _ k => k)
  have hB5 := HB4.out.trans (hb5.mono HB4.out.size)
  rw [← hq, ← hmb] at hQ5
  rw [← hmb] at hM5
  rw [← hq]
  obtain ⟨hg2, hlo2, hs2⟩ := HG2.out
  have hfin : ChAt w5 w.heap.size q (fun i => Gb i ∨ i = q ∨ i = mb) (Ch.new room) := by
    have hqs := hQ5.size
    have hms := hM5.size
    have hgs : ∀ i, Gb i → i < w2.heap.size := fun i hi => (hlo2.2 i hi).2
    refine ⟨qb, p, mb, Gb, fun _ => False, _, [], ⟨hQ5, hK5, hM5, rfl, (fun _ hx => absurd hx List.not_mem_nil), (fun _ hx => absurd hx List.not_mem_nil), ⟨rfl, rfl, rfl, rfl, rfl, ⟨h1, h2⟩, by simp, by simp⟩, ⟨Int.le_refl _, (by show (0 : Int) < 4611686018427387904; decide)⟩, ⟨(fun h => by have := hgs _ h; omega), fun k => k, .inr (.inl rfl)⟩, ⟨(fun h => by have := hgs _ h; omega), fun k => k, .inr (.inr rfl), (by omega)⟩, fun i hi => ⟨.inl hi, fun k => k⟩, fun i k => k.elim, hB5.size, ?_⟩⟩
    rintro i (hi | hi | hi)
    · exact hK5.low.2 i hi
    · omega
    · omega
  have HFIN := Lib.hid (And.intro hfin hB5)
  clear hQ5 hM5 hK5 hB5 hg2 hlo2 hs2 hfin hmb hq htx hb5 HRC HK4 HQ4 HM4 HB4 HG2
  go_wp2_with fail
  go_loopw [29] (fun iv wr => iv = .int .i64 0 ∧ wr = w5) (fun _ _ => 0)
  case atStart => exact ⟨rfl, rfl⟩
  case round =>
    obtain ⟨rfl, rfl⟩ := hrel
    go_wp2_with fail
    go_ret2
    exact ⟨q, _, rfl, HFIN.out.1, HFIN.out.2⟩
set_option maxHeartbeats 1000000 in
set_option maxRecDepth 100000 in
theorem hnone_open (w : World) : Calls Tryz.prog 9 #[.pointer none] w fun e w' => e = .returned (.tuple #[.pointer none, .int .i64 1]) ∧ Below w.heap.size w w' := by
  have HOP := Lib.hid (bnone_open w)
  go_enter Tryz.func9, Tryz.ntmps9
  go_wp2_with fail
  refine HOP.out.mono ?_
  rintro e w2 ⟨rfl, hb⟩
  have HB := Lib.hid hb
  clear hb
  go_wp2_with fail
  go_ret2
  exact ⟨rfl, HB.out⟩
end Go.Proofs.YtmigninibdecmaaGreat

/- Peek, Pop. Pop: batches that are not needed any more. What the program's chests answer. The simplest facts, which each statement of the chest layer asks first. Rows of batches that grow in memory of the law's own. Numbers held against numbers, as the reference does. The reference: whether a batch, a state is sound; the same of the same. The reference's Batches: the same batches are the same. A region with a post of its own: what it leaves is said once, whatever order its operations come in. -/
import Derived.Test.YtmigninibdecmaaGreatFas
import Derived.Test.YtmigninibdecmaaGreatFai
import Derived.Test.YtmigninibdecmaaGreatFah
import Derived.Test.YtmigninibdecmaaGreatFaa
import Derived.Test.YtmigninibdecmaaGreatFab
import Derived.Test.YtmigninibdecmaaGreatFam
import Derived.Test.YtmigninibdecmaaGreatFad
namespace Go.Proofs.YtmigninibdecmaaGreat
open Go.RowKit
attribute [local go_sem] less_eq same_eq le_eq ge_eq gt_eq

theorem RdG.take {α : Type} {enc : α → List Value} {k : Nat} {w : World} {B : Nat} {G : Nat → Prop} {A : Option Addr} {c m : Nat} {l : List α} (h : RdG enc k w B G (.slice A m c) l) (n : Nat) (hn : n ≤ l.length) : RdG enc k w B G (.slice A n c) (l.take n) := by
  obtain ⟨A', c', hv, hc, hi⟩ := h
  injection hv with h1 h2 h3
  subst h1 h3
  refine ⟨A, c, by simp [Nat.min_eq_left hn], by simp; omega, fun i hs => ?_⟩
  have hs' : i < l.length := by simp at hs; omega
  obtain ⟨b, o, hA, hB, hg, h4⟩ := hi i hs'
  exact ⟨b, o, hA, hB, hg, fun j u hu => h4 j u (by simpa using hu)⟩
theorem RdBts.take {w : World} {B : Nat} {G : Nat → Prop} {A : Option Addr} {m c : Nat} {l : List BtV} (h : RdBts w B G (.slice A m c) l) (n : Nat) (hn : n ≤ l.length) : RdBts w B G (.slice A n c) (l.take n) :=
  ⟨h.row.take n hn, fun x hx => h.parts x (List.mem_of_mem_take hx)⟩

set_option maxHeartbeats 16000000 in
set_option maxRecDepth 100000 in
theorem hpeek_any (base q : Nat) (G : Nat → Prop) (h : Ch) (e v m : Int) (w : World) (_he : 1 ≤ e ∧ e < 4611686018427387904) (hv : 0 ≤ v ∧ v < 4611686018427387904) (hm : 0 ≤ m ∧ m < 4611686018427387904) (hh : ChAt w base q G h) (h1 : ∃ g, h.logs = [g] ∧ g.epoch = e) :
    Calls Tryz.prog 15 #[.pointer (some ⟨q, 0, none⟩), .int .i64 e, .int .i64 v, .int .i64 m] w fun x w' => ∃ u l, x = .returned (.tuple #[u, .int .i64 (h.peek e v m).2.1, .int .i64 (h.peek e v m).2.2]) ∧
      l.map (·.t) = (h.peek e v m).1 ∧ RdBts w' w'.heap.size (fun i => i < w.heap.size ∨ G i) u l ∧ Below w.heap.size w w' := by
  obtain ⟨qb, p, mb, Gb, Gf, bk, L, k⟩ := hh
  obtain ⟨g, h1, rfl⟩ := h1
  obtain ⟨x, rfl, rfl⟩ := k.one h1
  obtain ⟨logs, lock, units, room⟩ := h
  simp only at h1
  subst h1
  obtain ⟨⟨ep, ba, go, kn, fi, he⟩, f, F, nf, hd, H, nh⟩ := x
  simp only at k ⊢
  have hxm : (⟨⟨ep, ba, go, kn, fi, he⟩, f, F, nf, hd, H, nh⟩ : LgV) ∈ [(⟨⟨ep, ba, go, kn, fi, he⟩, f, F, nf, hd, H, nh⟩ : LgV)] := List.mem_singleton.2 rfl
  obtain ⟨w1, hw1⟩ : ∃ w1, w1 = w.alloc (.cells #[.int .i64 v, .int .i64 m] 3) := ⟨_, rfl⟩
  have hb1 : Below w.heap.size w w1 := by rw [hw1]; exact (Below.refl _ w).alloc (Nat.le_refl _) _
  have hri : RdI w1 w1.heap.size (.slice (some ⟨w.heap.size, 0, none⟩) 2 2) [v, m] := by
    have h1 : Whole w1 w.heap.size 3 ([v, m].map fun n => .int .i64 n) := by rw [hw1]; exact Whole.fresh w _ [_, _]
    exact RdI.whole h1
  have k1 := k.new hb1
  have hfd := hfind_any base q qb p mb Gb Gf G _ bk _ _ [v, m] (.slice (some ⟨w.heap.size, 0, none⟩) 2 2) w1 k1 hxm hri (fun n hn => by
    rcases List.mem_cons.1 hn with rfl | hn
    · exact hv.1
    · rw [List.mem_singleton.1 hn]; exact hm.1) (by simp)
  rw [LgV.v_eq] at hfd
  simp only at hfd
  have HFD := Lib.hid hfd
  have HK := Lib.hid k
  have HB1 := Lib.hid hb1
  have HV := Lib.hid hv
  have HM := Lib.hid hm
  clear k k1 hb1 hri hfd hv hm
  obtain ⟨POST, hP⟩ : ∃ POST : Ending → World → Prop, POST = fun x w' => ∃ u l, x = .returned (.tuple #[u, .int .i64 ((⟨[⟨ep, ba, go, kn, fi, he⟩], lock, units, room⟩ : Ch).peek ep v m).2.1, .int .i64 ((⟨[⟨ep, ba, go, kn, fi, he⟩], lock, units, room⟩ : Ch).peek ep v m).2.2]) ∧
      l.map (·.t) = ((⟨[⟨ep, ba, go, kn, fi, he⟩], lock, units, room⟩ : Ch).peek ep v m).1 ∧ RdBts w' w'.heap.size (fun i => i < w.heap.size ∨ G i) u l ∧ Below w.heap.size w w' := ⟨_, rfl⟩
  rw [← hP]
  have HP := Lib.hid hP
  clear hP
  go_enter Tryz.func15, Tryz.ntmps15
  go_wp2_with fail
  rw [← hw1]
  clear hw1
  refine HFD.out.mono ?_
  rintro x w2 ⟨rfl, hb2⟩
  obtain ⟨w3, hw3⟩ : ∃ w3, w3 = w2.alloc (.cells #[.int .i64 2, .int .i64 ep, .int .i64 ba, .int .i64 0, .slice F f.length nf, .int .i64 go, .int .i64 kn, .slice H hd.length nh] 73) := ⟨_, rfl⟩
  have hb3 : Below w2.heap.size w2 w3 := by rw [hw3]; exact (Below.refl _ w2).alloc (Nat.le_refl _) _
  have hL3 : Whole w3 w2.heap.size 73 [.int .i64 2, .int .i64 ep, .int .i64 ba, .int .i64 0, .slice F f.length nf, .int .i64 go, .int .i64 kn, .slice H hd.length nh] := by rw [hw3]; exact Whole.fresh w2 _ [.int .i64 2, .int .i64 ep, .int .i64 ba, .int .i64 0, .slice F f.length nf, .int .i64 go, .int .i64 kn, .slice H hd.length nh]
  have hB3 := (HB1.out.trans (hb2.mono HB1.out.size)).trans (hb3.mono (HB1.out.trans (hb2.mono HB1.out.size)).size)
  obtain ⟨lb, hlb⟩ : ∃ lb, lb = w2.heap.size := ⟨_, rfl⟩
  rw [← hlb] at hL3
  have hx3 := (HK.out.log _ hxm).new hB3
  have hbe := hbehind_any 2 ep ba 0 F f.length nf go kn hd H nh v (fun _ => False) w3.heap.size w3 hx3.held (Nat.le_refl _) (by have := hx3.hle; simp only at this; omega)
  unfold lgv at hbe
  have HBE := Lib.hid hbe
  have HL3 := Lib.hid hL3
  have HB3 := Lib.hid hB3
  have HX := Lib.hid (HK.out.log _ hxm)
  clear hb2 hb3 hL3 hB3 hx3 hbe HFD HB1
  by_cases hlt : v < go
  · have HLT := Lib.hid hlt
    go_wp2_with fail
    refine bodyPost_ret (v := .tuple #[.slice none 0 0, .int .i64 0, .int .i64 7]) (by simp [results, Tryz.results15, go_sem]) rfl ?_
    rw [HP.out]
    have hpk : (⟨[⟨ep, ba, go, kn, fi, he⟩], lock, units, room⟩ : Ch).peek ep v m = ([], 0, 7) := by
      unfold Ch.peek
      rw [Ch.find_one, if_pos rfl]
      simp only
      rw [if_pos HLT.out]
    rw [hpk]
    exact ⟨.slice none 0 0, [], rfl, rfl, RdBts.nil _ _ _ _ _, by rw [hw3] at HB3; exact HB3.out⟩
  have HLT := Lib.hid (Int.not_lt.1 hlt)
  go_wp2_with fail
  rw [← hw3, ← hlb]
  clear hw3 hlb hlt
  refine HBE.out.mono ?_
  rintro x w4 ⟨A4, c4, rfl, hr4, hb4⟩
  obtain ⟨Q, hQ⟩ : ∃ Q, Q = hd.drop (upto v hd) := ⟨_, rfl⟩
  have hdl : hd.length - upto v hd = Q.length := by rw [hQ, List.length_drop]
  rw [hdl] at hr4 ⊢
  rw [← hQ] at hr4
  have hq24 : Q.length ≤ 24 := by rw [hQ, List.length_drop]; have := HX.out.hle; simp only at this; omega
  have HQ := Lib.hid hQ
  obtain ⟨n, hn⟩ : ∃ n, n = min m.toNat Q.length := ⟨_, rfl⟩
  have hmin : min m (Q.length : Int) = (n : Int) := by have := HM.out.1; omega
  have hnq : n ≤ Q.length := by omega
  obtain ⟨wd, hwd⟩ : ∃ wd, wd = w4.drew := ⟨_, rfl⟩
  have hbd : Below w4.heap.size w4 wd := by rw [hwd]; exact (Below.refl _ w4).drew
  have hLd := (HL3.out.below hb4 HL3.out.size).below hbd (Nat.lt_of_lt_of_le HL3.out.size hb4.size)
  have hBd := (HB3.out.trans (hb4.mono HB3.out.size)).trans (hbd.mono (HB3.out.trans (hb4.mono HB3.out.size)).size)
  have hC : ∀ W, Below wd.heap.size wd W → W.cell? ⟨lb, 6, none⟩ = some (.int .i64 kn) := fun W hW => (hLd.below hW hLd.size).cell 6 _ rfl
  have hcap : Q.length ≤ c4 := by
    obtain ⟨_, _, e, h, _⟩ := hr4.at
    injection e with _ _ e3
    rw [e3]; exact h
  have hrd : RdBts wd wd.heap.size (fun _ => False) (.slice A4 n c4) (Q.take n) := ((hr4.take n hnq).mono hb4.size (fun _ _ k => k)).next hbd (fun _ _ k => k)
  have HFR := Lib.hid (hfresh_any (Q.take n) (.slice A4 n c4) wd hrd (by rw [List.length_take]; omega) (fun y hy => (HX.out.ok.he y.t (by
    have h1 := HX.out.he
    simp only at h1
    have hy2 := List.mem_of_mem_take hy
    rw [HQ.out] at hy2
    rw [← h1]
    exact List.mem_map.2 ⟨y, List.mem_of_mem_drop hy2, rfl⟩)).sound.2.1))
  have g1 : ¬ (n : Int) < 0 := by omega
  have g2 : (n : Int) ≤ (c4 : Int) := by omega
  have g3 : (n : Int) ≤ (Q.length : Int) := by omega
  have g4 : n ≤ c4 := by omega
  have HC := Lib.hid hC
  have HBD := Lib.hid hBd
  have HN := Lib.hid (And.intro hn hq24)
  clear hb4 hr4 hdl hQ hn hnq hbd hLd hBd hC hcap hrd HBE HL3 HB3 hq24
  go_wp2_with fail
  refine wp_region_planB [(true, 0), (true, 1), (true, 2), (true, 3), (true, 4), (true, 5), (true, 7), (true, 8), (false, 6), (true, 9), (true, 10), (true, 11)] (by kernel_rfl) (by kernel_rfl) (fun _ _ d _ _ h => by cases d <;> exact h) ?_
  rw [← hwd]
  clear hwd
  (refine PlanB.take (v := ?_) rfl rfl ?_ ?_; rotate_left; (focus (intro W hW; have k6 := HC.out W hW; go_simp; (try with_reducible rfl); done)); (try simp only [Act.put, List.setIfInBounds_toArray, List.set_cons_zero, List.set_cons_succ]))
  (refine PlanB.take (v := ?_) rfl rfl ?_ ?_; rotate_left; (focus (intro W hW; have k6 := HC.out W hW; go_simp; (try with_reducible rfl); done)); (try simp only [Act.put, List.setIfInBounds_toArray, List.set_cons_zero, List.set_cons_succ]))
  (refine PlanB.take (v := ?_) rfl rfl ?_ ?_; rotate_left; (focus (intro W hW; have k6 := HC.out W hW; go_simp; (try with_reducible rfl); done)); (try simp only [Act.put, List.setIfInBounds_toArray, List.set_cons_zero, List.set_cons_succ]))
  (refine PlanB.take (v := ?_) rfl rfl ?_ ?_; rotate_left; (focus (intro W hW; have k6 := HC.out W hW; go_simp; (try with_reducible rfl); done)); (try simp only [Act.put, List.setIfInBounds_toArray, List.set_cons_zero, List.set_cons_succ]))
  (refine PlanB.take (v := ?_) rfl rfl ?_ ?_; rotate_left; (focus (intro W hW; have k6 := HC.out W hW; go_simp; (try with_reducible rfl); done)); (try simp only [Act.put, List.setIfInBounds_toArray, List.set_cons_zero, List.set_cons_succ]))
  (refine PlanB.take (v := ?_) rfl rfl ?_ ?_; rotate_left; (focus (intro W hW; have k6 := HC.out W hW; go_simp; (try with_reducible rfl); done)); (try simp only [Act.put, List.setIfInBounds_toArray, List.set_cons_zero, List.set_cons_succ]))
  (refine PlanB.take (v := ?_) rfl rfl ?_ ?_; rotate_left; (focus (intro W hW; have k6 := HC.out W hW; go_simp; (try with_reducible rfl); done)); (try simp only [Act.put, List.setIfInBounds_toArray, List.set_cons_zero, List.set_cons_succ]))
  (refine PlanB.take (v := ?_) rfl rfl ?_ ?_; rotate_left; (focus (intro W hW; have k6 := HC.out W hW; go_simp; (try with_reducible rfl); done)); (try simp only [Act.put, List.setIfInBounds_toArray, List.set_cons_zero, List.set_cons_succ]))
  refine PlanB.step rfl rfl (fun Kk hK => ?_)
  go_simp
  go_at_call 26
  refine HFR.out.mono ?_
  rintro o9 w9 ⟨v9, l9, rfl, hl9, hrow, hb9⟩
  refine hK.out _ _ hb9 ?_
  obtain ⟨A9, c9, rfl⟩ := hrow.form
  have hpost : POST (.returned (.tuple #[.slice A9 l9.length c9, .int .i64 kn, .int .i64 0])) w9 := by
    have hch : chainB go he := HX.out.ok.ch
    have hhe : hd.map (·.t) = he := HX.out.he
    have hpk := Ch.peek_one ⟨ep, ba, go, kn, fi, he⟩ lock units room v m HLT.out
    simp only at hpk
    rw [HP.out, hpk, behindP_filter v hch, ← hhe, ← upto_drop, ← HQ.out]
    have htk : (Q.map (·.t)).take m.toNat = (Q.take n).map (·.t) := by
      rw [List.map_take, HN.out.1]
      rcases Nat.le_total m.toNat Q.length with h | h
      · rw [Nat.min_eq_left h]
      · rw [Nat.min_eq_right h, List.take_of_length_le (by rw [List.length_map]; exact h), List.take_of_length_le (by rw [List.length_map]; exact Nat.le_refl _)]
    refine ⟨_, l9, rfl, by rw [hl9, htk], hrow.bts.mono (Nat.le_refl _) (fun i _ hi => ?_), HBD.out.trans (hb9.mono HBD.out.size)⟩
    have hs := HBD.out.size
    rcases hi with hi | hi
    · omega
    · have := (HK.out.low.2 i hi).2; omega
  obtain ⟨n9, hn9⟩ : ∃ n9, n9 = l9.length := ⟨_, rfl⟩
  rw [← hn9] at hpost ⊢
  have HFN := Lib.hid hpost
  have HB9 := Lib.hid hb9
  clear hK Kk hl9 hrow hb9 hpost hn9 HFR
  (try simp only [Act.put, List.setIfInBounds_toArray, List.set_cons_zero, List.set_cons_succ])
  (refine PlanB.take (v := ?_) rfl rfl ?_ ?_; rotate_left; (focus (intro W hW; have k6 := HC.out W (HB9.out.trans (hW.mono HB9.out.size)); go_simp; (try with_reducible rfl); done)); (try simp only [Act.put, List.setIfInBounds_toArray, List.set_cons_zero, List.set_cons_succ]))
  (refine PlanB.take (v := ?_) rfl rfl ?_ ?_; rotate_left; (focus (intro W hW; have k6 := HC.out W (HB9.out.trans (hW.mono HB9.out.size)); go_simp; (try with_reducible rfl); done)); (try simp only [Act.put, List.setIfInBounds_toArray, List.set_cons_zero, List.set_cons_succ]))
  (refine PlanB.take (v := ?_) rfl rfl ?_ ?_; rotate_left; (focus (intro W hW; have k6 := HC.out W (HB9.out.trans (hW.mono HB9.out.size)); go_simp; (try with_reducible rfl); done)); (try simp only [Act.put, List.setIfInBounds_toArray, List.set_cons_zero, List.set_cons_succ]))
  simp only [PlanB]
  go_wp2_with fail
  exact bodyPost_ret (v := .tuple #[.slice A9 n9 c9, .int .i64 kn, .int .i64 0]) (by simp [results, Tryz.results15, go_sem]) rfl HFN.out
end Go.Proofs.YtmigninibdecmaaGreat
namespace Go.Proofs.YtmigninibdecmaaGreat
open Go.RowKit
attribute [local go_sem] less_eq same_eq le_eq ge_eq gt_eq

theorem takeWhile_all {α : Type} (p : α → Bool) : ∀ (l : List α) (y : α), y ∈ l.takeWhile p → p y = true
  | [], y, h => by cases h
  | x :: l, y, h => by
    rw [List.takeWhile_cons] at h
    split at h
    · rcases List.mem_cons.1 h with rfl | h
      · assumption
      · exact takeWhile_all p l y h
    · cases h
/-- what goes, and what stays -/
theorem cut_pop {go : Int} {l : List BtV} (hc : chainB go (l.map (·.t))) (v : Int) {u : Nat} (hu : u = upto v l) (h1 : 1 ≤ u) :
    ∃ V, (∃ h : u - 1 < l.length, l[u - 1].t.version = V) ∧ go < V ∧ upto V l = u ∧ chainB V ((l.drop u).map (·.t)) ∧ Ch.lastGone go v (l.map (·.t)) = V ∧ (l.map (·.t)).dropWhile (fun b => b.version ≤ v) = (l.drop u).map (·.t) := by
  have hle : u ≤ l.length := by rw [hu]; exact upto_le v l
  have hsp : l.map (·.t) = (l.take u).map (·.t) ++ (l.drop u).map (·.t) := by rw [← List.map_append, List.take_append_drop]
  have hpl : ((l.take u).map (·.t)).length = u := by rw [List.length_map, List.length_take]; omega
  have hc' := hc
  rw [hsp] at hc'
  obtain ⟨hc1, hc2⟩ := chainB_app.1 hc'
  have hV : topB go ((l.take u).map (·.t)) = (l[u - 1]'(by omega)).t.version := by
    rw [topB_last go ((l.take u).map (·.t)) (u - 1) (by rw [hpl]; omega), List.getElem_map, List.getElem_take]
  have htw : (l.map (·.t)).takeWhile (fun b => b.version ≤ v) = (l.take u).map (·.t) ∧ (l.map (·.t)).dropWhile (fun b => b.version ≤ v) = (l.drop u).map (·.t) := by
    have h2 : (l.map (·.t)).takeWhile (fun b => b.version ≤ v) ++ (l.map (·.t)).dropWhile (fun b => b.version ≤ v) = (l.take u).map (·.t) ++ (l.drop u).map (·.t) := by rw [List.takeWhile_append_dropWhile, hsp]
    exact List.append_inj h2 (by rw [hpl, hu]; rfl)
  have hup : upto (topB go ((l.take u).map (·.t))) l = u := by
    unfold upto
    have := (Ch.drop_app hc').2
    rw [← hsp] at this
    rw [this, hpl]
  refine ⟨topB go ((l.take u).map (·.t)), ⟨by omega, hV.symm⟩, ?_, hup, hc2, ?_, htw.2⟩
  · have hm : (l[u - 1]'(by omega)).t ∈ (l.take u).map (·.t) := List.mem_map.2 ⟨_, List.mem_take_iff_getElem.2 ⟨u - 1, by omega, rfl⟩, rfl⟩
    have := (chainB_mem hc1 _ hm).1
    rw [hV]
    exact this
  · unfold Ch.lastGone
    rw [htw.1]

set_option maxHeartbeats 16000000 in
set_option maxRecDepth 100000 in
theorem hpop_any (base q : Nat) (G : Nat → Prop) (h : Ch) (e v : Int) (w : World) (_he : 1 ≤ e ∧ e < 4611686018427387904) (hv : 0 ≤ v ∧ v < 4611686018427387904) (_hs : h.Spare 1) (hh : ChAt w base q G h) (h1 : ∃ g, h.logs = [g] ∧ g.epoch = e) :
    Calls Tryz.prog 16 #[.pointer (some ⟨q, 0, none⟩), .int .i64 e, .int .i64 v] w fun x w' => ∃ G', x = .returned (.int .i64 (h.pop e v).1) ∧ ChAt w' base q G' (h.pop e v).2 ∧ (∀ i, G' i → G i ∨ w.heap.size ≤ i) ∧ Mv G w w' := by
  obtain ⟨qb, p, mb, Gb, Gf, bk, L, k⟩ := hh
  obtain ⟨g, h1, rfl⟩ := h1
  obtain ⟨x, rfl, rfl⟩ := k.one h1
  obtain ⟨logs, lock, units, room⟩ := h
  simp only at h1
  subst h1
  obtain ⟨⟨ep, ba, go, kn, fi, he⟩, f, F, nf, hd, H, nh⟩ := x
  simp only at k ⊢
  have hxm : (⟨⟨ep, ba, go, kn, fi, he⟩, f, F, nf, hd, H, nh⟩ : LgV) ∈ [(⟨⟨ep, ba, go, kn, fi, he⟩, f, F, nf, hd, H, nh⟩ : LgV)] := List.mem_singleton.2 rfl
  obtain ⟨w0, hw0⟩ : ∃ w0, w0 = w.alloc (.cells #[.int .i64 ep] 3) := ⟨_, rfl⟩
  obtain ⟨w1, hw1⟩ : ∃ w1, w1 = w0.alloc (.cells #[.int .i64 v] 3) := ⟨_, rfl⟩
  have hz0 : w0.heap.size = w.heap.size + 1 := by rw [hw0]; simp
  have hb0 : Below w.heap.size w w0 := by rw [hw0]; exact (Below.refl _ w).alloc (Nat.le_refl _) _
  have hb1 : Below w.heap.size w w1 := by rw [hw1]; exact hb0.alloc hb0.size _
  have hE1 : Whole w1 w.heap.size 3 [.int .i64 ep] := by rw [hw1, hw0]; exact (Whole.fresh w _ [_]).alloc _
  have hri : RdI w1 w1.heap.size (.slice (some ⟨w.heap.size + 1, 0, none⟩) 1 1) [v] := by rw [hw1, ← hz0]; exact RdI.oneN w0 v
  have k1 := k.new hb1
  have hfd := hfind_any base q qb p mb Gb Gf G _ bk _ _ [v] (.slice (some ⟨w.heap.size + 1, 0, none⟩) 1 1) w1 k1 hxm hri (fun n hn => by rw [List.mem_singleton.1 hn]; exact hv.1) (by simp)
  rw [LgV.v_eq] at hfd
  simp only at hfd
  obtain ⟨eb, heb⟩ : ∃ eb, eb = w.heap.size := ⟨_, rfl⟩
  rw [← heb] at hE1
  have HFD := Lib.hid hfd
  have HK := Lib.hid k
  have HB1 := Lib.hid (And.intro hb1 heb)
  have HE1 := Lib.hid hE1
  have HV := Lib.hid hv
  clear k k1 hb1 hri hfd hv hE1 hb0 hz0
  obtain ⟨POST, hP⟩ : ∃ POST : Ending → World → Prop, POST = fun x w' => ∃ G', x = .returned (.int .i64 ((⟨[⟨ep, ba, go, kn, fi, he⟩], lock, units, room⟩ : Ch).pop ep v).1) ∧ ChAt w' base q G' ((⟨[⟨ep, ba, go, kn, fi, he⟩], lock, units, room⟩ : Ch).pop ep v).2 ∧ (∀ i, G' i → G i ∨ w.heap.size ≤ i) ∧ Mv G w w' := ⟨_, rfl⟩
  rw [← hP]
  have HP := Lib.hid hP
  clear hP
  have hmf : ∀ (fn : Fn) (first cap : Array Value) (w : World), (Instr.makeFunc fn first cap).run Tryz.prog w = .ok (.func fn first cap) w := fun _ _ _ _ => rfl
  have e0 := (Whole.fresh w 3 [.int .i64 ep]).cell 0 _ rfl
  go_enter Tryz.func16, Tryz.ntmps16
  go_wp2_with fail
  rw [← hw0, ← hw1]
  clear e0
  refine HFD.out.mono ?_
  rintro x w2 ⟨rfl, hb2⟩
  rw [← heb]
  clear hw0 hw1 heb
  obtain ⟨w3, hw3⟩ : ∃ w3, w3 = w2.alloc (.cells #[.int .i64 2, .int .i64 ep, .int .i64 ba, .int .i64 0, .slice F f.length nf, .int .i64 go, .int .i64 kn, .slice H hd.length nh] 73) := ⟨_, rfl⟩
  have hb3 : Below w2.heap.size w2 w3 := by rw [hw3]; exact (Below.refl _ w2).alloc (Nat.le_refl _) _
  have hL3 : Whole w3 w2.heap.size 73 [.int .i64 2, .int .i64 ep, .int .i64 ba, .int .i64 0, .slice F f.length nf, .int .i64 go, .int .i64 kn, .slice H hd.length nh] := by rw [hw3]; exact Whole.fresh w2 _ [.int .i64 2, .int .i64 ep, .int .i64 ba, .int .i64 0, .slice F f.length nf, .int .i64 go, .int .i64 kn, .slice H hd.length nh]
  have hB2 := HB1.out.1.trans (hb2.mono HB1.out.1.size)
  have hB3 := hB2.trans (hb3.mono hB2.size)
  have hE3 := (HE1.out.below hb2 HE1.out.size).below hb3 (Nat.lt_of_lt_of_le HE1.out.size hb2.size)
  obtain ⟨lb, hlb⟩ : ∃ lb, lb = w2.heap.size := ⟨_, rfl⟩
  rw [← hlb] at hL3
  have HX := Lib.hid (HK.out.log _ hxm)
  have hhl : hd.length ≤ 24 := HX.out.hle
  have hhe : hd.map (·.t) = he := HX.out.he
  have hto := htop_any 2 ep ba 0 F f.length nf go kn hd H nh (fun _ => False) w3 (HX.out.new hB3).held.row (by omega)
  obtain ⟨T, hT⟩ : ∃ T, T = topB go (hd.map (·.t)) := ⟨_, rfl⟩
  unfold lgv at hto
  rw [← hT] at hto
  have HTO := Lib.hid hto
  have HTT := Lib.hid (show (⟨ep, ba, go, kn, fi, he⟩ : Lg).top = T from by show topB go he = T; rw [hT, hhe])
  have HL3 := Lib.hid hL3
  have HE3 := Lib.hid hE3
  have HB3 := Lib.hid hB3
  have HHE := Lib.hid (And.intro hhe hhl)
  have HLB := Lib.hid (show w.heap.size ≤ lb from by rw [hlb]; exact hB2.size)
  clear hb2 hb3 hL3 hB2 hB3 hE3 hto hT hhe hhl HFD HE1
  go_wp2_with fail
  rw [← hw3, ← hlb]
  clear hw3 hlb
  refine HTO.out.mono ?_
  rintro x w4 ⟨rfl, hb4⟩
  have HB4 := Lib.hid (And.intro hb4 (HB3.out.trans (hb4.mono HB3.out.size)))
  clear hb4 HTO
  by_cases hTv : T < v
  · have HTV := Lib.hid hTv
    go_wp2_with fail
    show POST (.returned (.int .i64 8)) _
    have hpp : (⟨[⟨ep, ba, go, kn, fi, he⟩], lock, units, room⟩ : Ch).pop ep v = (8, ⟨[⟨ep, ba, go, kn, fi, he⟩], lock, units + 1, room⟩) := by
      unfold Ch.pop
      rw [Ch.find_one, if_pos rfl]
      simp only
      rw [if_pos (by rw [HTT.out]; exact HTV.out)]
      rfl
    rw [HP.out, hpp]
    obtain ⟨G', h1, h2, h3⟩ := HK.out.moreW (h' := ⟨[⟨ep, ba, go, kn, fi, he⟩], lock, units + 1, room⟩) HB4.out.2 rfl rfl rfl (by show units ≤ units + 1; omega)
    exact ⟨G', rfl, h1, h2, h3⟩
  have HTV := Lib.hid (Int.not_lt.1 hTv)
  go_wp2_with fail
  clear hTv
  have hpop := Ch.pop_one ⟨ep, ba, go, kn, fi, he⟩ lock units room v (by rw [HTT.out]; exact HTV.out)
  simp only at hpop
  have HPOP := Lib.hid hpop
  clear hpop
  obtain ⟨wd, hwd⟩ : ∃ wd, wd = w4.drew := ⟨_, rfl⟩
  have hbd : Below w4.heap.size w4 wd := by rw [hwd]; exact (Below.refl _ w4).drew
  have hLd := (HL3.out.below HB4.out.1 HL3.out.size).below hbd (Nat.lt_of_lt_of_le HL3.out.size HB4.out.1.size)
  have hEd := (HE3.out.below HB4.out.1 HE3.out.size).below hbd (Nat.lt_of_lt_of_le HE3.out.size HB4.out.1.size)
  have hBd := HB4.out.2.trans (hbd.mono HB4.out.2.size)
  have hC : ∀ W, Below wd.heap.size wd W → W.cell? ⟨lb, 0, none⟩ = some (.int .i64 2) ∧ W.cell? ⟨lb, 1, none⟩ = some (.int .i64 ep) ∧ W.cell? ⟨lb, 2, none⟩ = some (.int .i64 ba) ∧ W.cell? ⟨lb, 3, none⟩ = some (.int .i64 0) ∧ W.cell? ⟨lb, 4, none⟩ = some (.slice F f.length nf) ∧ W.cell? ⟨lb, 5, none⟩ = some (.int .i64 go) ∧ W.cell? ⟨lb, 6, none⟩ = some (.int .i64 kn) ∧ W.cell? ⟨lb, 7, none⟩ = some (.slice H hd.length nh) := fun W hW => by
    have g2 := hLd.below hW hLd.size
    exact ⟨g2.cell 0 _ rfl, g2.cell 1 _ rfl, g2.cell 2 _ rfl, g2.cell 3 _ rfl, g2.cell 4 _ rfl, g2.cell 5 _ rfl, g2.cell 6 _ rfl, g2.cell 7 _ rfl⟩
  have hhl := HHE.out.2
  have hbe := hbehind_any 2 ep ba 0 F f.length nf go kn hd H nh v (fun _ => False) wd.heap.size wd (HX.out.new hBd).held (Nat.le_refl _) (by omega)
  unfold lgv at hbe
  have HBE := Lib.hid hbe
  have HCL := Lib.hid hC
  have HLD := Lib.hid hLd
  have HED := Lib.hid hEd
  have HBD := Lib.hid hBd
  obtain ⟨u, hu⟩ : ∃ u, u = upto v hd := ⟨_, rfl⟩
  rw [← hu] at HBE
  have hul : u ≤ hd.length := by rw [hu]; exact upto_le v hd
  have HU := Lib.hid hu
  clear hbd hLd hEd hBd hC hbe hu HB4 HL3 HE3 HB3
  refine wp_region_planB [(true, 0), (true, 1), (true, 2), (true, 3), (true, 4), (false, 5), (true, 6), (true, 7), (true, 8)] (by kernel_rfl) (by kernel_rfl) (fun _ _ d _ _ h => by cases d <;> exact h) ?_
  rw [← hwd]
  clear hwd
  (refine PlanB.take (v := ?_) rfl rfl ?_ ?_; rotate_left; (focus (intro W hW; obtain ⟨k0, k1, k2, k3, k4, k5, k6, k7⟩ := HCL.out W (hW); go_simp; (try with_reducible rfl); done)); (try simp only [Act.put, List.setIfInBounds_toArray, List.set_cons_zero, List.set_cons_succ]))
  (refine PlanB.take (v := ?_) rfl rfl ?_ ?_; rotate_left; (focus (intro W hW; obtain ⟨k0, k1, k2, k3, k4, k5, k6, k7⟩ := HCL.out W (hW); go_simp; (try with_reducible rfl); done)); (try simp only [Act.put, List.setIfInBounds_toArray, List.set_cons_zero, List.set_cons_succ]))
  (refine PlanB.take (v := ?_) rfl rfl ?_ ?_; rotate_left; (focus (intro W hW; obtain ⟨k0, k1, k2, k3, k4, k5, k6, k7⟩ := HCL.out W (hW); go_simp; (try with_reducible rfl); done)); (try simp only [Act.put, List.setIfInBounds_toArray, List.set_cons_zero, List.set_cons_succ]))
  (refine PlanB.take (v := ?_) rfl rfl ?_ ?_; rotate_left; (focus (intro W hW; obtain ⟨k0, k1, k2, k3, k4, k5, k6, k7⟩ := HCL.out W (hW); go_simp; (try with_reducible rfl); done)); (try simp only [Act.put, List.setIfInBounds_toArray, List.set_cons_zero, List.set_cons_succ]))
  (refine PlanB.take (v := ?_) rfl rfl ?_ ?_; rotate_left; (focus (intro W hW; obtain ⟨k0, k1, k2, k3, k4, k5, k6, k7⟩ := HCL.out W (hW); go_simp; (try with_reducible rfl); done)); (try simp only [Act.put, List.setIfInBounds_toArray, List.set_cons_zero, List.set_cons_succ]))
  refine PlanB.step rfl rfl (fun Kk hK => ?_)
  go_simp
  go_at_call 38
  refine HBE.out.mono ?_
  rintro x w5 ⟨A5, c5, rfl, -, hb5⟩
  refine hK.out _ _ hb5 ?_
  have HB5 := Lib.hid (And.intro hb5 (HBD.out.trans (hb5.mono HBD.out.size)))
  clear hK Kk hb5 HBE
  (try simp only [Act.put, List.setIfInBounds_toArray, List.set_cons_zero, List.set_cons_succ])
  obtain ⟨r, hr⟩ : ∃ r, r = hd.length - u := ⟨_, rfl⟩
  rw [← hr]
  have hwr : IntKind.i64.wrap ((hd.length : Int) - (r : Int)) = (u : Int) := by rw [IntKind.wrap_i64]; omega
  clear hr
  (refine PlanB.take (v := ?_) rfl rfl ?_ ?_; rotate_left; (focus (intro W hW; obtain ⟨k0, k1, k2, k3, k4, k5, k6, k7⟩ := HCL.out W (HB5.out.1.trans (hW.mono HB5.out.1.size)); go_simp; (try with_reducible rfl); done)); (try simp only [Act.put, List.setIfInBounds_toArray, List.set_cons_zero, List.set_cons_succ]))
  (refine PlanB.take (v := ?_) rfl rfl ?_ ?_; rotate_left; (focus (intro W hW; obtain ⟨k0, k1, k2, k3, k4, k5, k6, k7⟩ := HCL.out W (HB5.out.1.trans (hW.mono HB5.out.1.size)); go_simp; (try with_reducible rfl); done)); (try simp only [Act.put, List.setIfInBounds_toArray, List.set_cons_zero, List.set_cons_succ]))
  (refine PlanB.take (v := ?_) rfl rfl ?_ ?_; rotate_left; (focus (intro W hW; obtain ⟨k0, k1, k2, k3, k4, k5, k6, k7⟩ := HCL.out W (HB5.out.1.trans (hW.mono HB5.out.1.size)); go_simp; (try with_reducible rfl); done)); (try simp only [Act.put, List.setIfInBounds_toArray, List.set_cons_zero, List.set_cons_succ]))
  simp only [PlanB]
  clear hwr
  by_cases hu0 : u = 0
  · have hub : ((u : Int) == 0) = true := by simp; omega
    have HU0 := Lib.hid hu0
    clear hu0
    go_wp2_with fail
    show POST (.returned (.int .i64 0)) _
    have h0 : upto v hd = 0 := by rw [← HU.out]; exact HU0.out
    have hdw : he.dropWhile (fun b => b.version ≤ v) = he := by
      have h2 := upto_drop v hd
      rw [h0, List.drop_zero, HHE.out.1] at h2
      exact h2.symm
    have htw : he.takeWhile (fun b => b.version ≤ v) = [] := by
      refine List.eq_nil_of_length_eq_zero ?_
      rw [← HHE.out.1]
      exact h0
    have hlg : Ch.lastGone go v he = go := by unfold Ch.lastGone; rw [htw]; rfl
    rw [HP.out, HPOP.out, hlg, hdw]
    obtain ⟨G', h1, h2, h3⟩ := HK.out.moreW (h' := ⟨[⟨ep, ba, go, kn, fi, he⟩], lock, units + 1, room⟩) HB5.out.2 rfl rfl rfl (by show units ≤ units + 1; omega)
    exact ⟨G', rfl, h1, h2, h3⟩
  have hub : ((u : Int) == 0) = false := by simp; omega
  have hub2 : ¬ (u : Int) = 0 := by omega
  have hch : chainB go (hd.map (·.t)) := by rw [HHE.out.1]; exact HX.out.ok.ch
  obtain ⟨V, ⟨hlt1, hVe⟩, hgV, hupV, hcV, hlgV, hdwV⟩ := cut_pop hch v HU.out (by omega)
  obtain ⟨_, _, ee, -, hcell⟩ := (HX.out.new HB5.out.2).held.at
  unfold LgV.hv at ee
  simp only at ee hcell
  injection ee with e1 e2 e3
  clear e2
  obtain ⟨b1, o1, hbo, hb1l, -, q1⟩ := hcell (u - 1) hlt1
  rw [hVe] at q1
  rw [← e1] at hbo
  subst hbo
  clear e1 e3 hcell hVe
  obtain ⟨u1, hu1⟩ : ∃ u1, u1 = u - 1 := ⟨_, rfl⟩
  have q2 := fun W hW => (q1 W hW).2.1
  rw [← hu1] at q2
  clear q1
  have hwu : IntKind.i64.wrap ((u : Int) - 1) = (u1 : Int) := by rw [IntKind.wrap_i64]; omega
  have hul1 : (u1 : Int) < (hd.length : Int) := by omega
  clear hu1 hu0 hlt1
  obtain ⟨Q, hQ⟩ : ∃ Q, Q = hd.drop u := ⟨_, rfl⟩
  obtain ⟨wx, hwx⟩ : ∃ wx, wx = w5.drew := ⟨_, rfl⟩
  have hbx : Below w5.heap.size w5 wx := by rw [hwx]; exact (Below.refl _ w5).drew
  have hdx := HB5.out.1.trans (hbx.mono HB5.out.1.size)
  have hBx := HB5.out.2.trans (hbx.mono HB5.out.2.size)
  have hLx := HLD.out.below hdx HLD.out.size
  have hEx := HED.out.below hdx HED.out.size
  have hqv : ∀ W, Below wx.heap.size wx W → W.cell? ⟨b1, o1 + u1 * 4 + 1, none⟩ = some (.int .i64 V) := fun W hW => q2 W ((hbx.trans (hW.mono hbx.size)).block b1 hb1l)
  have hsi := hsince_any 2 ep ba 0 F f.length nf go kn hd (some ⟨b1, o1, none⟩) nh V (fun _ => False) wx (HX.out.new hBx).held hgV (by rw [hupV]; exact hcV) (by omega)
  rw [hupV, ← hQ] at hsi
  have hks : knownB kn (Q.map (·.t)) = kn := knownB_same kn _ (fun y hy => by
    have hy2 : y ∈ he := by
      rw [← HHE.out.1]
      obtain ⟨z, hz, rfl⟩ := List.mem_map.1 hy
      rw [hQ] at hz
      exact List.mem_map.2 ⟨z, List.mem_of_mem_drop hz, rfl⟩
    exact HX.out.ok.kb y hy2)
  rw [hks] at hsi
  unfold lgv at hsi
  have HSI := Lib.hid hsi
  have HCV := Lib.hid (And.intro hgV (And.intro hcV (And.intro hlgV (And.intro hdwV hQ))))
  have HLX := Lib.hid hLx
  have HEX := Lib.hid hEx
  have HBX := Lib.hid hBx
  have HQV := Lib.hid hqv
  clear hch q2 hb1l hgV hupV hcV hlgV hdwV hdx hLx hEx hBx hqv hsi hks hbx HLD HED hQ
  go_wp2_with fail
  refine wp_region_planH (fun W => W.cell? ⟨b1, o1 + u1 * 4 + 1, none⟩ = some (.int .i64 V) ∧ W.cell? ⟨lb, 0, none⟩ = some (.int .i64 2) ∧ W.cell? ⟨lb, 1, none⟩ = some (.int .i64 ep) ∧ W.cell? ⟨lb, 2, none⟩ = some (.int .i64 ba) ∧ W.cell? ⟨lb, 3, none⟩ = some (.int .i64 0) ∧ W.cell? ⟨lb, 4, none⟩ = some (.slice F f.length nf) ∧ W.cell? ⟨lb, 5, none⟩ = some (.int .i64 go) ∧ W.cell? ⟨lb, 6, none⟩ = some (.int .i64 kn) ∧ W.cell? ⟨lb, 7, none⟩ = some (.slice (some ⟨b1, o1, none⟩) hd.length nh)) (fun _ => True) 14 [(0, 0), (0, 1), (0, 2), (0, 3), (0, 4), (0, 5), (0, 6), (0, 7), (0, 8), (0, 9), (3, 10), (0, 11), (0, 12), (1, 13), (2, 14)] (by kernel_rfl) (by kernel_rfl) (fun _ _ d _ _ h => by cases d <;> exact h) (by rw [← hwx]; exact ⟨HQV.out wx (Below.refl _ _), HLX.out.cell 0 _ rfl, HLX.out.cell 1 _ rfl, HLX.out.cell 2 _ rfl, HLX.out.cell 3 _ rfl, HLX.out.cell 4 _ rfl, HLX.out.cell 5 _ rfl, HLX.out.cell 6 _ rfl, HLX.out.cell 7 _ rfl⟩) trivial ?_
  rw [← hwx]
  clear hwx
  (refine PlanH.take (v := ?_) rfl rfl ?_ ?_; rotate_left; (focus (intro W hW; obtain ⟨kv, k0, k1, k2, k3, k4, k5, k6, k7⟩ := hW; go_simp; (try with_reducible rfl); done)); (try simp only [Act.put, List.setIfInBounds_toArray, List.set_cons_zero, List.set_cons_succ]))
  (refine PlanH.take (v := ?_) rfl rfl ?_ ?_; rotate_left; (focus (intro W hW; obtain ⟨kv, k0, k1, k2, k3, k4, k5, k6, k7⟩ := hW; go_simp; (try with_reducible rfl); done)); (try simp only [Act.put, List.setIfInBounds_toArray, List.set_cons_zero, List.set_cons_succ]))
  (refine PlanH.take (v := ?_) rfl rfl ?_ ?_; rotate_left; (focus (intro W hW; obtain ⟨kv, k0, k1, k2, k3, k4, k5, k6, k7⟩ := hW; go_simp; (try with_reducible rfl); done)); (try simp only [Act.put, List.setIfInBounds_toArray, List.set_cons_zero, List.set_cons_succ]))
  (refine PlanH.take (v := ?_) rfl rfl ?_ ?_; rotate_left; (focus (intro W hW; obtain ⟨kv, k0, k1, k2, k3, k4, k5, k6, k7⟩ := hW; go_simp; (try with_reducible rfl); done)); (try simp only [Act.put, List.setIfInBounds_toArray, List.set_cons_zero, List.set_cons_succ]))
  (refine PlanH.take (v := ?_) rfl rfl ?_ ?_; rotate_left; (focus (intro W hW; obtain ⟨kv, k0, k1, k2, k3, k4, k5, k6, k7⟩ := hW; go_simp; (try with_reducible rfl); done)); (try simp only [Act.put, List.setIfInBounds_toArray, List.set_cons_zero, List.set_cons_succ]))
  (refine PlanH.take (v := ?_) rfl rfl ?_ ?_; rotate_left; (focus (intro W hW; obtain ⟨kv, k0, k1, k2, k3, k4, k5, k6, k7⟩ := hW; go_simp; (try with_reducible rfl); done)); (try simp only [Act.put, List.setIfInBounds_toArray, List.set_cons_zero, List.set_cons_succ]))
  (refine PlanH.take (v := ?_) rfl rfl ?_ ?_; rotate_left; (focus (intro W hW; obtain ⟨kv, k0, k1, k2, k3, k4, k5, k6, k7⟩ := hW; go_simp; (try with_reducible rfl); done)); (try simp only [Act.put, List.setIfInBounds_toArray, List.set_cons_zero, List.set_cons_succ]))
  (refine PlanH.take (v := ?_) rfl rfl ?_ ?_; rotate_left; (focus (intro W hW; obtain ⟨kv, k0, k1, k2, k3, k4, k5, k6, k7⟩ := hW; go_simp; (try with_reducible rfl); done)); (try simp only [Act.put, List.setIfInBounds_toArray, List.set_cons_zero, List.set_cons_succ]))
  (refine PlanH.take (v := ?_) rfl rfl ?_ ?_; rotate_left; (focus (intro W hW; obtain ⟨kv, k0, k1, k2, k3, k4, k5, k6, k7⟩ := hW; go_simp; (try with_reducible rfl); done)); (try simp only [Act.put, List.setIfInBounds_toArray, List.set_cons_zero, List.set_cons_succ]))
  (refine PlanH.take (v := ?_) rfl rfl ?_ ?_; rotate_left; (focus (intro W hW; obtain ⟨kv, k0, k1, k2, k3, k4, k5, k6, k7⟩ := hW; go_simp; (try with_reducible rfl); done)); (try simp only [Act.put, List.setIfInBounds_toArray, List.set_cons_zero, List.set_cons_succ]))
  refine PlanH.call rfl rfl (fun Kk hK => ?_)
  go_simp
  go_at_call 39
  refine HSI.out.mono ?_
  rintro x w7 ⟨A9, n9, c9, rfl, hn9, ho9, hb7⟩
  have hL7 := HLX.out.below hb7 HLX.out.size
  refine hK.out _ _ ⟨⟨HQV.out w7 hb7, hL7.cell 0 _ rfl, hL7.cell 1 _ rfl, hL7.cell 2 _ rfl, hL7.cell 3 _ rfl, hL7.cell 4 _ rfl, hL7.cell 5 _ rfl, hL7.cell 6 _ rfl, hL7.cell 7 _ rfl⟩, trivial⟩ ?_
  have HL7 := Lib.hid hL7
  have HO9 := Lib.hid (And.intro ho9 (And.intro hn9 hb7))
  clear hK Kk hL7 ho9 hn9 hb7 HSI
  (try simp only [Act.put, List.setIfInBounds_toArray, List.set_cons_zero, List.set_cons_succ])
  (refine PlanH.take (v := ?_) rfl rfl ?_ ?_; rotate_left; (focus (intro W hW; obtain ⟨kv, k0, k1, k2, k3, k4, k5, k6, k7⟩ := hW; go_simp; (try with_reducible rfl); done)); (try simp only [Act.put, List.setIfInBounds_toArray, List.set_cons_zero, List.set_cons_succ]))
  (refine PlanH.take (v := ?_) rfl rfl ?_ ?_; rotate_left; (focus (intro W hW; obtain ⟨kv, k0, k1, k2, k3, k4, k5, k6, k7⟩ := hW; go_simp; (try with_reducible rfl); done)); (try simp only [Act.put, List.setIfInBounds_toArray, List.set_cons_zero, List.set_cons_succ]))
  (refine PlanH.take2 (v := ?_) rfl rfl ?_ ?_; rotate_left; (focus (intro W hW; go_simp; (try with_reducible rfl); done)); (try simp only [Act.put, List.setIfInBounds_toArray, List.set_cons_zero, List.set_cons_succ]))
  have z0 := HL7.out.cell 0 _ rfl
  have f0 := HL7.out.frozen 0
  have z1 := HL7.out.cell 1 _ rfl
  have f1 := HL7.out.frozen 1
  have z2 := HL7.out.cell 2 _ rfl
  have f2 := HL7.out.frozen 2
  have z3 := HL7.out.cell 3 _ rfl
  have f3 := HL7.out.frozen 3
  have z4 := HL7.out.cell 4 _ rfl
  have f4 := HL7.out.frozen 4
  have z5 := HL7.out.cell 5 _ rfl
  have f5 := HL7.out.frozen 5
  have z6 := HL7.out.cell 6 _ rfl
  have f6 := HL7.out.frozen 6
  have z7 := HL7.out.cell 7 _ rfl
  have f7 := HL7.out.frozen 7
  have hls := HL7.out.size
  obtain ⟨w8, hw8⟩ : ∃ w8, w8 = ((((((((w7.setCell ⟨lb, 0, none⟩ (.int .i64 2)).setCell ⟨lb, 1, none⟩ (.int .i64 ep)).setCell ⟨lb, 2, none⟩ (.int .i64 ba)).setCell ⟨lb, 3, none⟩ (.int .i64 0)).setCell ⟨lb, 4, none⟩ (.slice F f.length nf)).setCell ⟨lb, 5, none⟩ (.int .i64 V)).setCell ⟨lb, 6, none⟩ (.int .i64 kn)).setCell ⟨lb, 7, none⟩ (.slice A9 n9 c9)) := ⟨_, rfl⟩
  have hm8 : Mv (fun i => i = lb) w7 w8 := by rw [hw8]; exact (((((((((Mv.refl (fun i => i = lb) w7).one 0 (.int .i64 2)).one 1 (.int .i64 ep)).one 2 (.int .i64 ba)).one 3 (.int .i64 0)).one 4 (.slice F f.length nf)).one 5 (.int .i64 V)).one 6 (.int .i64 kn)).one 7 (.slice A9 n9 c9))
  have hL8 : Whole w8 lb 73 [.int .i64 2, .int .i64 ep, .int .i64 ba, .int .i64 0, .slice F f.length nf, .int .i64 V, .int .i64 kn, .slice A9 n9 c9] := by
    have := ((((((((HL7.out.put 0 (.int .i64 2)).put 1 (.int .i64 ep)).put 2 (.int .i64 ba)).put 3 (.int .i64 0)).put 4 (.slice F f.length nf)).put 5 (.int .i64 V)).put 6 (.int .i64 kn)).put 7 (.slice A9 n9 c9))
    simp only [List.set] at this
    rw [hw8]; exact this
  have HM8 := Lib.hid hm8
  have HL8 := Lib.hid hL8
  clear hm8 hL8
  refine PlanH.step rfl rfl (fun Kk hK => ?_)
  go_simp
  rw [← hw8]
  refine hK.out _ _ trivial ?_
  clear hK Kk hw8 z0 z1 z2 z3 z4 z5 z6 z7 f0 f1 f2 f3 f4 f5 f6 f7 hls
  (try simp only [Act.put, List.setIfInBounds_toArray, List.set_cons_zero, List.set_cons_succ])
  simp only [PlanH]
  have kw := HK.out
  have hB7 := HBX.out.trans (HO9.out.2.2.mono HBX.out.size)
  have hlbw := HLB.out
  have hB8 : Below w.heap.size w w8 := hB7.trans (HM8.out.below hB7.size (fun i e => by omega))
  have k8 := kw.new hB8
  have hE7 := HEX.out.below HO9.out.2.2 HEX.out.size
  have hebw : eb < w.heap.size + 1 := by have := HB1.out.2; omega
  have hE8 : Whole w8 eb 3 [.int .i64 ep] := HM8.out.whole hE7 (fun e => Whole.apart hE7 (e ▸ HL7.out) (by decide) rfl)
  have hx8 := k8.log _ hxm
  have hGl := kw.low.2
  have hgf : ∀ i, Gf i → i < w.heap.size := fun i hi => (hGl i (kw.gf i hi)).2
  have hgb : ∀ i, Gb i → i < w.heap.size := fun i hi => (hGl i (kw.gb i hi).1).2
  have hwx : w.heap.size ≤ wx.heap.size := HBX.out.size
  have hown9 : ∀ g, Value.ownBlock (.slice A9 n9 c9) = some g → wx.heap.size ≤ g ∧ g < w7.heap.size := fun g hg => Own.low HO9.out.1 hg
  have hlx : lb < wx.heap.size := HLX.out.size
  have hqd := HCV.out.2.2.2.2
  have hy8 : LgIs w8 base Gf (⟨⟨ep, ba, V, kn, fi, Q.map (·.t)⟩, f, F, nf, Q, A9, c9⟩ : LgV) := by
    have hx := hx8
    refine ⟨hx.fe, rfl, hx.first, ?_, ?_, fun y hy => hx.parts y (by rw [hqd] at hy; exact List.mem_of_mem_drop hy), ?_⟩
    · have h1 : OwnBt w8 base (.slice A9 n9 c9) Q := Own.lower (HO9.out.1.mv HM8.out (fun g hg e => by have := hown9 g hg; omega)) (Nat.le_trans kw.low.1 hwx)
      rw [HO9.out.2.1] at h1
      exact h1
    · intro g hg hf
      have := hown9 g (by rw [HO9.out.2.1]; exact hg)
      have := hgf g hf
      omega
    · have ho := hx.ok
      have hmem : ∀ y ∈ Q.map (·.t), y ∈ he := fun y hy => by
        rw [← HHE.out.1]
        obtain ⟨z, hz, rfl⟩ := List.mem_map.1 hy
        rw [hqd] at hz
        exact List.mem_map.2 ⟨z, List.mem_of_mem_drop hz, rfl⟩
      have hVb : 0 ≤ V ∧ V < 4611686018427387904 := by
        have h1 := HCV.out.1
        have h2 := ho.go.1
        simp only at h2
        refine ⟨by omega, ?_⟩
        have h3 := HCV.out.2.2.1
        unfold Ch.lastGone at h3
        have h4 : V ≤ v ∨ V = go := by
          rcases hne : (hd.map (·.t)).takeWhile (fun b => b.version ≤ v) with _ | ⟨y, ys⟩
          · rw [hne] at h3
            exact .inr h3.symm
          · refine .inl ?_
            have hmm : ∀ y ∈ (hd.map (·.t)).takeWhile (fun b => b.version ≤ v), y.version ≤ v := fun y hy => by simpa using takeWhile_all _ _ y hy
            rw [hne] at h3 hmm
            have hlast : topB go (y :: ys) = ((y :: ys).getLast (by simp)).version := by unfold topB; rw [List.getLast?_eq_some_getLast (by simp)]
            rw [hlast] at h3
            rw [← h3]
            exact hmm _ (List.getLast_mem _)
        have h5 := HV.out.2
        rcases h4 with h4 | h4 <;> omega
      exact ⟨ho.ep, ho.ba, hVb, ho.kn, ho.fi, fun y hy => ho.he y (hmem y hy), ho.fl, (by show (Q.map (·.t)).length ≤ 24; rw [List.length_map, hqd, List.length_drop]; have := HHE.out.2; omega), (by show chainB V (Q.map (·.t)); rw [hqd]; exact HCV.out.2.1), fun y hy => ho.kb y (hmem y hy)⟩
  have hres := k8.room.reset (h' := (⟨[⟨ep, ba, V, kn, fi, Q.map (·.t)⟩], lock, units + 1, room⟩ : Ch)) lock ⟨ep, ba, V, kn, fi, Q.map (·.t)⟩ kw.lk hy8.ok rfl
  have hchg : Chgs 40 #[.pointer (some ⟨lb, 0, none⟩), .pointer (some ⟨eb, 0, none⟩)] w8 (.pointer (some ⟨qb, 0, none⟩)) lock lock [LgV.pr (⟨⟨ep, ba, go, kn, fi, he⟩, f, F, nf, hd, some ⟨b1, o1, none⟩, nh⟩ : LgV)] [LgV.pr (⟨⟨ep, ba, V, kn, fi, Q.map (·.t)⟩, f, F, nf, Q, A9, c9⟩ : LgV)] := by
    have h1 := hpop1_any w8 (.pointer (some ⟨qb, 0, none⟩)) lock [LgV.pr (⟨⟨ep, ba, go, kn, fi, he⟩, f, F, nf, hd, some ⟨b1, o1, none⟩, nh⟩ : LgV)] eb lb ep 2 ep ba 0 F f.length nf V kn A9 n9 c9 hE8 HL8.out
    have hoff : offI ep [LgV.pr (⟨⟨ep, ba, go, kn, fi, he⟩, f, F, nf, hd, some ⟨b1, o1, none⟩, nh⟩ : LgV)] = [] := by
      unfold offI LgV.pr
      simp
    rw [hoff] at h1
    have hpr : LgV.pr (⟨⟨ep, ba, V, kn, fi, Q.map (·.t)⟩, f, F, nf, Q, A9, c9⟩ : LgV) = (ep, .agg #[.int .i64 2, .int .i64 ep, .int .i64 ba, .int .i64 0, .slice F f.length nf, .int .i64 V, .int .i64 kn, .slice A9 n9 c9]) := by
      rw [HO9.out.2.1]; rfl
    rw [hpr]
    exact h1
  have han := hanew_any base q qb p mb Gb Gf bk lock lock [LgV.pr (⟨⟨ep, ba, go, kn, fi, he⟩, f, F, nf, hd, some ⟨b1, o1, none⟩, nh⟩ : LgV)] (⟨⟨ep, ba, V, kn, fi, Q.map (·.t)⟩, f, F, nf, Q, A9, c9⟩ : LgV) 40 #[.pointer (some ⟨lb, 0, none⟩), .pointer (some ⟨eb, 0, none⟩)] w8 k8.bk k8.at_ k8.map hy8 kw.lk kw.nq.1 (fun args W => enters_of Tryz.func40 (by kernel_rfl) rfl args W) hchg hres.1
  have HAN := Lib.hid han
  have HRES := Lib.hid hres.2
  have HY8 := Lib.hid hy8
  have HB8 := Lib.hid hB8
  have HOW := Lib.hid (And.intro hown9 (And.intro hwx (HM8.out.size)))
  clear kw hB7 hlbw hB8 k8 hE7 hebw hE8 hx8 hGl hgf hgb hwx hown9 hlx hqd hy8 hres hchg han
  go_wp2_with fail
  clear hmf
  refine HAN.out.mono ?_
  rintro x w9 ⟨rfl, m2, Gb', hq5, hk5, hg5, hn5, hn5', hm5, hms5, hmv5⟩
  have kw := HK.out
  have hGl := kw.low.2
  have sB := HB8.out.size
  have hgf : ∀ i, Gf i → i < w.heap.size := fun i hi => (hGl i (kw.gf i hi)).2
  have hgb : ∀ i, Gb i → i < w.heap.size := fun i hi => (hGl i (kw.gb i hi).1).2
  have hsz9 : w8.heap.size ≤ w9.heap.size := hmv5.size
  have hm2s : m2 < w9.heap.size := hm5.size
  have hqs : q < w.heap.size := kw.at_.size
  have hpost : POST (.returned (.int .i64 0)) w9 := by
    rw [HP.out, HPOP.out]
    have e1 : Ch.lastGone go v he = V := by rw [← HHE.out.1]; exact HCV.out.2.2.1
    have e2 : he.dropWhile (fun b => b.version ≤ v) = Q.map (·.t) := by rw [← HHE.out.1, HCV.out.2.2.2.1, ← HCV.out.2.2.2.2]
    rw [e1, e2]
    have hC5 : ChIs w9 base q qb p m2 Gb' Gf (fun i => G i ∨ (w.heap.size ≤ i ∧ i < w9.heap.size)) (⟨[⟨ep, ba, V, kn, fi, Q.map (·.t)⟩], lock, units + 1, room⟩ : Ch) (bk.reset ((recs1 lock ⟨ep, ba, V, kn, fi, Q.map (·.t)⟩).map (·.B))).2 [(⟨⟨ep, ba, V, kn, fi, Q.map (·.t)⟩, f, F, nf, Q, A9, c9⟩ : LgV)] := by
      have ho := HOW.out
      have hown12 : ∀ g, Value.ownBlock (LgV.hv (⟨⟨ep, ba, V, kn, fi, Q.map (·.t)⟩, f, F, nf, Q, A9, c9⟩ : LgV)) = some g → Value.ownBlock (.slice A9 n9 c9) = some g := fun g hg => by rw [HO9.out.2.1]; exact hg
      refine ⟨hq5, hk5, hm5, rfl, fun x hx => ?_, fun x hx g hg => ?_, HRES.out, kw.lk, ⟨hn5, kw.nq.2.1, .inl kw.nq.2.2⟩, ⟨hn5', fun hf => by have := hgf _ hf; omega, .inr ⟨by omega, hm2s⟩, by omega⟩, fun i hi => ?_, fun i hi => .inl (kw.gf i hi), Nat.le_trans kw.low.1 (by omega), ?_⟩
      · rw [List.mem_singleton.1 hx]
        exact HY8.out.mv hmv5 (fun i hi hd => by
          rcases hd with hd | rfl
          · exact (kw.gb i hd).2 hi
          · exact kw.nq.2.1 hi) (fun g hg hd => by
          have := ho.1 g (hown12 g hg)
          rcases hd with hd | hd
          · have := hgb g hd; omega
          · omega)
      · rw [List.mem_singleton.1 hx] at hg
        have h1 := ho.1 g (hown12 g hg)
        refine ⟨fun hd => ?_, by omega, by omega, .inr ⟨by omega, by omega⟩⟩
        rcases hg5 g hd with hd | hd
        · have := hgb g hd; omega
        · omega
      · have hl5 := (hk5.low.2 i hi).2
        rcases hg5 i hi with hx | hx
        · exact ⟨.inl (kw.gb i hx).1, (kw.gb i hx).2⟩
        · exact ⟨.inr ⟨by omega, hl5⟩, fun hf => by have := hgf i hf; omega⟩
      · rintro i (hi | hi)
        · exact ⟨(hGl i hi).1, by have := (hGl i hi).2; omega⟩
        · exact ⟨Nat.le_trans kw.low.1 hi.1, hi.2⟩
    exact ⟨_, rfl, ⟨qb, p, m2, Gb', _, _, _, hC5⟩, fun i hi => hi.elim .inl (fun h => .inr h.1), (Mv.of_new HB8.out G).trans hmv5 (fun i _ hd => by
      rcases hd with hd | rfl
      · exact (kw.gb i hd).1
      · exact kw.nq.2.2)⟩
  have HFN := Lib.hid hpost
  clear hq5 hk5 hg5 hn5 hn5' hm5 hms5 hmv5 kw hGl sB hgf hgb hsz9 hm2s hqs hpost HAN
  go_wp2_with fail
  exact HFN.out
end Go.Proofs.YtmigninibdecmaaGreat

namespace Go.Proofs.YtmigninibdecmaaGreat
open Go.RowKit
attribute [local go_sem] less_eq same_eq le_eq ge_eq gt_eq

theorem tiny_plain (p v k : Int) (h1 : 0 ≤ p ∧ p < 4611686018427387904) (h2 : 0 ≤ v ∧ v < 4611686018427387904) (h3 : 0 ≤ k ∧ k < 4611686018427387904) : (⟨p, v, k, []⟩ : Bat).Tiny := by
  refine ⟨⟨⟨h1.1, h2.1, h3.1⟩, by simp, rfl⟩, ?_, h1.2, h2.2, h3.2⟩
  unfold batB
  have e := encs_len [p, v, k] (by simp; omega)
  simp only [List.length_cons, List.length_nil] at e
  rw [List.length_append]
  have e2 : (listB chgB ([] : List Chg)).length ≤ 9 := by
    unfold listB
    rw [List.flatMap_nil, List.append_nil]
    exact enc_len9 (by decide)
  simp only
  omega
theorem RdBts.none' (w : World) : RdBts w w.heap.size (fun _ => False) (.slice none 0 0) [] := RdBts.nil _ _ _ _ _
def awkH1 : Ch := ⟨[⟨3, 5, 5, 0, [], []⟩], 0, 1, 10000⟩
def awkH2 : Ch := ⟨[⟨3, 5, 5, 0, [], [⟨5, 9, 0, []⟩]⟩], 0, 3, 10000⟩
theorem awk_lay : (Ch.new 10000).lay 3 5 [] = (0, awkH1) := by rfl
theorem awk_push : awkH1.push 3 ⟨5, 9, 0, []⟩ = (9, 0, awkH2) := by rfl
theorem awk_peek : awkH2.peek 3 5 9 = ([⟨5, 9, 0, []⟩], 0, 0) := by rfl
theorem awk_live : awkH2.live 3 = 0 := by rfl

set_option maxHeartbeats 4000000 in
set_option maxRecDepth 100000 in
theorem awake_any (w : World) : Calls Tryz.prog 10 #[] w fun e w' => e = .returned (.bool true) ∧ Below w.heap.size w w' := by
  have HN := Lib.hid (new_any 10000 (by decide) (by decide) w)
  go_enter Tryz.func10, Tryz.ntmps10
  go_wp2_with fail
  refine HN.out.mono ?_
  rintro e w1 ⟨p, rfl, ht, hb⟩
  have HO := Lib.hid (hopen_any 10000 (by decide) (by decide) w w1 p ht hb)
  clear HN ht hb
  go_wp2_with fail
  refine HO.out.mono ?_
  rintro e w2 ⟨q, G, rfl, hc2, hb2⟩
  have hp := hlay_any w.heap.size q G (Ch.new 10000) 3 5 [] (.slice none 0 0) w2 (by decide) (by decide) (by simp) trivial (by simp) (by decide) (Ch.end_new _ _) hc2 (RdBts.none' w2)
  rw [List.map_nil, awk_lay] at hp
  simp only at hp
  have HP := Lib.hid hp
  have HB2 := Lib.hid hb2
  have HC2 := Lib.hid hc2
  clear hp hb2 hc2 HO
  go_wp2_with fail
  refine HP.out.mono ?_
  rintro e w3 ⟨G3, rfl, hc3, hG3, hm3⟩
  have hb3 : Below w.heap.size w w3 := HB2.out.trans (hm3.below HC2.out.low.1 (fun i hi => (HC2.out.low.2 i hi).1))
  have ha := hpush_any w.heap.size q G3 awkH1 3 ⟨5, 9, 0, []⟩ (.slice none 0 0) w3 (by decide) (tiny_plain 5 9 0 (by decide) (by decide) (by decide)) (by decide) hc3 (Rd.nil _ _) ⟨_, rfl, rfl⟩
  rw [awk_push] at ha
  unfold bval at ha
  simp only at ha
  have HA := Lib.hid ha
  have HC3 := Lib.hid hc3
  have HB3 := Lib.hid hb3
  clear ha hc3 hb3 hm3 hG3 HP HB2 HC2
  go_wp2_with fail
  refine HA.out.mono ?_
  rintro e w5 ⟨G5, rfl, hc5, hG5, hm5⟩
  have HB5 := Lib.hid (HB3.out.trans (hm5.below HC3.out.low.1 (fun i hi => (HC3.out.low.2 i hi).1)))
  have hk := hpeek_any w.heap.size q G5 awkH2 3 5 9 w5 (by decide) (by decide) (by decide) hc5 ⟨_, rfl, rfl⟩
  rw [awk_peek] at hk
  simp only at hk
  have HK := Lib.hid hk
  have HC5 := Lib.hid hc5
  clear hc5 hk hG5 hm5 HA HC3 HB3
  go_wp2_with fail
  refine HK.out.mono ?_
  rintro e w6 ⟨u6, l6, rfl, hl6, hr6, hb6⟩
  have HB6 := Lib.hid (HB5.out.trans (hb6.mono HB5.out.size))
  have hc6 := HC5.out.mv (Mv.of_new hb6 (fun _ => False)) (fun _ _ h => h)
  have hn6 : l6.length = 1 := by have := congrArg List.length hl6; simpa using this
  obtain ⟨A6, c6, rfl, -, hi6⟩ := hr6.at
  obtain ⟨b6, o6, rfl, hb6', -, hcell⟩ := hi6 0 (by omega)
  have hv6 : l6[0].t = ⟨5, 9, 0, []⟩ := by
    have := congrArg (fun l => l[0]?) hl6
    simpa [hn6] using this
  have k1 := (hcell w6 rfl).2.1
  rw [hv6] at k1
  simp only [Nat.zero_mul, Nat.add_zero] at k1
  have hlv := hlive_any w.heap.size q G5 awkH2 3 w6 (by decide) hc6 ⟨_, rfl, rfl⟩
  rw [awk_live] at hlv
  have HL := Lib.hid hlv
  have HC6 := Lib.hid hc6
  rw [hn6]
  clear hlv hc6 hb6 hl6 hr6 hi6 hcell hv6 hn6 HK HC5 HB5 hb6'
  go_wp2_with fail
  refine HL.out.mono ?_
  rintro e w7 ⟨rfl, hb7⟩
  have HB7 := Lib.hid (HB6.out.trans (hb7.mono HB6.out.size))
  have HE := Lib.hid (hepochs_any w.heap.size q G5 awkH2 w7 (HC6.out.mv (Mv.of_new hb7 (fun _ => False)) (fun _ _ h => h)) ⟨_, rfl⟩)
  clear hb7 k1 HL
  go_wp2_with fail
  refine HE.out.mono ?_
  rintro e w8 ⟨A8, c8, rfl, hb8⟩
  have HB8 := Lib.hid (HB7.out.trans (hb8.mono HB7.out.size))
  clear hb8
  unfold awkH2
  simp only [List.length_cons, List.length_nil]
  go_wp2_with fail
  go_ret
  exact ⟨rfl, HB8.out⟩
end Go.Proofs.YtmigninibdecmaaGreat
namespace Go.Proofs.YtmigninibdecmaaGreat
open Go.RowKit

/-- one change in a slice of its own -/
theorem RdG.oneC {w : World} {g : Nat} {c : Chg} {B : Nat} {G : Nat → Prop} (h : Whole w g 43 (encC c)) (hB : g < B) (hG : ¬ G g) : RdG encC 3 w B G (.slice (some ⟨g, 0, none⟩) 1 1) [c] := by
  refine ⟨some ⟨g, 0, none⟩, 1, rfl, Nat.le_refl _, fun i hi => ⟨g, 0, rfl, hB, hG, fun j u hu => ?_⟩⟩
  obtain rfl : i = 0 := by simpa using hi
  simp only [List.getElem_cons_zero] at hu
  simp only [Nat.zero_mul, Nat.zero_add]
  exact h.cell j _ hu
/-- the change of a step -/
def stC (s : UInt8) : Chg := ⟨1, ⟨#[107]⟩, strB [s]⟩
theorem strB_one (s : UInt8) : (strB [s]).size = 1 := rfl
theorem stC_ok (s : UInt8) : checkAns (stC s) = 0 := by
  unfold checkAns stC
  simp only
  rw [if_pos trivial, if_neg]
  rw [strB_one]
  decide
theorem tiny_one (p v k : Int) (s : UInt8) (h1 : 0 ≤ p ∧ p < 4611686018427387904) (h2 : 0 ≤ v ∧ v < 4611686018427387904) (h3 : 0 ≤ k ∧ k < 4611686018427387904) : (⟨p, v, k, [stC s]⟩ : Bat).Tiny := by
  refine ⟨⟨⟨h1.1, h2.1, h3.1⟩, by simp, by simp [allAns, stC_ok]⟩, ?_, h1.2, h2.2, h3.2⟩
  unfold batB
  have e := encs_len [p, v, k] (by simp; omega)
  simp only [List.length_cons, List.length_nil] at e
  rw [List.length_append]
  have e2 : (listB chgB [stC s]).length ≤ 50 := by
    unfold listB chgB stC
    simp only [List.flatMap_cons, List.flatMap_nil, List.append_nil, List.length_append]
    have h1 := enc_len9 (n := [(⟨1, ⟨#[107]⟩, strB [s]⟩ : Chg)].length) (by simp)
    have h2 := enc_len9 (n := (1 : Int).toNat) (by decide)
    have h3 : (encT ([107] : List UInt8)).length ≤ 1 + 9 := encT_len ⟨#[107]⟩ (by decide)
    have h4 := encT_len (strB [s]) (by rw [strB_one]; decide)
    rw [strB_one] at h4
    omega
  simp only
  omega
end Go.Proofs.YtmigninibdecmaaGreat
namespace Go.Proofs.YtmigninibdecmaaGreat
open Go.RowKit


end Go.Proofs.YtmigninibdecmaaGreat
namespace Go.Proofs.YtmigninibdecmaaGreat
open Go.RowKit
attribute [local go_sem] less_eq same_eq le_eq ge_eq gt_eq

set_option maxHeartbeats 2000000 in
set_option maxRecDepth 100000 in
theorem sameB_eq (x : Bat) (hl : x.chgs.length < 4611686018427387904) (v1 v2 : Value) (w : World) (hv1 : RdC w w.heap.size v1 x.chgs) (hv2 : RdC w w.heap.size v2 x.chgs) :
    Calls Tryz.prog 41 #[bval x v1, bval x v2] w fun e w' => e = .returned (.bool true) ∧ Below w.heap.size w w' := by
  obtain ⟨A1, c1, rfl, _, _⟩ := hv1.at
  obtain ⟨A2, c2, rfl, _, _⟩ := hv2.at
  obtain ⟨a, b, c, l⟩ := x
  unfold bval
  simp only at hv1 hv2 hl ⊢
  have hb : Below w.heap.size w ((w.alloc (.cells #[.int .i64 a, .int .i64 b, .int .i64 c, .slice A1 l.length c1] 38)).alloc (.cells #[.int .i64 a, .int .i64 b, .int .i64 c, .slice A2 l.length c2] 38)) := ((Below.refl _ _).alloc (Nat.le_refl _) _).alloc (by simp) _
  have hs := chgs_any l l _ _ _ (hv1.next hb) (hv2.next hb) hl hl
  rw [decide_eq_true rfl] at hs
  have HS := Lib.hid hs; clear hs
  have HB := Lib.hid hb; clear hb hv1 hv2
  go_enter Tryz.func41, Tryz.ntmps41
  go_wp2_with fail
  refine HS.out.mono ?_
  rintro e w3 ⟨rfl, hb3⟩
  have HB3 := Lib.hid (show Below w.heap.size w w3 from HB.out.trans (hb3.mono (by simp; omega))); clear hb3
  go_wp2_with fail
  go_ret
  exact ⟨rfl, HB3.out⟩
end Go.Proofs.YtmigninibdecmaaGreat
namespace Go.Proofs.YtmigninibdecmaaGreat
open Go.RowKit
attribute [local go_sem] less_eq same_eq le_eq ge_eq gt_eq

set_option maxHeartbeats 8000000 in
set_option maxRecDepth 100000 in
theorem rbatches_any (l1 l2 : List BtV) (v1 v2 : Value) (w : World) (h1 : RdBts w w.heap.size (fun _ => False) v1 l1) (h2 : RdBts w w.heap.size (fun _ => False) v2 l2) (he : l1.map (·.t) = l2.map (·.t)) (hl : l1.length ≤ 1000) (hc : ∀ x ∈ l1, x.t.chgs.length ≤ 1000) :
    Calls Tryz.prog 17 #[v1, v2] w fun e w' => e = .returned (.bool true) ∧ Below w.heap.size w w' := by
  obtain ⟨A1, c1, rfl, -, -⟩ := h1.at
  obtain ⟨A2, c2, rfl, -, -⟩ := h2.at
  have hlen : l1.length = l2.length := by have := congrArg List.length he; simpa using this
  have hq : (l1.length : Int) = (l2.length : Int) := by omega
  have H1 := Lib.hid h1
  have H2 := Lib.hid h2
  have HE := Lib.hid he
  have HL := Lib.hid (And.intro hlen hl)
  have HC := Lib.hid hc
  clear h1 h2 he hlen hl hc
  go_enter Tryz.func17, Tryz.ntmps17
  go_wp2_with fail
  go_loopw [5] (fun iv wr => ∃ i : Nat, i ≤ l1.length ∧ iv = .int .i64 (i : Int) ∧ Below w.heap.size w wr) (fun iv _ => l1.length - (intOf iv).toNat)
  case atStart => exact ⟨0, Nat.zero_le _, rfl, Below.refl _ _⟩
  case round =>
    obtain ⟨i, hi, rfl, hb⟩ := hrel
    by_cases hgo : i < l1.length
    · have hgo2 : i < l2.length := by have := HL.out; omega
      have g1 : (i : Int) < (l1.length : Int) := by omega
      have g2 : (i : Int) < (l2.length : Int) := by omega
      have hi1000 : i < 1000 := by have := HL.out; omega
      have hx1 := H1.out.next hb (fun _ _ h => h)
      have hx2 := H2.out.next hb (fun _ _ h => h)
      have hp1 := (hx1.parts l1[i] (List.getElem_mem hgo)).rd
      have hp2 := (hx2.parts l2[i] (List.getElem_mem hgo2)).rd
      have ht : l1[i].t = l2[i].t := by
        have h3 := congrArg (fun l => l[i]?) HE.out
        simpa [hgo, hgo2] using h3
      have hcc := HC.out l1[i] (List.getElem_mem hgo)
      obtain ⟨_, _, e0, -, hcell1⟩ := hx1.at
      injection e0 with e1 e2 e3
      subst e1 e3
      obtain ⟨b1, o1, rfl, hbl1, -, q1⟩ := hcell1 i hgo
      obtain ⟨_, _, e0, -, hcell2⟩ := hx2.at
      injection e0 with e1 e2 e3
      subst e1 e3
      obtain ⟨b2, o2, rfl, hbl2, -, q2⟩ := hcell2 i hgo2
      clear hcell1 hcell2 hx1 hx2
      generalize l1[i] = x1 at hp1 ht hcc q1
      generalize l2[i] = x2 at hp2 ht q2
      obtain ⟨t1, a1, k1⟩ := x1
      obtain ⟨t2, a2, k2⟩ := x2
      simp only at ht
      subst ht
      unfold BtV.v at hp1 hp2 q1 q2
      simp only at hp1 hp2 q1 q2 hcc
      have HK := Lib.hid (fun W (hW : Below wr.drew.heap.size wr.drew W) => And.intro (q1 W (hW.block b1 hbl1)) (q2 W (hW.block b2 hbl2)))
      have HS := Lib.hid (fun W (hW : Below wr.drew.heap.size wr.drew W) => sameB_eq t1 (by omega) (.slice a1 t1.chgs.length k1) (.slice a2 t1.chgs.length k2) W (Rd.next (w := wr) hp1 (((Below.refl _ wr).drew).trans hW)) (Rd.next (w := wr) hp2 (((Below.refl _ wr).drew).trans hW)))
      unfold bval at HS
      have HB := Lib.hid hb
      clear hb hp1 hp2 q1 q2 hcc
      go_wp2_with fail
      refine wp_region_planB [(true, 0), (true, 1), (true, 2), (true, 3), (true, 4), (true, 5), (true, 6), (true, 7), (false, 8), (true, 9)] (by kernel_rfl) (by kernel_rfl) (fun _ _ d _ _ h => by cases d <;> exact h) ?_
      iterate 8 (refine PlanB.take (v := ?_) rfl rfl ?_ ?_; rotate_left; (focus (intro W hW; obtain ⟨⟨q0, q1, q2, q3⟩, p0, p1, p2, p3⟩ := HK.out W hW; go_simp; (try with_reducible rfl); done)); (try simp only [Act.put, List.setIfInBounds_toArray, List.set_cons_zero, List.set_cons_succ]))
      refine PlanB.step rfl rfl (fun Kk hKk => ?_)
      go_simp
      refine (HS.out wr.drew (Below.refl _ _)).mono ?_
      rintro e w6 ⟨rfl, hb6⟩
      refine hKk.out _ _ hb6 ?_
      clear hKk Kk
      (try simp only [Act.put, List.setIfInBounds_toArray, List.set_cons_zero, List.set_cons_succ])
      refine PlanB.take (v := .bool false) rfl rfl ?_ ?_
      · intro W hW
        go_simp
      (try simp only [Act.put, List.setIfInBounds_toArray, List.set_cons_zero, List.set_cons_succ])
      simp only [PlanB]
      have HB6 := Lib.hid (HB.out.drew.trans (hb6.mono HB.out.size))
      clear hb6 HB HS HK
      go_wp2_with fail
      go_roundw
      case rel => exact ⟨i + 1, by omega, by go_num, HB6.out⟩
      case measure => simp [intOf]; omega
    · have g1 : ¬ (i : Int) < (l1.length : Int) := by omega
      have g2 : ¬ (i : Int) < (l2.length : Int) := by have := HL.out; omega
      have HB := Lib.hid hb
      clear hb
      go_wp2_with fail
      go_ret
      exact ⟨rfl, HB.out⟩
end Go.Proofs.YtmigninibdecmaaGreat
namespace Go.Proofs.YtmigninibdecmaaGreat
open Go.RowKit
section
variable {P : Program} {ops : Array Oper} {Q : Exit → Act → World → Prop}
theorem wp_region_mid (R : Act → Act → World → Prop) {id : Nat} {b : Bool} {a : Act} {w : World} (h1 : (Code.region id ops b).wp P (fun e a' w' => e = .normal ∧ R a a' w') a w) (h2 : ∀ a' w', R a a' w' → Q .normal a' w') : (Code.region id ops b).wp P Q a w :=
  Code.wp_mono (fun e a' w' h => by obtain ⟨rfl, h⟩ := h; exact h2 a' w' h) h1
end
end Go.Proofs.YtmigninibdecmaaGreat

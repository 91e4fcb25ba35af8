/- A shelf that is none. Open of a new tape. List. The text of some pairs. Save: of one pair, at the last version. What the program's shelves answer. What shelves share: new memory, moved memory; the simplest facts. Arguments of the shelf laws as data. -/
import Derived.Test.YtbifnogocmgddaaGreatFaq
import Derived.Test.YtbifnogocmgddaaGreatFac
import Derived.Test.YtbifnogocmgddaaGreatFaa
import Derived.Lib.Hide
namespace Go.Proofs.YtbifnogocmgddaaGreat
open Go.RowKit
attribute [local go_sem] less_eq same_eq le_eq ge_eq gt_eq

set_option maxHeartbeats 400000 in
theorem shempty_any (s : K × K) (w : World) : Calls Tryz.prog 17 #[.agg #[.string s.1, .string s.2]] w fun e w' => e = .returned (.bool (decide (s.2 ≤ s.1))) ∧ Below w.heap.size w w' := by
  go_enter Tryz.func17, Tryz.ntmps17
  go_wp2
  go_ret
  exact ⟨rfl, (Below.refl _ _).alloc (Nat.le_refl _) _⟩
set_option maxHeartbeats 1000000 in
set_option maxRecDepth 100000 in
theorem shnone_open (s : K × K) (w : World) : Calls Tryz.prog 7 #[.pointer none, .agg #[.string s.1, .string s.2]] w fun e w' => e = .returned (.tuple #[.pointer none, .int .i64 1]) ∧ Below w.heap.size w w' := by
  obtain ⟨s1, s2⟩ := s
  simp only
  obtain ⟨w1, hw1⟩ : ∃ w1, w1 = w.alloc (.cells #[.string s1, .string s2] 31) := ⟨_, rfl⟩
  have hb1 : Below w.heap.size w w1 := by rw [hw1]; exact (Below.refl _ w).alloc (Nat.le_refl _) _
  have hB1 : Whole w1 w.heap.size 31 [.string s1, .string s2] := by rw [hw1]; exact Whole.fresh w _ [_, _]
  obtain ⟨bb, hbb⟩ : ∃ bb, bb = w.heap.size := ⟨_, rfl⟩
  have HB := Lib.hid hb1
  have HBB := Lib.hid hB1
  have HEM := Lib.hid (shempty_any (s1, s2) w1)
  clear hb1 hB1
  go_enter Tryz.func7, Tryz.ntmps7
  go_wp2_with fail
  rw [← hw1, ← hbb]
  clear hw1
  refine HEM.out.mono ?_
  rintro e w2 ⟨rfl, hb2⟩
  have hB2 := HBB.out.below hb2 HBB.out.size
  have c0 := hB2.cell 0 _ rfl
  have c1 := hB2.cell 1 _ rfl
  rw [← hbb] at c0 c1
  have HB2 := Lib.hid (HB.out.trans (hb2.mono HB.out.size))
  have HOP := Lib.hid (bnone_open w2)
  clear hB2 hb2 HB HBB HEM hbb
  by_cases h1 : s2 ≤ s1
  · go_wp2_with fail
    go_ret2
    exact ⟨rfl, HB2.out⟩
  · have e1 : decide (s2 ≤ s1) = false := decide_eq_false h1
    by_cases h2 : (17 : Int) < max (s1.size : Int) (s2.size : Int)
    · go_wp2_with fail
      go_ret2
      exact ⟨rfl, HB2.out⟩
    · go_wp2_with fail
      refine HOP.out.mono ?_
      rintro e w3 ⟨rfl, hb3⟩
      have HB3 := Lib.hid (HB2.out.trans (hb3.mono HB2.out.size))
      clear hb3 HOP HB2 c0 c1
      go_wp2_with fail
      go_ret2
      exact ⟨rfl, HB3.out⟩
set_option maxHeartbeats 1000000 in
set_option maxRecDepth 100000 in
theorem shnone_take (p v k : Int) (sl : Value) (w : World) : Calls Tryz.prog 10 #[.pointer none, .agg #[.int .i64 p, .int .i64 v, .int .i64 k, sl]] w fun e w' => e = .returned (.int .i64 1) ∧ Below w.heap.size w w' := by
  go_enter Tryz.func10, Tryz.ntmps10
  go_wp2_with fail
  go_ret
  exact ⟨rfl, (Below.refl _ w).alloc (Nat.le_refl _) _⟩
set_option maxHeartbeats 1000000 in
set_option maxRecDepth 100000 in
theorem shnone_get (key : K) (v : Int) (w : World) : Calls Tryz.prog 14 #[.pointer none, .string key, .int .i64 v] w fun e w' => ∃ a b, e = .returned (.tuple #[a, b, .int .i64 1]) ∧ Below w.heap.size w w' := by
  have HG := Lib.hid (pnone_get key v w)
  go_enter Tryz.func14, Tryz.ntmps14
  go_wp2_with fail
  refine (shwas_none _).mono ?_
  rintro e w1 ⟨rfl, rfl⟩
  go_wp2_with fail
  refine HG.out.mono ?_
  rintro e w2 ⟨rfl, hb⟩
  have HB := Lib.hid hb
  clear hb HG
  go_wp2_with fail
  refine bodyPost_ret (v := .tuple #[.string ⟨#[]⟩, .bool false, .int .i64 1]) (by simp [results, Tryz.results14, go_sem]) rfl ⟨_, _, rfl, HB.out⟩
set_option maxHeartbeats 1000000 in
set_option maxRecDepth 100000 in
theorem shnone_list (x : K × K) (v most : Int) (w : World) : Calls Tryz.prog 11 #[.pointer none, .agg #[.string x.1, .string x.2], .int .i64 v, .int .i64 most] w fun e w' => ∃ a, e = .returned (.tuple #[a, .int .i64 1]) ∧ Below w.heap.size w w' := by
  obtain ⟨x1, x2⟩ := x
  simp only
  obtain ⟨bb, hbb⟩ : ∃ bb, bb = w.heap.size := ⟨_, rfl⟩
  obtain ⟨w1, hw1⟩ : ∃ w1, w1 = w.alloc (.cells #[.string x1, .string x2] 31) := ⟨_, rfl⟩
  have hb1 : Below w.heap.size w w1 := by rw [hw1]; exact (Below.refl _ w).alloc (Nat.le_refl _) _
  have hB1 : Whole w1 bb 31 [.string x1, .string x2] := by rw [hw1, hbb]; exact Whole.fresh w _ [_, _]
  obtain ⟨wd, hwd⟩ : ∃ wd, wd = w1.drew := ⟨_, rfl⟩
  have hbd : Below w1.heap.size w1 wd := by rw [hwd]; exact (Below.refl _ w1).drew
  have hBd := hB1.below hbd hB1.size
  have HB := Lib.hid (hb1.trans (hbd.mono hb1.size))
  have HCL := Lib.hid (fun W (hW : Below wd.heap.size wd W) => show W.cell? ⟨bb, 0, none⟩ = some (.string x1) ∧ W.cell? ⟨bb, 1, none⟩ = some (.string x2) from ⟨(hBd.below hW hBd.size).cell 0 _ rfl, (hBd.below hW hBd.size).cell 1 _ rfl⟩)
  have hls := pnone_list (x1, x2) v most wd
  simp only [spv] at hls
  have HL := Lib.hid hls
  clear hb1 hB1 hbd hBd hls
  have h0 := HCL.out wd (Below.refl _ _)
  go_enter Tryz.func11, Tryz.ntmps11
  go_wp2_with fail
  clear h0
  rw [← hw1, ← hbb]
  refine wp_region_planB [(true, 0), (true, 2), (true, 3), (true, 4), (false, 1), (false, 5), (true, 6), (true, 7), (true, 8), (true, 9)] (by kernel_rfl) (by kernel_rfl) (fun _ _ d _ _ h => by cases d <;> exact h) ?_
  rw [← hwd]
  clear hwd hw1 hbb
  (refine PlanB.take (v := ?_) rfl rfl ?_ ?_; rotate_left; (focus (intro W hW; obtain ⟨k0, k1⟩ := HCL.out W hW; go_simp; (try with_reducible rfl); done)); (try simp only [Act.put, List.setIfInBounds_toArray, List.set_cons_zero, List.set_cons_succ]))
  (refine PlanB.take (v := ?_) rfl rfl ?_ ?_; rotate_left; (focus (intro W hW; obtain ⟨k0, k1⟩ := HCL.out W hW; go_simp; (try with_reducible rfl); done)); (try simp only [Act.put, List.setIfInBounds_toArray, List.set_cons_zero, List.set_cons_succ]))
  (refine PlanB.take (v := ?_) rfl rfl ?_ ?_; rotate_left; (focus (intro W hW; obtain ⟨k0, k1⟩ := HCL.out W hW; go_simp; (try with_reducible rfl); done)); (try simp only [Act.put, List.setIfInBounds_toArray, List.set_cons_zero, List.set_cons_succ]))
  (refine PlanB.take (v := ?_) rfl rfl ?_ ?_; rotate_left; (focus (intro W hW; obtain ⟨k0, k1⟩ := HCL.out W hW; go_simp; (try with_reducible rfl); done)); (try simp only [Act.put, List.setIfInBounds_toArray, List.set_cons_zero, List.set_cons_succ]))
  refine PlanB.step rfl rfl (fun Kk hK => ?_)
  go_simp
  go_at_call 26
  refine (shwas_none _).mono ?_
  rintro o w3 ⟨rfl, rfl⟩
  refine hK.out _ _ (Below.refl _ _) ?_
  clear hK Kk
  (try simp only [Act.put, List.setIfInBounds_toArray, List.set_cons_zero, List.set_cons_succ])
  refine PlanB.step rfl rfl (fun Kk hK => ?_)
  go_simp
  go_at_call 27
  refine HL.out.mono ?_
  rintro o w4 ⟨A4, c4, rfl, hb4⟩
  refine hK.out _ _ hb4 ?_
  clear hK Kk
  have HB4 := Lib.hid (HB.out.trans (hb4.mono HB.out.size))
  clear hb4 HB HL
  (try simp only [Act.put, List.setIfInBounds_toArray, List.set_cons_zero, List.set_cons_succ])
  (refine PlanB.take (v := ?_) rfl rfl ?_ ?_; rotate_left; (focus (intro W hW; skip; go_simp; (try with_reducible rfl); done)); (try simp only [Act.put, List.setIfInBounds_toArray, List.set_cons_zero, List.set_cons_succ]))
  (refine PlanB.take (v := ?_) rfl rfl ?_ ?_; rotate_left; (focus (intro W hW; skip; go_simp; (try with_reducible rfl); done)); (try simp only [Act.put, List.setIfInBounds_toArray, List.set_cons_zero, List.set_cons_succ]))
  (refine PlanB.take (v := ?_) rfl rfl ?_ ?_; rotate_left; (focus (intro W hW; skip; go_simp; (try with_reducible rfl); done)); (try simp only [Act.put, List.setIfInBounds_toArray, List.set_cons_zero, List.set_cons_succ]))
  (refine PlanB.take (v := ?_) rfl rfl ?_ ?_; rotate_left; (focus (intro W hW; skip; go_simp; (try with_reducible rfl); done)); (try simp only [Act.put, List.setIfInBounds_toArray, List.set_cons_zero, List.set_cons_succ]))
  simp only [PlanB]
  go_wp2_with fail
  go_ret2
  exact ⟨_, rfl, HB4.out⟩
set_option maxHeartbeats 1000000 in
set_option maxRecDepth 100000 in
theorem shnone_back (v : Int) (w : World) : Calls Tryz.prog 15 #[.pointer none, .int .i64 v] w fun e w' => e = .returned (.int .i64 1) ∧ Below w.heap.size w w' := by
  have HG := Lib.hid (pnone_back v w)
  go_enter Tryz.func15, Tryz.ntmps15
  go_wp2_with fail
  refine (shwas_none _).mono ?_
  rintro e w1 ⟨rfl, rfl⟩
  go_wp2_with fail
  refine HG.out.mono ?_
  rintro e w2 ⟨rfl, hb⟩
  go_wp2_with fail
  go_ret
  exact ⟨rfl, hb⟩
set_option maxHeartbeats 1000000 in
set_option maxRecDepth 100000 in
theorem shnone_save (v : Int) (w : World) : Calls Tryz.prog 16 #[.pointer none, .int .i64 v] w fun e w' => e = .returned (.int .i64 1) ∧ Below w.heap.size w w' := by
  go_enter Tryz.func16, Tryz.ntmps16
  go_wp2_with fail
  go_ret
  exact ⟨rfl, Below.refl _ _⟩
set_option maxHeartbeats 1000000 in
set_option maxRecDepth 100000 in
theorem shnone_ends (w : World) : Calls Tryz.prog 12 #[.pointer none] w fun e w' => e = .returned (.tuple #[.int .i64 0, .int .i64 0]) ∧ Below w.heap.size w w' := by
  have HG := Lib.hid (pnone_ends w)
  go_enter Tryz.func12, Tryz.ntmps12
  go_wp2_with fail
  refine (shwas_none _).mono ?_
  rintro e w1 ⟨rfl, rfl⟩
  go_wp2_with fail
  refine HG.out.mono ?_
  rintro e w2 ⟨rfl, hb⟩
  go_wp2_with fail
  go_ret2
  exact ⟨rfl, hb⟩
end Go.Proofs.YtbifnogocmgddaaGreat
namespace Go.Proofs.YtbifnogocmgddaaGreat
open Go.RowKit
attribute [local go_sem] less_eq same_eq le_eq ge_eq gt_eq

theorem opens_tp0 (room : Int) : Bks.opens (tp0 room) = (0, bk0 room) := by
  have e : Bks.all (tp0 room) = [] := rfl
  have r : readAns [] = ([], 0) := rfl
  unfold Bks.opens
  rw [if_neg (by simp [tp0]), e, r]
  rfl
set_option maxHeartbeats 4000000 in
set_option maxRecDepth 100000 in
theorem shopen_any (room : Int) (h1 : 1000 ≤ room) (h2 : room ≤ 1048576) (s : K × K) (hs : s.1 < s.2) (hz : s.1.size ≤ 17 ∧ s.2.size ≤ 17) (w w1 : World) (p : Nat) (ht : TpNew w1 w.heap.size p room) (hb : Below w.heap.size w w1) :
    Calls Tryz.prog 7 #[.pointer (some ⟨p, 0, none⟩), .agg #[.string s.1, .string s.2]] w1 fun e w' => ∃ q G, e = .returned (.tuple #[.pointer (some ⟨q, 0, none⟩), .int .i64 0]) ∧ ShAt w' w.heap.size q G 0 ⟨s, 0, []⟩ ∧ Below w.heap.size w w' := by
  obtain ⟨s1, s2⟩ := s
  simp only at hs hz ⊢
  obtain ⟨wa, hwa⟩ : ∃ wa, wa = w1.alloc (.cells #[.string s1, .string s2] 31) := ⟨_, rfl⟩
  have hba : Below w1.heap.size w1 wa := by rw [hwa]; exact (Below.refl _ w1).alloc (Nat.le_refl _) _
  have hBa : Whole wa w1.heap.size 31 [.string s1, .string s2] := by rw [hwa]; exact Whole.fresh w1 _ [_, _]
  have hta : TapeAt wa w.heap.size p none (tp0 room) := TapeAt.mv ht (Mv.of_new hba (fun _ => False)) (fun k => k) (fun _ _ k => k)
  have hp := ht.low
  obtain ⟨bb, hbb⟩ : ∃ bb, bb = w1.heap.size := ⟨_, rfl⟩
  rw [← hbb] at hBa
  have hne : ∀ i, TapeD p none i → i ≠ bb ∧ w.heap.size ≤ i := by
    intro i hi
    unfold TapeD at hi
    rcases hi with e | e
    · exact ⟨by omega, by omega⟩
    · cases e
  have HEM := Lib.hid (shempty_any (s1, s2) wa)
  have e1 : decide (s2 ≤ s1) = false := decide_eq_false (by grind)
  have e2 : ¬ (17 : Int) < max (s1.size : Int) (s2.size : Int) := by omega
  have HT := Lib.hid hta
  have HB := Lib.hid (hb.trans (hba.mono hb.size))
  have HBB := Lib.hid hBa
  have HP := Lib.hid hne
  have HS := Lib.hid (And.intro hs hz)
  clear hp ht hta hBa hba hne hs
  go_enter Tryz.func7, Tryz.ntmps7
  go_wp2_with fail
  rw [← hbb, ← hwa]
  clear hbb hwa
  refine HEM.out.mono ?_
  rintro e wb ⟨rfl, hbb⟩
  have htb : TapeAt wb w.heap.size p none (tp0 room) := TapeAt.mv HT.out (Mv.of_new hbb (fun _ => False)) (fun k => k) (fun _ _ k => k)
  have hop := bopen_any w.heap.size p none (tp0 room) wb htb (by rw [opens_tp0])
  rw [opens_tp0] at hop
  simp only at hop
  have hBb := HBB.out.below hbb HBB.out.size
  have c0 := hBb.cell 0 _ rfl
  have c1 := hBb.cell 1 _ rfl
  have HOP := Lib.hid hop
  have HB1 := Lib.hid (HB.out.trans (hbb.mono HB.out.size))
  have HBB1 := Lib.hid hBb
  clear hop htb hBb hbb HB HBB HT HEM
  go_wp2_with fail
  clear c0 c1
  refine HOP.out.mono ?_
  rintro e w2 ⟨qb, Gb, rfl, hk2, hg2, hm2⟩
  have hb2 : Below w.heap.size w w2 := HB1.out.trans (hm2.below HB1.out.size (fun i hi => (HP.out i hi).2))
  have hB2 := hm2.whole HBB1.out (fun h => (HP.out bb h).1 rfl)
  have HNEW := Lib.hid (pnew_any w2)
  have HB2 := Lib.hid hb2
  have HBB2 := Lib.hid hB2
  have HK2 := Lib.hid (And.intro hk2 (And.intro hm2.size hg2))
  clear hb2 hB2 hk2 hm2 hg2 HOP HBB1 HB1
  go_wp2_with fail
  refine HNEW.out.mono ?_
  rintro e w3 ⟨qp, Gp, rfl, hp3, hb3⟩
  have hk3 := HK2.out.1.mv (Mv.of_new hb3 (fun _ => False)) (fun _ _ k => k)
  have hrc := brec_any w.heap.size qb p Gb _ w3 hk3 (by simp [bk0])
  have HRC := Lib.hid hrc
  have HK3 := Lib.hid hk3
  have HP3 := Lib.hid (And.intro hp3 hb3)
  have HBB3 := Lib.hid (HBB2.out.below hb3 HBB2.out.size)
  clear hp3 hb3 hk3 hrc HNEW HBB2
  go_wp2_with fail
  refine HRC.out.mono ?_
  rintro e w4 ⟨A4, c4, rows, rfl, -, htx, hb4⟩
  have hrows : rows = [] := by
    have := congrArg List.length htx
    rw [texts, List.length_map] at this
    exact List.eq_nil_of_length_eq_zero this
  subst hrows
  have hB4 := HBB3.out.below hb4 HBB3.out.size
  have c0 := hB4.cell 0 _ rfl
  have c1 := hB4.cell 1 _ rfl
  have HB4 := Lib.hid hb4
  clear htx hb4 hB4 HRC HBB3
  go_wp2_with fail
  clear c0 c1
  obtain ⟨w5, hw5⟩ : ∃ w5, w5 = w4.alloc (.cells #[.pointer (some ⟨qp, 0, none⟩), .string s1, .string s2, .pointer (some ⟨qb, 0, none⟩), .bool false] 65) := ⟨_, rfl⟩
  have hb5 : Below w4.heap.size w4 w5 := by rw [hw5]; exact (Below.refl _ w4).alloc (Nat.le_refl _) _
  obtain ⟨q, hq⟩ : ∃ q, q = w4.heap.size := ⟨_, rfl⟩
  have hQ5 : Whole w5 q 65 [.pointer (some ⟨qp, 0, none⟩), .string s1, .string s2, .pointer (some ⟨qb, 0, none⟩), .bool false] := by rw [hw5, hq]; exact Whole.fresh w4 _ [_, _, _, _, _]
  have h35 := HB4.out.trans (hb5.mono HB4.out.size)
  have h25 := HP3.out.2.trans (h35.mono HP3.out.2.size)
  have hp5 := (HP3.out.1.mv (Mv.of_new h35 (fun _ => False)) (fun _ _ k => k)).lower HB2.out.size
  have hk5 := HK3.out.mv (Mv.of_new h35 (fun _ => False)) (fun _ _ k => k)
  have hgb : ∀ i, Gb i → w.heap.size ≤ i ∧ i < w2.heap.size := HK2.out.1.low.2
  have hgp : ∀ i, Gp i → w2.heap.size ≤ i ∧ i < w3.heap.size := HP3.out.1.low.2
  have hs3 := HP3.out.2.size
  have hs4 := HB4.out.size
  have hs2 := HB2.out.size
  have hs5 : w5.heap.size = w4.heap.size + 1 := by rw [hw5]; simp
  have hsh : ShIs w5 w.heap.size q qb p qp Gb Gp (fun i => Gb i ∨ Gp i ∨ i = q) 0 ⟨(s1, s2), 0, []⟩ Pa.new room := by
    refine ⟨hQ5, hk5, hp5, ⟨h1, h2⟩, ⟨rfl, rfl, rfl⟩, (by intro x hx; cases hx), HS.out, ⟨fun h => by have := hgb q h; omega, fun h => by have := hgp q h; omega, fun i hi hj => by have := hgb i hi; have := hgp i hj; omega⟩, ⟨.inr (.inr rfl), fun i hi => .inl hi, fun i hi => .inr (.inl hi)⟩, by omega, ?_⟩
    rintro i (hi | hi | rfl)
    · have := hgb i hi; omega
    · have := hgp i hi; omega
    · omega
  have HFIN := Lib.hid (And.intro hsh (HB2.out.trans (h25.mono HB2.out.size)))
  clear hb5 hQ5 h35 h25 hp5 hk5 hgb hgp hs3 hs4 hs2 hs5 hsh
  rw [← hw5, ← hq]
  clear hw5 hq
  go_wp2_with fail
  go_ret2
  exact ⟨q, _, rfl, HFIN.out.1.at (Nat.le_refl _), HFIN.out.2⟩
end Go.Proofs.YtbifnogocmgddaaGreat
namespace Go.Proofs.YtbifnogocmgddaaGreat
open Go.RowKit
attribute [local go_sem] less_eq same_eq le_eq ge_eq gt_eq

theorem list_inn {s x : K × K} {l : List (K × K)} (h : ∀ p ∈ l, has s p.1) : l.filter (fun p => hasB (meet x s) p.1) = l.filter (fun p => hasB x p.1) := by
  refine List.filter_congr fun p hp => ?_
  have e : hasB (meet x s) p.1 = true ↔ hasB x p.1 = true := by
    rw [hasB_iff, hasB_iff, has_meet]
    exact ⟨fun k => k.1, fun k => ⟨k, h p hp⟩⟩
  cases h1 : hasB (meet x s) p.1 <;> cases h2 : hasB x p.1 <;> simp_all
set_option maxHeartbeats 8000000 in
set_option maxRecDepth 100000 in
/-- what is answered lies in new blocks -/
theorem shlist_any (base q n : Nat) (G : Nat → Prop) (s : Sh) (x : K × K) (hx : x.1.size < 4611686018427387904 ∧ x.2.size < 4611686018427387904) (v most : Int) (hv : v = s.last) (hm : 0 ≤ most ∧ most ≤ 9223372036854775807) (w : World) (h : ShAt w base q G n s) :
    Calls Tryz.prog 11 #[.pointer (some ⟨q, 0, none⟩), .agg #[.string x.1, .string x.2], .int .i64 v, .int .i64 most] w fun e w' => ∃ A c, e = .returned (.tuple #[.slice A (s.list x most).length c, .int .i64 0]) ∧ RdG cellsS 2 w' w'.heap.size (fun i => i < w.heap.size) (.slice A (s.list x most).length c) (s.list x most) ∧ Below w.heap.size w w' := by
  obtain ⟨qb, pb, qp, Gb, Gp, m, pa, room, -, k⟩ := h
  obtain ⟨⟨s1, s2⟩, last, at_⟩ := s
  obtain ⟨x1, x2⟩ := x
  simp only at hv
  subst v
  obtain ⟨L, hL⟩ : ∃ L, L = Sh.list ⟨(s1, s2), last, at_⟩ (x1, x2) most := ⟨_, rfl⟩
  rw [← hL]
  simp only at hx hL ⊢
  have hval := k.val
  have hin := k.inn
  simp only at hval hin
  have hI : I64 last := by have := k.pa.last64; rwa [hval.2.1] at this
  have hlist : pa.list (x1, x2) last most = (L, 0) := by
    unfold Pa.list Pa.known
    rw [if_neg (by rw [if_neg (by have := hval; have := k.pa.fl; omega), if_neg (by rw [hval.2.1]; omega)]; decide), if_neg (by omega), hL]
    unfold Sh.list
    simp only
    rw [list_inn hin, ← hval.2.2, hval.2.1]
  obtain ⟨bb, hbb⟩ : ∃ bb, bb = w.heap.size := ⟨_, rfl⟩
  obtain ⟨w1, hw1⟩ : ∃ w1, w1 = w.alloc (.cells #[.string x1, .string x2] 31) := ⟨_, rfl⟩
  have hb1 : Below w.heap.size w w1 := by rw [hw1]; exact (Below.refl _ w).alloc (Nat.le_refl _) _
  have hB1 : Whole w1 bb 31 [.string x1, .string x2] := by rw [hw1, hbb]; exact Whole.fresh w _ [_, _]
  have hbd : Below w1.heap.size w1 w1.drew := (Below.refl _ w1).drew
  obtain ⟨wd, hwd⟩ : ∃ wd, wd = w1.drew := ⟨_, rfl⟩
  rw [← hwd] at hbd
  have hBd := hB1.below hbd hB1.size
  have hb1d := hb1.trans (hbd.mono hb1.size)
  have hkd := k.new hb1d
  have hCL : ∀ W, Below wd.heap.size wd W → W.cell? ⟨bb, 0, none⟩ = some (.string x1) ∧ W.cell? ⟨bb, 1, none⟩ = some (.string x2) := fun W hW => by
    have g2 := hBd.below hW hBd.size
    exact ⟨g2.cell 0 _ rfl, g2.cell 1 _ rfl⟩
  have hlow := k.low.2
  have hsub := k.sub.2.2
  have hls := plist_any base qp m Gp pa (x1, x2) last most wd hkd.pa hI (by unfold I64; omega) hx.1 hx.2
  rw [hlist] at hls
  simp only [spv] at hls
  have HLS := Lib.hid hls
  have HCL := Lib.hid hCL
  have HBD := Lib.hid hb1d
  have HW := Lib.hid (shwas_any q qp wd (hkd.blk.cell 0 _ rfl))
  have HLO := Lib.hid (fun i hi => (hlow i (hsub i hi)).2 : ∀ i, Gp i → i < w.heap.size)
  clear hCL hb1d hkd hBd hB1 hb1 hbd hlow hsub hlist hI k hval hL hls hin
  have h0 := HCL.out wd (Below.refl _ _)
  go_enter Tryz.func11, Tryz.ntmps11
  go_wp2_with fail
  clear h0
  rw [← hw1, ← hbb]
  refine wp_region_planB [(true, 0), (true, 2), (true, 3), (true, 4), (false, 1), (false, 5), (true, 6), (true, 7), (true, 8), (true, 9)] (by kernel_rfl) (by kernel_rfl) (fun _ _ d _ _ h => by cases d <;> exact h) ?_
  rw [← hwd]
  clear hwd hw1 hbb
  (refine PlanB.take (v := ?_) rfl rfl ?_ ?_; rotate_left; (focus (intro W hW; obtain ⟨k0, k1⟩ := HCL.out W hW; go_simp; (try with_reducible rfl); done)); (try simp only [Act.put, List.setIfInBounds_toArray, List.set_cons_zero, List.set_cons_succ]))
  (refine PlanB.take (v := ?_) rfl rfl ?_ ?_; rotate_left; (focus (intro W hW; obtain ⟨k0, k1⟩ := HCL.out W hW; go_simp; (try with_reducible rfl); done)); (try simp only [Act.put, List.setIfInBounds_toArray, List.set_cons_zero, List.set_cons_succ]))
  (refine PlanB.take (v := ?_) rfl rfl ?_ ?_; rotate_left; (focus (intro W hW; obtain ⟨k0, k1⟩ := HCL.out W hW; go_simp; (try with_reducible rfl); done)); (try simp only [Act.put, List.setIfInBounds_toArray, List.set_cons_zero, List.set_cons_succ]))
  (refine PlanB.take (v := ?_) rfl rfl ?_ ?_; rotate_left; (focus (intro W hW; obtain ⟨k0, k1⟩ := HCL.out W hW; go_simp; (try with_reducible rfl); done)); (try simp only [Act.put, List.setIfInBounds_toArray, List.set_cons_zero, List.set_cons_succ]))
  refine PlanB.step rfl rfl (fun Kk hK => ?_)
  go_simp
  go_at_call 26
  refine HW.out.mono ?_
  rintro o w3 ⟨rfl, rfl⟩
  refine hK.out _ _ (Below.refl _ _) ?_
  clear hK Kk
  (try simp only [Act.put, List.setIfInBounds_toArray, List.set_cons_zero, List.set_cons_succ])
  refine PlanB.step rfl rfl (fun Kk hK => ?_)
  go_simp
  go_at_call 27
  refine HLS.out.mono ?_
  rintro o w4 ⟨A4, c4, rfl, hr4, hb4⟩
  refine hK.out _ _ hb4 ?_
  clear hK Kk
  (try simp only [Act.put, List.setIfInBounds_toArray, List.set_cons_zero, List.set_cons_succ])
  (refine PlanB.take (v := ?_) rfl rfl ?_ ?_; rotate_left; (focus (intro W hW; skip; go_simp; (try with_reducible rfl); done)); (try simp only [Act.put, List.setIfInBounds_toArray, List.set_cons_zero, List.set_cons_succ]))
  (refine PlanB.take (v := ?_) rfl rfl ?_ ?_; rotate_left; (focus (intro W hW; skip; go_simp; (try with_reducible rfl); done)); (try simp only [Act.put, List.setIfInBounds_toArray, List.set_cons_zero, List.set_cons_succ]))
  (refine PlanB.take (v := ?_) rfl rfl ?_ ?_; rotate_left; (focus (intro W hW; skip; go_simp; (try with_reducible rfl); done)); (try simp only [Act.put, List.setIfInBounds_toArray, List.set_cons_zero, List.set_cons_succ]))
  (refine PlanB.take (v := ?_) rfl rfl ?_ ?_; rotate_left; (focus (intro W hW; skip; go_simp; (try with_reducible rfl); done)); (try simp only [Act.put, List.setIfInBounds_toArray, List.set_cons_zero, List.set_cons_succ]))
  simp only [PlanB]
  have hfin : RdG cellsS 2 w4 w4.heap.size (fun i => i < w.heap.size) (.slice A4 L.length c4) L := hr4.mono (Nat.le_refl _) (fun b _ hb => by
    by_cases hg : Gp b
    · exact .inl hg
    · exact .inr ⟨hg, Nat.lt_of_lt_of_le hb HBD.out.size⟩)
  have HFIN := Lib.hid (And.intro hfin (HBD.out.trans (hb4.mono HBD.out.size)))
  clear hfin hr4 hb4
  go_wp2_with fail
  go_ret2
  exact ⟨A4, c4, rfl, HFIN.out.1, HFIN.out.2⟩
end Go.Proofs.YtbifnogocmgddaaGreat
namespace Go.Proofs.YtbifnogocmgddaaGreat
open Go.RowKit
attribute [local go_sem] less_eq same_eq le_eq ge_eq gt_eq

set_option maxHeartbeats 2000000 in
set_option maxRecDepth 100000 in
/-- a text behind some bytes, in memory of the call's own -/
theorem putTextW_any (l : List UInt8) (v : Value) (s : ByteArray) (w : World) (hv : RdB w w.heap.size v l) (hl : l.length ≤ 140737488351232) (hs : s.size ≤ 65536) :
    Calls Tryz.prog 62 #[v, .string s] w fun e w' => ∃ v', e = .returned (.tuple #[v', .int .i64 0]) ∧ OwnB w' w.heap.size v' (l ++ encT s.data.toList) ∧ Below w.heap.size w w' := by
  have hbe := behind_any l v w hv hl
  have HB := Lib.hid hbe; clear hbe
  clear hv
  go_enter Tryz.func62, Tryz.ntmps62
  go_wp2_with fail
  refine HB.out.mono ?_
  rintro e w1 ⟨p, rfl, hw, hb⟩
  have HW := Lib.hid hw; clear hw
  have HB1 := Lib.hid hb; clear hb
  go_wp2_with fail
  refine (wtext_any s hs _ p l 0 w1 HW.out (by omega)).mono ?_
  rintro e w2 ⟨rfl, hw2, hb2⟩
  have HD := Lib.hid (wdoneO_any _ p (l ++ encT s.data.toList) 0 w2 hw2)
  have HB2 := Lib.hid hb2; clear hb2 hw2
  go_wp2_with fail
  refine HD.out.mono ?_
  rintro e w3 ⟨v', rfl, hr3, hb3⟩
  have HR3 := Lib.hid hr3; clear hr3
  have HB3 := Lib.hid hb3; clear hb3
  go_wp2_with fail
  go_ret2
  exact ⟨v', rfl, by simpa using HR3.out, (HB1.out.trans HB2.out).trans HB3.out⟩

theorem RdI.whole {w : World} {g : Nat} {l : List Int} (h : Whole w g 3 (l.map fun n => .int .i64 n)) : RdI w w.heap.size (.slice (some ⟨g, 0, none⟩) l.length l.length) l := by
  refine ⟨_, l.length, rfl, Nat.le_refl _, fun i hi => ⟨g, 0, rfl, h.size, fun j u hu => ?_⟩⟩
  have hj : j = 0 := by
    rcases Nat.eq_zero_or_pos j with h | h
    · exact h
    · rw [encI, List.getElem?_eq_none (by simp; omega)] at hu
      cases hu
  subst hj
  have e : u = .int .i64 l[i] := by simpa [encI] using hu.symm
  subst e
  simpa using h.cell i (.int .i64 l[i]) (by simp [hi])
/-- the length of a text's bytes -/
theorem encT_le (s : ByteArray) (n : Nat) (h : s.size ≤ n) (hn : n ≤ 120) : (encT s.data.toList).length ≤ n + 1 := by
  have h1 := enc_len 0 s.data.toList.length (by have : s.data.toList.length = s.size := rfl; omega)
  have h2 : s.data.toList.length = s.size := rfl
  simp only [encT, List.length_append]
  omega
set_option maxHeartbeats 8000000 in
set_option maxRecDepth 100000 in
theorem swrite_any (v : Int) (h0 : 0 ≤ v ∧ v < 4611686018427387904) (ps : List (K × K)) (hn : ps.length ≤ 1000) (hsz : ∀ p ∈ ps, p.1.size ≤ 16 ∧ p.2.size ≤ 64) (vp : Value) (w : World) (hr : RdP w w.heap.size vp ps) :
    Calls Tryz.prog 33 #[.int .i64 v, vp] w fun e w' => ∃ v' l, e = .returned v' ∧ OwnB w' w.heap.size v' l ∧ l.length ≤ 18 + 82 * ps.length ∧ Below w.heap.size w w' := by
  obtain ⟨A, c, rfl, hc, hi⟩ := hr.at
  obtain ⟨w1, hw1⟩ : ∃ w1, w1 = w.alloc (.cells #[.int .i64 v, .int .i64 (ps.length : Int)] 3) := ⟨_, rfl⟩
  have hb1 : Below w.heap.size w w1 := by rw [hw1]; exact (Below.refl _ w).alloc (Nat.le_refl _) _
  have hI1 : Whole w1 w.heap.size 3 ([v, (ps.length : Int)].map fun n => .int .i64 n) := by rw [hw1]; exact Whole.fresh w _ [_, _]
  have hlt : ∀ n ∈ [v, (ps.length : Int)], n < 9223372036854775808 := by
    intro n hn'
    simp only [List.mem_cons, List.not_mem_nil, or_false] at hn'
    rcases hn' with rfl | rfl <;> omega
  have hans : numsAns [v, (ps.length : Int)] = (encs [v, (ps.length : Int)], 0) := by
    unfold numsAns
    rw [if_neg (by simp), if_neg (by simp; omega)]
  have hlen : (encs [v, (ps.length : Int)]).length ≤ 18 := by
    have e1 := enc_len9 (n := v.toNat) (by omega)
    have e2 := enc_len9 (n := ((ps.length : Int)).toNat) (by omega)
    unfold encs
    simp only [List.flatMap_cons, List.flatMap_nil, List.append_nil, List.length_append]
    omega
  have hnm := numsO_any [v, (ps.length : Int)] hlt _ w1 (RdI.whole hI1) (by simp)
  rw [hans] at hnm
  simp only [List.length_cons, List.length_nil] at hnm
  obtain ⟨L0, hL0⟩ : ∃ L0, L0 = encs [v, (ps.length : Int)] := ⟨_, rfl⟩
  rw [← hL0] at hnm hlen
  have HNM := Lib.hid hnm
  have HB1 := Lib.hid hb1
  have HI := Lib.hid hi
  have HSZ := Lib.hid hsz
  have HL := Lib.hid hlen
  clear hnm hb1 hi hsz hlen hlt hans hI1 hL0 hr
  go_enter Tryz.func33, Tryz.ntmps33
  go_wp2_with fail
  rw [← hw1]
  clear hw1
  refine HNM.out.mono ?_
  rintro e w2 ⟨v2, rfl, ho2, hb2⟩
  have hf2 : ∃ D d, v2 = .slice D L0.length d := by
    rcases (Own.form ho2) with ⟨h, h0⟩ | ⟨x, y, h, _⟩
    · exact ⟨none, 0, by rw [h, h0]; rfl⟩
    · exact ⟨_, _, h⟩
  obtain ⟨D2, d2, rfl⟩ := hf2
  have HO2 := Lib.hid (Own.lower ho2 HB1.out.size)
  have HB2 := Lib.hid (HB1.out.trans (hb2.mono HB1.out.size))
  clear ho2 hb2 HNM HB1
  go_wp2_with fail
  go_loopw [5, 23] (fun bv iv wr => ∃ (i : Nat) (D : Option Addr) (d : Nat) (l : List UInt8), i ≤ ps.length ∧ iv = .int .i64 (i : Int) ∧ bv = .slice D l.length d ∧ Hid (OwnB wr w.heap.size (.slice D l.length d) l) ∧ l.length ≤ 18 + 82 * i ∧ Hid (Below w.heap.size w wr)) (fun _ iv _ => ps.length - (intOf iv).toNat)
  case atStart => exact ⟨0, D2, d2, L0, by omega, rfl, rfl, HO2, by have := HL.out; omega, HB2⟩
  case round =>
    obtain ⟨i, D, d, l, hi, rfl, rfl, HO, hll, HB⟩ := hrel
    clear HO2 HB2
    rcases Nat.lt_or_ge i ps.length with hlt | hge
    · obtain ⟨bx, ox, rfl, hbx, x0, x1⟩ := HI.out i hlt
      have y0 := (World.cell?_of_block (HB.out.block bx hbx)).trans x0
      have y1 := (World.cell?_of_block (HB.out.block bx hbx)).trans x1
      have hz := HSZ.out ps[i] (List.getElem_mem hlt)
      obtain ⟨⟨k1, k2⟩, hk⟩ : ∃ k : K × K, k = ps[i] := ⟨_, rfl⟩
      rw [← hk] at hz y0 y1
      simp only at hz y0 y1
      have hl1 := encT_le k1 16 hz.1 (by omega)
      have hl2 := encT_le k2 64 hz.2 (by omega)
      have HLL := Lib.hid (And.intro hl1 (And.intro hl2 hll))
      have HZ := Lib.hid hz
      clear hl1 hl2 hll hz x0 x1 hk
      go_wp2_with fail
      clear y0 y1
      obtain ⟨wl, hwl⟩ : ∃ wl, wl = wr.alloc (.cells #[.string k1, .string k2] 69) := ⟨_, rfl⟩
      obtain ⟨bl, hbl⟩ : ∃ bl, bl = wr.heap.size := ⟨_, rfl⟩
      have hbr : Below wr.heap.size wr wl := by rw [hwl]; exact (Below.refl _ wr).alloc (Nat.le_refl _) _
      have hWl : Whole wl bl 69 [.string k1, .string k2] := by rw [hwl, hbl]; exact Whole.fresh wr _ [_, _]
      rw [← hwl, ← hbl]
      have HP1 := Lib.hid (putTextW_any [] (.slice none 0 0) k1 wl (Rd.nil _ _) (by simp) (by have := HZ.out; omega))
      have HL1 := Lib.hid (And.intro hbr (Nat.le_of_eq hbl))
      have HWL := Lib.hid hWl
      clear hwl hbl hbr hWl
      refine HP1.out.mono ?_
      rintro e w3 ⟨v3, rfl, ho3, hb3⟩
      rw [List.nil_append] at ho3
      have hf3 : ∃ D d, v3 = .slice D (encT k1.data.toList).length d := by
        rcases (Own.form ho3) with ⟨h, h0⟩ | ⟨x, y, h, _⟩
        · exact ⟨none, 0, by rw [h, h0]; rfl⟩
        · exact ⟨_, _, h⟩
      obtain ⟨D3, d3, rfl⟩ := hf3
      have hW3 := HWL.out.below hb3 HWL.out.size
      have z1 := hW3.cell 1 _ rfl
      have HP2 := Lib.hid (putTextW_any [] (.slice none 0 0) k2 w3 (Rd.nil _ _) (by simp) (by have := HZ.out; omega))
      have HO3 := Lib.hid ho3
      have HB3 := Lib.hid hb3
      clear hW3 ho3 hb3 HP1
      go_wp2_with fail
      clear z1
      refine HP2.out.mono ?_
      rintro e w4 ⟨v4, rfl, ho4, hb4⟩
      rw [List.nil_append] at ho4
      have hf4 : ∃ D d, v4 = .slice D (encT k2.data.toList).length d := by
        rcases (Own.form ho4) with ⟨h, h0⟩ | ⟨x, y, h, _⟩
        · exact ⟨none, 0, by rw [h, h0]; rfl⟩
        · exact ⟨_, _, h⟩
      obtain ⟨D4, d4, rfl⟩ := hf4
      have hsz := HL1.out.1.size
      have hs3 := HB3.out.size
      have hb14 : Below wr.heap.size wr w4 := HL1.out.1.trans ((HB3.out.trans (hb4.mono HB3.out.size)).mono hsz)
      have HO5 := Lib.hid (HO.out.below hb14 (Nat.le_refl _))
      have HO3' := Lib.hid (HO3.out.below hb4 (Nat.le_refl _))
      have HO4 := Lib.hid ho4
      have HLOW := Lib.hid (fun (i : Nat) (h : (Value.slice D l.length d).ownBlock = some i) => (HO.out.low h).2)
      have HB4 := Lib.hid (And.intro (HB.out.trans (hb14.mono HB.out.size)) (And.intro hsz (And.intro hs3 (And.intro HB.out.size hb4.size))))
      clear ho4 hb4 hb14 hsz hs3 HP2 HO HO3 HB3 HL1 HWL HB
      go_wp2_with (first | (at_builtin; refine wpList_addBG rfl _ _ rfl w.heap.size (.slice D l.length d) l rfl HO5.out w4.heap.size (.slice D3 (encT k1.data.toList).length d3) (encT k1.data.toList) rfl (Own.rd byteEnc_len HO3'.out) ?c0 ?c1 ?_) | fail)
      case c0 => have := HLL.out; omega
      case c1 => have := HB4.out; omega
      intro A5 c5 w5 ho5 hg5
      have ho45 := HO4.out.kept hg5.out (by
        cases hov : (Value.slice D4 (encT k2.data.toList).length d4).ownBlock with
        | none => exact .inl rfl
        | some g =>
          refine .inr fun he => ?_
          have h1 := (HO4.out.low hov).1
          have h2 := HLOW.out g he.symm
          have := HB4.out
          omega)
      have HR4 := Lib.hid (Own.rd byteEnc_len ho45)
      have HB5 := Lib.hid (And.intro (HO5.out.grown HB4.out.1 hg5.out (Nat.le_refl _) (by have := HB4.out; omega)) (Nat.le_trans (Nat.le_trans (Nat.le_trans (Nat.le_trans HB4.out.2.2.2.1 HB4.out.2.1) HB4.out.2.2.1) HB4.out.2.2.2.2) hg5.out.size))
      clear ho45 hg5 HO5 HO4 HB4 HLOW HO3'
      obtain ⟨l3, hl3⟩ : ∃ l3, l3 = l ++ encT k1.data.toList := ⟨_, rfl⟩
      have hle3 : l3.length = l.length + (encT k1.data.toList).length := by rw [hl3, List.length_append]
      rw [← hle3]
      rw [← hle3, ← hl3] at ho5
      clear hle3
      have HE3 := Lib.hid hl3
      have hl3n : l3.length ≤ 18 + 82 * i + 17 := by rw [hl3, List.length_append]; have := HLL.out; omega
      have HN3 := Lib.hid hl3n
      clear hl3 hl3n
      go_wp2_with (first | (at_builtin; (refine wpList_addBG rfl _ _ rfl w.heap.size (.slice A5 l3.length c5) l3 rfl ho5.out w5.heap.size (.slice D4 (encT k2.data.toList).length d4) (encT k2.data.toList) rfl HR4.out ?d0 ?d1 ?_)) | fail)
      case d0 => have := HLL.out; have := HN3.out; omega
      case d1 => exact HB5.out.2
      intro A6 c6 w6 ho6 hg6
      have HB6 := Lib.hid (ho5.out.grown HB5.out.1 hg6.out (Nat.le_refl _) HB5.out.2)
      clear hg6 ho5 HR4 HB5
      obtain ⟨l4, hl4⟩ : ∃ l4, l4 = l3 ++ encT k2.data.toList := ⟨_, rfl⟩
      have hl5 : l4.length ≤ 18 + 82 * (i + 1) := by rw [hl4, List.length_append]; have := HLL.out; have := HN3.out; omega
      have hle4 : l4.length = l3.length + (encT k2.data.toList).length := by rw [hl4, List.length_append]
      rw [← hle4]
      rw [← hle4, ← hl4] at ho6
      clear hle4
      clear hl4
      go_wp2_with fail
      refine ⟨⟨i + 1, A6, c6, l4, by omega, by simp, rfl, ho6, hl5, HB6⟩, ?_⟩
      simp only [intOf]
      omega
    · have hie : i = ps.length := by omega
      subst hie
      go_wp2_with fail
      go_ret
      exact ⟨.slice D l.length d, l, rfl, HO.out, hll, HB.out⟩
end Go.Proofs.YtbifnogocmgddaaGreat
namespace Go.Proofs.YtbifnogocmgddaaGreat
open Go.RowKit
attribute [local go_sem] less_eq same_eq le_eq ge_eq gt_eq

theorem RdRs.one {w : World} {G : Nat → Prop} {A : Option Addr} {c : Nat} {l : List UInt8} (h : RdBG w w.heap.size G (.slice A l.length c) l) (hG : ∀ i, G i → i < w.heap.size) : RdRs (w.alloc (.cells #[.slice A l.length c] 51)) (w.heap.size + 1) G (.slice (some ⟨w.heap.size, 0, none⟩) 1 1) [⟨A, c, l⟩] := by
  have hm : Mv (fun _ => False) w (w.alloc (.cells #[.slice A l.length c] 51)) := (Mv.refl _ w).alloc _
  refine ⟨⟨some ⟨w.heap.size, 0, none⟩, 1, rfl, Nat.le_refl _, fun i hi => ⟨w.heap.size, 0, rfl, Nat.lt_succ_self _, fun hg => ?_, ?_⟩⟩, fun r hr => ?_⟩
  · have := hG _ hg; omega
  · obtain rfl : i = 0 := by simpa using hi
    exact (Whole.fresh w 51 [.slice A l.length c]).cell 0 _ rfl
  · rw [List.mem_singleton.1 hr]
    exact (h.mv hm (Nat.le_refl _) (fun _ _ e => e.elim)).mono (Nat.le_succ _) (fun _ _ hg => hg)
theorem PaAt.sound {w : World} {base q n : Nat} {G : Nat → Prop} {p : Pa} (h : PaAt w base q G n p) : soundP (p.at_ p.last) = true := by obtain ⟨_, _, _, _, _, _, _, h4, _⟩ := h.blk; exact h4.at_sound h4.fl
theorem reset_bk0 (room : Int) (hr : 1000 ≤ room) (l : List UInt8) (hl : l.length ≤ 200) : ((bk0 room).reset [l]).1 = 0 := by
  have hz : (lay [l]).length ≤ 300 := by
    rw [lay_cons, lay_nil, List.append_nil, recB_len]
    have := enc_len9 (n := l.length + 4) (by omega)
    omega
  have hf : fits [l] := by
    intro r hr
    rw [List.mem_singleton.1 hr]
    unfold fitR
    omega
  have h1 : ((tp0 room).repl (lay [l])).1 = 0 := by
    have hw : (tp0 room).write (lay [l]).length = (0, tp0 room) := by
      unfold Tp.write
      rw [if_neg (by simp [tp0]), if_neg (by show ¬ (((lay [l]).length : Int) > room); omega), if_neg (by show ¬ ((-1 : Int) = 0); decide), if_neg (by show ¬ ((-1 : Int) > 0); decide)]
    unfold Tp.repl
    simp only [hw]
    rfl
  unfold Bks.reset
  show (if (bk0 room).dead = true then _ else _ : Int × Bks).1 = 0
  rw [if_neg (by simp [bk0]), if_neg (by simpa using hf), if_neg (by show ¬ ((tp0 room).repl (lay [l])).1 ≠ 0; rw [h1]; decide)]
set_option maxHeartbeats 8000000 in
set_option maxRecDepth 100000 in
theorem shsave_any (base q n : Nat) (G : Nat → Prop) (s : Sh) (v : Int) (hv : v = s.last) (h0 : 0 ≤ s.last ∧ s.last < 4611686018427387904) (hl : s.at_.length ≤ 1) (w : World) (h : ShAt w base q G n s) :
    Calls Tryz.prog 16 #[.pointer (some ⟨q, 0, none⟩), .int .i64 v] w fun e w' => e = .returned (.int .i64 0) ∧ Below base w w' := by
  obtain ⟨qb, pb, qp, Gb, Gp, m, pa, room, -, k⟩ := h
  obtain ⟨⟨s1, s2⟩, last, at_⟩ := s
  simp only at hv h0 hl
  subst v
  have hval := k.val
  simp only at hval
  have hI : I64 last := by unfold I64; omega
  have hsd : soundP at_ = true := by rw [← hval.2.2]; exact k.pa.sound
  have hz : ∀ p ∈ at_, p.1.size ≤ 16 ∧ p.2.size ≤ 64 := (soundP_spec hsd).2
  have hin := k.inn
  have hsp := k.sp
  simp only at hin hsp
  obtain ⟨L, hL⟩ : ∃ L, L = Sh.list ⟨(s1, s2), last, at_⟩ (s1, s2) 9223372036854775807 := ⟨_, rfl⟩
  have hLs : ∀ p ∈ L, p ∈ at_ := fun p hp => by rw [hL] at hp; exact (List.mem_filter.1 (List.mem_of_mem_take hp)).1
  have hLl : L.length ≤ 1 := by
    rw [hL]
    exact Nat.le_trans (List.length_take_le' _ _) (Nat.le_trans (List.length_filter_le _ _) hl)
  have hLz : ∀ p ∈ L, p.1.size ≤ 16 ∧ p.2.size ≤ 64 := fun p hp => hz p (hLs p hp)
  have hls := shlist_any base q m G ⟨(s1, s2), last, at_⟩ (s1, s2) (by simp only; omega) last 9223372036854775807 rfl (by omega) w (k.at (Nat.le_refl _))
  rw [← hL] at hls
  clear hL hLs hz hsd
  have hS := k.blk
  simp only at hS
  have d1 := hS.cell 1 _ rfl
  have d2 := hS.cell 2 _ rfl
  have d4 := hS.cell 4 _ rfl
  have HLS := Lib.hid hls
  have HK := Lib.hid k
  have HL := Lib.hid (And.intro hLl hLz)
  have HV := Lib.hid (And.intro hval (And.intro hI h0))
  clear hls k hLl hLz hval hI hS hl hin hsp
  go_enter Tryz.func16, Tryz.ntmps16
  go_wp2_with fail
  clear d1 d2 d4
  refine HLS.out.mono ?_
  rintro o w2 ⟨A2, c2, rfl, hr2, hb2⟩
  obtain ⟨wd, hwd⟩ : ∃ wd, wd = w2.drew := ⟨_, rfl⟩
  have hbd : Below w2.heap.size w2 wd := by rw [hwd]; exact (Below.refl _ w2).drew
  have kd := HK.out.new (hb2.trans (hbd.mono hb2.size))
  have hwr := swrite_any last HV.out.2.2 L (by have := HL.out.1; omega) HL.out.2 (.slice A2 L.length c2) wd (Rd.next hr2.rd hbd)
  have HWR := Lib.hid hwr
  have HKD := Lib.hid kd
  have HB := Lib.hid (hb2.trans (hbd.mono hb2.size))
  have c2' := kd.blk.cell 3 _ rfl
  have HC2 := Lib.hid c2'
  clear hwr hr2 hb2 hbd kd HLS c2'
  go_wp2_with fail
  refine wp_region_plan (S := fun W => W.cell? ⟨q, 3, none⟩ = some (.pointer (some ⟨qb, 0, none⟩))) [(true, 0), (true, 1), (true, 2), (true, 3), (true, 4), (true, 5), (false, 6), (false, 7), (false, 8), (true, 9)] (by kernel_rfl) (by kernel_rfl) (fun _ _ d _ _ h => by cases d <;> exact h) (by rw [← hwd]; exact HC2.out) ?_
  rw [← hwd]
  clear hwd
  (refine Plan.take (v := ?_) rfl rfl ?_ ?_; rotate_left; (focus (intro W hW; skip; go_simp; (try with_reducible rfl); done)); (try simp only [Act.put, List.setIfInBounds_toArray, List.set_cons_zero, List.set_cons_succ]))
  (refine Plan.take (v := ?_) rfl rfl ?_ ?_; rotate_left; (focus (intro W hW; skip; go_simp; (try with_reducible rfl); done)); (try simp only [Act.put, List.setIfInBounds_toArray, List.set_cons_zero, List.set_cons_succ]))
  (refine Plan.take (v := ?_) rfl rfl ?_ ?_; rotate_left; (focus (intro W hW; skip; go_simp; (try with_reducible rfl); done)); (try simp only [Act.put, List.setIfInBounds_toArray, List.set_cons_zero, List.set_cons_succ]))
  (refine Plan.take (v := ?_) rfl rfl ?_ ?_; rotate_left; (focus (intro W hW; skip; go_simp; (try with_reducible rfl); done)); (try simp only [Act.put, List.setIfInBounds_toArray, List.set_cons_zero, List.set_cons_succ]))
  (refine Plan.take (v := ?_) rfl rfl ?_ ?_; rotate_left; (focus (intro W hW; skip; go_simp; (try with_reducible rfl); done)); (try simp only [Act.put, List.setIfInBounds_toArray, List.set_cons_zero, List.set_cons_succ]))
  (refine Plan.take (v := ?_) rfl rfl ?_ ?_; rotate_left; (focus (intro W hW; skip; go_simp; (try with_reducible rfl); done)); (try simp only [Act.put, List.setIfInBounds_toArray, List.set_cons_zero, List.set_cons_succ]))
  refine Plan.step rfl rfl (fun Kk hK => ?_)
  go_simp
  go_at_call 33
  refine HWR.out.mono ?_
  rintro o w3 ⟨v3, l, rfl, ho3, hl3, hb3⟩
  have hf3 : ∃ D d, v3 = .slice D l.length d := by
    rcases (Own.form ho3) with ⟨h, h0⟩ | ⟨x, y, h, _⟩
    · exact ⟨none, 0, by rw [h, h0]; rfl⟩
    · exact ⟨_, _, h⟩
  obtain ⟨D3, d3, rfl⟩ := hf3
  have k3 := HKD.out.new hb3
  refine hK.out _ _ (k3.blk.cell 3 _ rfl) ?_
  (try simp only [Act.put, List.setIfInBounds_toArray, List.set_cons_zero, List.set_cons_succ])
  refine Plan.step rfl rfl (fun Kk2 hK2 => ?_)
  go_simp
  obtain ⟨w4, hw4⟩ : ∃ w4, w4 = w3.alloc (.cells #[.slice D3 l.length d3] 51) := ⟨_, rfl⟩
  have hb4 : Below w3.heap.size w3 w4 := by rw [hw4]; exact (Below.refl _ w3).alloc (Nat.le_refl _) _
  have hz4 : w4.heap.size = w3.heap.size + 1 := by rw [hw4]; simp
  have hlen : l.length ≤ 100 := by have := HL.out.1; omega
  have hgb : ∀ i, Gb i → i < wd.heap.size := fun i hi => (HKD.out.low.2 i (HKD.out.sub.2.1 i hi)).2
  have hrg : RdBG w3 w3.heap.size Gb (.slice D3 l.length d3) l := (HoldB.ofOwn ho3).rdBG (fun g hg hd => by have h1 := ((HoldB.ofOwn ho3).low hg).1; have h2 := hgb g hd; omega)
  have hrs := RdRs.one hrg (fun i hi => Nat.lt_of_lt_of_le (hgb i hi) hb3.size)
  rw [← hw4, ← hz4] at hrs
  have k4 := k3.new hb4
  have hre := breset_any base qb pb Gb _ _ _ w4 k4.bk hrs (by simp) (by intro r hr; rw [List.mem_singleton.1 hr]; show l.length ≤ _; omega)
  rw [show (texts [(⟨D3, d3, l⟩ : Row)]) = [l] from rfl, reset_bk0 room HKD.out.room.1 l (by omega)] at hre
  refine hK2.out _ _ (by rw [← hw4]; exact k4.blk.cell 3 _ rfl) ?_
  have HRE := Lib.hid hre
  have HK4 := Lib.hid k4
  have HB4 := Lib.hid (HB.out.trans ((hb3.trans (hb4.mono hb3.size)).mono HB.out.size))
  clear hre k4 k3 hrs hrg hb4 hz4 hgb ho3 hb3 hl3 hlen HWR HB HKD HC2 hK Kk hK2 Kk2
  (try simp only [Act.put, List.setIfInBounds_toArray, List.set_cons_zero, List.set_cons_succ])
  refine Plan.step rfl rfl (fun Kk hK => ?_)
  go_simp
  go_at_call 32
  rw [← hw4]
  refine HRE.out.mono ?_
  rintro o w5 ⟨rfl, Gb', hk5, hg5, hm5⟩
  have hq5 := hm5.whole HK4.out.blk HK4.out.off.1
  have hp5 := HK4.out.pa.mv hm5 (fun i hi hb => HK4.out.off.2.2 i hb hi)
  refine hK.out _ _ (hq5.cell 3 _ rfl) ?_
  have f0 := hq5.cell 0 _ rfl
  have hfo := pforget_any base qp m Gp pa last w5 hp5 HV.out.2.1
  have hff : (pa.forget last).1 = 0 := by
    unfold Pa.forget
    rw [if_neg (by rw [HV.out.1.2.1]; omega)]
    split <;> rfl
  rw [hff] at hfo
  have HFO := Lib.hid hfo
  have hbg := HK4.out.low.2
  have HB5 := Lib.hid ((HB4.out.mono HK.out.low.1).trans (hm5.below HK4.out.low.1 (fun i hi => (hbg i (HK4.out.sub.2.1 i hi)).1)))
  have HPL := Lib.hid (And.intro hp5.low (And.intro hm5.size HK4.out.low.1))
  have HF0 := Lib.hid f0
  clear f0 hfo hff hq5 hp5 hk5 hg5 hm5 HRE hbg hK Kk hw4
  (try simp only [Act.put, List.setIfInBounds_toArray, List.set_cons_zero, List.set_cons_succ])
  (refine Plan.take (v := ?_) rfl rfl ?_ ?_; rotate_left; (focus (intro W hW; skip; go_simp; (try with_reducible rfl); done)); (try simp only [Act.put, List.setIfInBounds_toArray, List.set_cons_zero, List.set_cons_succ]))
  simp only [Plan]
  have f0 := HF0.out
  go_wp2_with fail
  refine HFO.out.mono ?_
  rintro o w6 ⟨rfl, Gp', -, -, hm6⟩
  go_wp2_with fail
  go_ret
  exact ⟨rfl, HB5.out.trans (hm6.below HPL.out.1.1 (fun i hi => (HPL.out.1.2 i hi).1))⟩
end Go.Proofs.YtbifnogocmgddaaGreat

namespace Go.Proofs.YtbifnogocmgddaaGreat
open Go.RowKit
attribute [local go_sem] less_eq same_eq le_eq ge_eq gt_eq

/-- a row of one kind of cells, whole, as a slice -/
theorem Whole.rdg {α : Type} {enc : α → List Value} {k : Nat} {w : World} {g : Nat} {t : TypeId} {B : Nat} {G : Nat → Prop} {l : List α} {c : Nat} (hk : ∀ x, (enc x).length = k) (h : Whole w g t (flatG enc l)) (hc : l.length ≤ c) (hB : g < B) (hG : ¬ G g) : RdG enc k w B G (.slice (some ⟨g, 0, none⟩) l.length c) l := by
  refine ⟨_, c, rfl, hc, fun i hi => ⟨g, 0, rfl, hB, hG, fun j u hu => ?_⟩⟩
  have hj : j < k := by
    rcases Nat.lt_or_ge j k with h' | h'
    · exact h'
    · rw [List.getElem?_eq_none (by rw [hk]; exact h')] at hu; cases hu
  refine h.cell _ _ ?_
  rw [Nat.zero_add, flatG_get hk l i hi j hj]
  exact hu
theorem ShAt.new {w w' : World} {base q n : Nat} {G : Nat → Prop} {s : Sh} (h : ShAt w base q G n s) (hb : Below w.heap.size w w') : ShAt w' base q G n s := h.mv (Mv.of_new hb (fun _ => False)) (fun _ _ h => h)
theorem ShAt.below {w w' : World} {base q n : Nat} {G : Nat → Prop} {s : Sh} (h : ShAt w base q G n s) (hm : Mv G w w') : Below base w w' := hm.below h.low.1 (fun i hi => (h.low.2 i hi).1)
/-- what lies ahead of a shelf's blocks -/
theorem ShAt.off {w w' : World} {base q n : Nat} {G : Nat → Prop} {s : Sh} {v : Value} {l : List Chg} (h : ShAt w' base q G n s) (hb : Below base w w') (hr : RdC w base v l) (hB : base ≤ w.heap.size) : RdG encC 3 w' w'.heap.size G v l :=
  (RdG.of (hr.below hb (Nat.le_refl _)) (fun b h1 h2 => by have := (h.low.2 b h2).1; omega)).mono (Nat.le_trans hB hb.size) (fun _ _ h => h)
def awkC : List Chg := [⟨1, ⟨#[98]⟩, ⟨#[49]⟩⟩, ⟨1, ⟨#[122]⟩, ⟨#[]⟩⟩]
theorem awk_all : allAns awkC = 0 := by decide
theorem awk_take : (⟨(⟨#[97]⟩, ⟨#[109]⟩), 0, []⟩ : Sh).take 0 9 awkC = (0, ⟨(⟨#[97]⟩, ⟨#[109]⟩), 9, [(⟨#[98]⟩, ⟨#[49]⟩)]⟩) := by
  unfold Sh.take
  rw [if_neg (by decide), if_neg (by decide)]
  rw [show applyP ([] : List (K × K)) (cutP (⟨#[97]⟩, ⟨#[109]⟩) awkC) = [(⟨#[98]⟩, ⟨#[49]⟩)] from by decide]
theorem awk_list : (⟨(⟨#[97]⟩, ⟨#[109]⟩), 9, [(⟨#[98]⟩, ⟨#[49]⟩)]⟩ : Sh).list (⟨#[]⟩, ⟨#[122, 122]⟩) 9 = [(⟨#[98]⟩, ⟨#[49]⟩)] := by decide

set_option maxHeartbeats 8000000 in
set_option maxRecDepth 100000 in
theorem shawake_any (w : World) : Calls Tryz.prog 8 #[] w fun e w' => e = .returned (.bool true) ∧ Below w.heap.size w w' := by
  have HN := Lib.hid (tnew_dry 10000 (by omega) (by omega) w)
  go_enter Tryz.func8, Tryz.ntmps8
  go_wp2_with fail
  refine HN.out.mono ?_
  rintro e w1 ⟨p, rfl, ht, hb1⟩
  have HO := Lib.hid (shopen_any 10000 (by omega) (by omega) (⟨#[97]⟩, ⟨#[109]⟩) (by decide) (by decide) w w1 p ht hb1)
  clear ht hb1 HN
  go_wp2_with fail
  refine HO.out.mono ?_
  rintro e w2 ⟨q, G, rfl, hs2, hb2⟩
  obtain ⟨w3, hw3⟩ : ∃ W, W = w2.alloc (.cells #[.int .i64 1, .string ⟨#[98]⟩, .string ⟨#[49]⟩, .int .i64 1, .string ⟨#[122]⟩, .string ⟨#[]⟩] 67) := ⟨_, rfl⟩
  have hb3 : Below w2.heap.size w2 w3 := by rw [hw3]; exact (Below.refl _ w2).alloc (Nat.le_refl _) _
  have hW3 : Whole w3 w2.heap.size 67 (flatG encC awkC) := by rw [hw3]; exact Whole.fresh w2 _ [_, _, _, _, _, _]
  have hs3 := hs2.new hb3
  have hG : ¬ G w2.heap.size := fun hg => by have := (hs2.low.2 _ hg).2; omega
  have hr3 : RdG encC 3 w3 w3.heap.size G (.slice (some ⟨w2.heap.size, 0, none⟩) 2 2) awkC := Whole.rdg encC_len hW3 (by decide) hW3.size hG
  have hc := shtake_any w.heap.size q 0 G _ 0 9 (by omega) (by omega) awkC awk_all (by decide) _ w3 hs3 hr3 (by omega)
  rw [awk_take] at hc
  simp only at hc
  have HT := Lib.hid hc
  have HS3 := Lib.hid hs3
  have HB3 := Lib.hid (hb2.trans (hb3.mono hb2.size))
  clear hc hs2 hb2 hb3 hW3 hs3 hG hr3 HO
  go_wp2_with fail
  rw [← hw3]
  clear hw3
  refine HT.out.mono ?_
  rintro e w4 ⟨rfl, G4, hs4, hG4, hm4⟩
  have HB4 := Lib.hid (HB3.out.trans (HS3.out.below hm4))
  have hl := shlist_any w.heap.size q _ G4 _ (⟨#[]⟩, ⟨#[122, 122]⟩) (by decide) 9 9 rfl (by omega) w4 hs4
  rw [awk_list] at hl
  have HL := Lib.hid hl
  have HS4 := Lib.hid hs4
  clear hl hs4 hG4 hm4 HS3 HB3 HT
  go_wp2_with fail
  refine HL.out.mono ?_
  rintro e w5 ⟨A5, c5, rfl, ho5, hb5⟩
  obtain ⟨A5', cc5, e5, hc5, hi5⟩ := ho5.rd
  obtain ⟨b5, o5, hA5, hlt5, hcell5⟩ := hi5 0 (by simp)
  injection e5 with e5 _ e6
  subst e5 e6 hA5
  have k1 := hcell5 1 (.string ⟨#[49]⟩) rfl
  rw [show o5 + 0 * 2 + 1 = o5 + 1 by omega] at k1
  have HS5 := Lib.hid (HS4.out.new hb5)
  have HB5 := Lib.hid (HB4.out.trans (hb5.mono HB4.out.size))
  have HV := Lib.hid (shsave_any w.heap.size q _ G4 _ 9 rfl (by simp) (by simp) w5 HS5.out)
  clear ho5 hb5 hcell5 hi5 HL HS4 HB4
  go_wp2_with fail
  refine HV.out.mono ?_
  rintro e w6 ⟨rfl, hb6⟩
  have HB6 := Lib.hid (HB5.out.trans hb6)
  clear hb6 HV
  go_wp2_with fail
  go_ret
  exact ⟨rfl, HB6.out⟩
end Go.Proofs.YtbifnogocmgddaaGreat
namespace Go.Proofs.YtbifnogocmgddaaGreat
open Go.ChangeShapes Go.WideShapes Go.ChangeAt Go.RowKit Go.Joins Go.Deep

def ChgD {H : Type} (c : Chg) (d : DataW H) : Prop := ∃ y, d = .agg [y, .lit (.string c.key.data.toList), .lit (.string c.val.data.toList)]
section
variable {H : Type} {enc : TypeId × Value → H} {w : World} {base : Nat} {spare : Nat → Bool} {held : Bool}
set_option maxRecDepth 100000 in
theorem chg_of_cells {fuel : Nat} {cs : List Value} {x : DataW H × List MemPlace} (h : DataW.trod enc Tryz.prog w base spare held fuel 67 cs = some x) : ∃ s : Chg, cs = encC s ∧ ChgD s x.1 := by
  obtain ⟨y0, y1, y2, n, hx, hlen, h0, h1, h2⟩ := trod_struct3 Tryz.underlying67 h
  rw [show Tryz.prog.cellsOf 67 = 3 by kernel_rfl] at hlen
  match cs, hlen with
  | [u, v, t], _ =>
    have c9 : Tryz.prog.cellsOf 9 = 1 := by kernel_rfl
    have c3 : Tryz.prog.cellsOf 3 = 1 := by kernel_rfl
    simp [c9, c3] at h0 h1 h2
    obtain ⟨m, em, _, _⟩ := DataW.trod_int Tryz.underlying3 h0
    obtain ⟨a, ea, xa, ha⟩ := DataW.trod_string Tryz.underlying9 h1
    obtain ⟨b, eb, xb, hb⟩ := DataW.trod_string Tryz.underlying9 h2
    simp at em ea eb
    exact ⟨⟨m, a, b⟩, by rw [em, ea, eb]; rfl, y0.1, by rw [hx, xa, xb]⟩
end
set_option maxRecDepth 100000 in
theorem SizedL.lenC {H : Type} {d : DataW H} {l : List Chg} (hs : SizedL ChgD d l) (hw : ∀ n ∈ d.weights Tryz.prog 22, n ≤ reachBytes) : l.length < 4611686018427387904 ∧ ∀ c ∈ l, smallC c := by
  rcases hs with ⟨_, rfl⟩ | ⟨el, sp, rfl, he, hall⟩
  · simp
  · have h1 := slice_len Tryz.underlying22 hw
    rw [show Tryz.prog.bytesOf 67 = 40 by kernel_rfl] at h1
    refine ⟨by omega, fun s hs => ?_⟩
    obtain ⟨i, hi, rfl⟩ := List.getElem_of_mem hs
    obtain ⟨d', h2, y, rfl⟩ := hall i hi
    have hm : ∀ n, n ∈ (DataW.agg [y, .lit (.string l[i].key.data.toList), .lit (.string l[i].val.data.toList)]).weights Tryz.prog 67 → n ≤ reachBytes := fun n hn => hw n (weights_el Tryz.underlying22 h2 hn)
    have a := hm l[i].key.data.toList.length (by simp [DataW.weights, DataW.weightsEach, Tryz.underlying67])
    have b := hm l[i].val.data.toList.length (by simp [DataW.weights, DataW.weightsEach, Tryz.underlying67])
    rw [show reachBytes = 140737488351232 from rfl] at a b
    have e : ∀ k : K, k.data.toList.length = k.size := fun k => by simp
    rw [e] at a b
    exact ⟨by omega, by omega⟩
section
variable {H : Type} {enc : TypeId × Value → H} {W : World} {base : Nat} {v : Value} {d : DataW H} {p : List MemPlace}
set_option maxRecDepth 100000 in
theorem chgs_of_slice (hv : ∃ a len cap, v = .slice a len cap) (h : DataW.Trod enc Tryz.prog W 0 (fun _ => true) true 22 v d p) : ∃ l, RdC W W.heap.size v l ∧ SizedL ChgD d l :=
  haveI : Inhabited Chg := ⟨⟨0, ⟨#[]⟩, ⟨#[]⟩⟩⟩
  open_rowsF (by decide) encC_len Tryz.underlying22 (by kernel_rfl) _ (fun _ _ _ h => chg_of_cells h) hv h
set_option maxRecDepth 100000 in
theorem open_span (hv : Value.okWide Tryz.prog W .any base 31 v) (h : DataW.Trod enc Tryz.prog W 0 (fun _ => true) true 31 v d p) (hw : ∀ n ∈ d.weights Tryz.prog 31, n ≤ reachBytes) :
    ∃ s : K × K, v = .agg #[.string s.1, .string s.2] ∧ s.1.size < 4611686018427387904 ∧ s.2.size < 4611686018427387904 := by
  obtain ⟨a0, b0, y0, z0, m0, rfl, rfl, rfl, hy, hz⟩ := open_agg2 Tryz.underlying31 (by kernel_rfl) (by kernel_rfl) hv h
  obtain ⟨a, ea, xa, _⟩ := DataW.trod_string Tryz.underlying9 hy
  obtain ⟨b, eb, xb, _⟩ := DataW.trod_string Tryz.underlying9 hz
  simp at ea eb
  subst ea eb
  rw [xa, xb] at hw
  have h1 := hw a.data.toList.length (by simp [DataW.weights, DataW.weightsEach, Tryz.underlying31])
  have h2 := hw b.data.toList.length (by simp [DataW.weights, DataW.weightsEach, Tryz.underlying31])
  rw [show reachBytes = 140737488351232 from rfl] at h1 h2
  have e : ∀ k : K, k.data.toList.length = k.size := fun k => by simp
  rw [e] at h1 h2
  exact ⟨(a, b), rfl, by simp only; omega, by simp only; omega⟩
set_option maxRecDepth 100000 in
theorem open_shchgs (hv : Value.okWide Tryz.prog W .any base 22 v) (h : DataW.Trod enc Tryz.prog W 0 (fun _ => true) true 22 v d p) (hw : ∀ n ∈ d.weights Tryz.prog 22, n ≤ reachBytes) : ∃ l, RdC W W.heap.size v l ∧ l.length < 4611686018427387904 ∧ ∀ c ∈ l, smallC c := by
  obtain ⟨l, hr, hz⟩ := chgs_of_slice (by obtain ⟨a, len, cap, rfl⟩ := okWide_slice Tryz.underlying22 hv; exact ⟨a, len, cap, rfl⟩) h
  have q := hz.lenC hw
  exact ⟨l, hr, q.1, q.2⟩
set_option maxRecDepth 100000 in
theorem open_anybat (hv : Value.okWide Tryz.prog W .any base 35 v) (h : DataW.Trod enc Tryz.prog W 0 (fun _ => true) true 35 v d p) :
    ∃ (a b c : Int) (x : Value), v = .agg #[.int .i64 a, .int .i64 b, .int .i64 c, x] := by
  obtain ⟨v0, v1, v2, v3, y0, y1, y2, y3, n, rfl, rfl, _, h0, h1, h2, h3⟩ := open_agg4 Tryz.underlying35 (by kernel_rfl) (by kernel_rfl) hv h
  obtain ⟨i0, e0, _, g0⟩ := DataW.trod_int Tryz.underlying3 h0
  obtain ⟨i1, e1, _, g1⟩ := DataW.trod_int Tryz.underlying3 h1
  obtain ⟨i2, e2, _, g2⟩ := DataW.trod_int Tryz.underlying3 h2
  simp at e0 e1 e2
  exact ⟨i0, i1, i2, v3, by rw [e0, e1, e2]⟩
end
end Go.Proofs.YtbifnogocmgddaaGreat

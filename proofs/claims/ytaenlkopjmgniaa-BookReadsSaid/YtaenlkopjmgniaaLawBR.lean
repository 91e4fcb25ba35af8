/- BookReads's walk. -/
import Derived.Test.YtaenlkopjmgniaaBAwk
import Derived.Test.YtaenlkopjmgniaaRRk
namespace Go.Proofs.Ytaenlkopjmgniaa
open Go.RowKit
attribute [local go_sem] same_str

/-- the tape of BookReads, ahead of Open and behind it -/
def brT (l : List UInt8) : Tp := ⟨l, [], 1048576, -1, false⟩
theorem br_add {l : List UInt8} (h : l.length ≤ 200000) : (⟨[], [], 1048576, -1, false⟩ : Tp).add l = (0, ⟨[], l, 1048576, -1, false⟩) := by
  have := Tp.add_live (t := ⟨[], [], 1048576, -1, false⟩) rfl (by show (-1 : Int) < 0; omega) l (by show (((0 : Nat) + 0 + l.length : Nat) : Int) ≤ 1048576; omega)
  simpa using this
theorem br_sync (l : List UInt8) : (⟨[], l, 1048576, -1, false⟩ : Tp).sync = (0, brT l) := by
  have := Tp.sync_live (t := ⟨[], l, 1048576, -1, false⟩) rfl (by show (-1 : Int) < 0; omega) (by show (0 : Int) ≤ 1048576; omega)
  simpa [brT] using this
theorem br_open {l : List UInt8} (h : l.length ≤ 200000) : Bks.opens (brT l) = (0, ⟨(readAns l).1, false, brT (l.take (readAns l).2)⟩) := by
  have ha : Bks.all (brT l) = l := by simp [Bks.all, brT]
  unfold Bks.opens
  rw [ha, if_neg (by simp [brT])]
  by_cases hlt : (readAns l).2 < l.length
  · rw [if_pos hlt]
    have hw := Tp.write_live (t := brT l) rfl (by show (-1 : Int) < 0; omega) (l.take (readAns l).2).length
    rw [if_neg (by show ¬ _ > (1048576 : Int); rw [List.length_take]; omega)] at hw
    have hrep : (brT l).repl (l.take (readAns l).2) = (0, brT (l.take (readAns l).2)) := by
      unfold Tp.repl
      rw [hw]
      rfl
    rw [hrep]
    simp
  · rw [if_neg hlt, List.take_of_length_le (by omega)]

set_option maxHeartbeats 8000000 in
set_option maxRecDepth 100000 in
theorem bookReads_walk (l : List UInt8) (v : Value) (w : World) (hv : RdB w w.heap.size v l) (hl : l.length ≤ 140737488351232) :
    Calls Try.prog 4 #[v] w fun e w' => e = .returned (.bool true) ∧ Below w.heap.size w w' := by
  obtain ⟨A, c, rfl, hc, -⟩ := hv.at
  have HV := Lib.hid hv; clear hv
  have HN := Lib.hid (new_any 1048576 (by decide) (by decide) w)
  by_cases hbig : 200000 < l.length
  · have hb1 : (200000 : Int) < (l.length : Int) := by omega
    go_enter Try.func4, Try.ntmps4
    go_wp2_with fail
    refine HN.out.mono ?_
    rintro e w1 ⟨p, rfl, ht, hb⟩
    have HB := Lib.hid hb
    have HA := Lib.hid (awake_any w1)
    clear ht hb HN
    go_wp2_with fail
    refine HA.out.mono ?_
    rintro e w2 ⟨rfl, hb⟩
    have HB2 := Lib.hid (HB.out.trans (hb.mono HB.out.size))
    have HA2 := Lib.hid (awake_any w2)
    clear hb HA HB
    go_wp2_with fail
    refine HA2.out.mono ?_
    rintro e w3 ⟨rfl, hb⟩
    have HB3 := Lib.hid (HB2.out.trans (hb.mono HB2.out.size))
    clear hb HA2 HB2
    go_wp2_with fail
    go_ret
    exact ⟨rfl, HB3.out⟩
  · have hb1 : ¬ (200000 : Int) < (l.length : Int) := by omega
    have hl2 : l.length ≤ 200000 := by omega
    go_enter Try.func4, Try.ntmps4
    go_wp2_with fail
    refine HN.out.mono ?_
    rintro e w1 ⟨p, rfl, ht, hb⟩
    have H1 := Lib.hid ht
    have HB := Lib.hid hb
    have HA := Lib.hid (awake_any w1)
    clear ht hb HN
    go_wp2_with fail
    refine HA.out.mono ?_
    rintro e w2 ⟨rfl, hb⟩
    have HB2 := Lib.hid (HB.out.trans (hb.mono HB.out.size))
    have H2 := Lib.hid (H1.out.mv (Mv.of_new hb (fun _ => False)) (fun h => h) (fun _ _ h => h))
    have hadd := add_any w.heap.size p none _ (.slice A l.length c) l w2 H2.out (fun wx hm => by
      have h1 := hm.below (B := w.heap.size) H2.out.low.2.2 (by rintro i (rfl | h); exact H2.out.low.1; cases h)
      exact (HV.out.below (HB2.out.trans h1) (Nat.le_refl _)).mono (HB2.out.trans h1).size) hl
    rw [br_add hl2] at hadd
    have HADD := Lib.hid hadd
    clear hb HA HB H1 hadd
    go_wp2_with fail
    refine HADD.out.mono ?_
    rintro e w3 ⟨rfl, ov3, hw3⟩
    have HB3 := Lib.hid (HB2.out.trans (hw3.below H2.out))
    have hsy := sync_any w.heap.size p ov3 _ w3 hw3.now
    have hnow := hw3.now
    rw [br_sync] at hsy
    have HSY := Lib.hid hsy
    have H3 := Lib.hid hnow
    clear hw3 hsy HADD hnow
    go_wp2_with fail
    refine HSY.out.mono ?_
    rintro e w4 ⟨rfl, hw4⟩
    have HB4 := Lib.hid (HB3.out.trans (hw4.below H3.out))
    have hop := bopen_any w.heap.size p ov3 (brT l) w4 hw4.now (by rw [br_open hl2])
    have hnow := hw4.now
    rw [br_open hl2] at hop
    obtain ⟨u, hu⟩ : ∃ u, u = (readAns l).2 := ⟨_, rfl⟩
    have hule : u ≤ l.length := by
      obtain ⟨_, h2, s, h3, _⟩ := read_take l
      have := congrArg List.length h3
      rw [List.length_append] at this
      omega
    rw [← hu] at hop
    have HOP := Lib.hid hop
    have HU := Lib.hid hu
    have H4 := Lib.hid hnow
    clear hw4 hop HSY hu hnow H3
    go_wp2_with fail
    refine HOP.out.mono ?_
    rintro e w5 ⟨q, G, rfl, hk5, -, hm5⟩
    have HB5 := Lib.hid (HB4.out.trans (hm5.below H4.out.low.2.2 (by
      rintro i (rfl | h)
      · exact H4.out.low.1
      · exact (H4.out.row h.symm).1)))
    have HK5 := Lib.hid hk5
    have HRD := Lib.hid (rread_any l A c w5 ((HV.out.below HB5.out (Nat.le_refl _)).mono HB5.out.size) (by omega))
    clear hk5 hm5 HOP H4
    go_wp2_with fail
    refine HRD.out.mono ?_
    rintro e w6 ⟨A6, c6, n6, rfl, rows6, hn6, ho6, hh6, ht6, hb6⟩
    rw [← HU.out]
    have HB6 := Lib.hid (HB5.out.trans (hb6.mono HB5.out.size))
    have hk6 := HK5.out.mv (Mv.of_new hb6 (fun _ => False)) (fun _ _ h => h)
    obtain ⟨ov6, htp6, -⟩ := hk6.tape
    have hby := bytes_any w.heap.size p ov6 _ w6 htp6
    simp only [brT, Bool.false_eq_true, if_false, List.append_nil] at hby
    obtain ⟨L2, hL2⟩ : ∃ L2, L2 = l.take u := ⟨_, rfl⟩
    rw [← hL2] at hby
    have HL2 := Lib.hid hL2; clear hL2
    have HBY := Lib.hid hby
    have HK6 := Lib.hid hk6
    have HO6 := Lib.hid ho6
    have HH6 := Lib.hid hh6
    have HT6 := Lib.hid ht6
    have HN6 := Lib.hid hn6
    have hz6 := hb6.size
    clear hk6 htp6 hby hb6 ho6 hh6 ht6 hn6 HRD HK5
    go_wp2_with fail
    refine HBY.out.mono ?_
    rintro e w7 ⟨A7, c7, rfl, ho7, hb7⟩
    have HB7 := Lib.hid (HB6.out.trans (hb7.mono HB6.out.size))
    have hmv7 := Mv.of_new hb7 (fun _ => False)
    have HK7 := Lib.hid (HK6.out.mv hmv7 (fun _ _ h => h))
    have HO7 := Lib.hid (OwnR.mv HO6.out hmv7 (fun _ _ h => h))
    have HH7 := Lib.hid (HH6.out.mv hmv7 (fun _ _ _ _ h => h))
    have HBY7 := Lib.hid ho7.rdB
    have hz7 := hb7.size
    clear hb7 ho7 hmv7 HBY HK6 HO6 HH6
    go_wp2_with fail
    have hd7 : Below w7.heap.size w7 w7.drew := (Below.refl _ w7).drew
    have hk8 : BkAt w7.drew w.heap.size q p G _ := HK7.out.mv (Mv.of_new hd7 (fun _ => False)) (fun _ _ h => h)
    have hrl : (readAns l).1.length ≤ 4000000 := by
      obtain ⟨h1, h2, s, h3, _⟩ := read_take l
      have := lay_ge (readAns l).1
      have h4 := congrArg List.length h3
      rw [List.length_append] at h4
      omega
    have HREC := Lib.hid (brec_any w.heap.size q p G _ w7.drew hk8 hrl)
    have HRLN := Lib.hid hrl
    obtain ⟨S, hS⟩ : ∃ S, S = strB L2 := ⟨_, rfl⟩
    have hcv1 : ∀ W, Below w7.drew.heap.size w7.drew W → (convert 36 9 (.slice A7 L2.length c7)).run Try.prog W = .ok (.string S) W := fun W hW => by rw [hS]; exact run_convB (HBY7.out.below (hd7.trans hW) (Nat.le_refl _))
    have hcv2 : ∀ W, Below w7.drew.heap.size w7.drew W → (convert 36 9 (.slice A u c)).run Try.prog W = .ok (.string S) W := fun W hW => by
      rw [hS, HL2.out]
      have h1 : RdB W w.heap.size (.slice A l.length c) l := HV.out.below (HB7.out.trans ((hd7.trans hW).mono HB7.out.size)) (Nat.le_refl _)
      exact run_convB (Rd.take (k := 1) h1 u hule)
    have HC1 := Lib.hid hcv1
    have HC2 := Lib.hid hcv2
    have huc : (u : Int) ≤ (c : Int) := by omega
    clear hcv1 hcv2 hS hk8 hrl
    refine wp_region_planB [(true, 0), (true, 1), (true, 2), (true, 3), (true, 4), (true, 5), (true, 6), (true, 7), (true, 8), (true, 9), (true, 10), (true, 11), (true, 13), (false, 12), (false, 14), (true, 15), (true, 16), (true, 17), (true, 18), (true, 19), (true, 20), (true, 21), (true, 22), (true, 23), (true, 24), (true, 25)] (by kernel_rfl) (by kernel_rfl) (fun _ _ d _ _ h => by cases d <;> exact h) ?_
    repeat (refine PlanB.take (v := ?_) rfl rfl ?_ ?_; rotate_left; (focus (intro W hW; go_simp; (try with_reducible rfl); done)); (try simp only [Act.put, List.setIfInBounds_toArray, List.set_cons_zero, List.set_cons_succ]))
    refine PlanB.step rfl rfl (fun Kk hK => ?_)
    go_simp
    go_at_call 14
    refine HREC.out.mono ?_
    rintro e w8 ⟨A8, c8, rows8, rfl, hr8, ht8, hb8⟩
    have hmv8 := Mv.of_new (hd7.trans hb8) (fun _ => False)
    have hx8 : RdRs w8 w8.heap.size (fun _ => False) (.slice A6 n6 c6) rows6 := OwnR.held (OwnR.mv HO7.out hmv8 (fun _ _ h => h)) (HH7.out.mv hmv8 (fun _ _ _ _ h => h)) (fun _ _ h => h) (fun _ _ _ _ h => h)
    have hr0 : rows8.length ≤ 4000000 := by
      have := congrArg List.length ht8
      rw [show (texts rows8).length = rows8.length from List.length_map _] at this
      simp only at this
      have h9 := HRLN.out
      omega
    have hr6 : rows6.length ≤ 4000000 := by
      have := congrArg List.length HT6.out
      rw [show (texts rows6).length = rows6.length from List.length_map _] at this
      have h9 := HRLN.out
      omega
    have hsm := rsame_any rows8 rows6 _ _ _ _ w8 hr8 hx8 (by omega) (by omega)
    rw [decide_eq_true (ht8.trans HT6.out.symm)] at hsm
    have HSM := Lib.hid hsm
    have HB8 := Lib.hid hb8
    refine hK.out _ _ hb8 ?_
    clear hK Kk hr8 ht8 hb8 hmv8 hx8 hsm HREC hr0 hr6
    (try simp only [Act.put, List.setIfInBounds_toArray, List.set_cons_zero, List.set_cons_succ])
    refine PlanB.step rfl rfl (fun Kk hK => ?_)
    go_simp
    go_at_call 13
    refine HSM.out.mono ?_
    rintro e w9 ⟨rfl, hb9⟩
    have HB79 := Lib.hid (HB8.out.trans (hb9.mono HB8.out.size))
    refine hK.out _ _ hb9 ?_
    clear hK Kk HSM hb9
    (try simp only [Act.put, List.setIfInBounds_toArray, List.set_cons_zero, List.set_cons_succ])
    repeat (refine PlanB.take (v := ?_) rfl rfl ?_ ?_; rotate_left; (focus (intro W hW; have k1 := HC1.out W (HB79.out.trans (hW.mono HB79.out.size)); have k2 := HC2.out W (HB79.out.trans (hW.mono HB79.out.size)); go_simp; (try with_reducible rfl); done)); (try simp only [Act.put, List.setIfInBounds_toArray, List.set_cons_zero, List.set_cons_succ]))
    simp only [PlanB]
    go_wp2_with fail
    go_ret
    exact ⟨rfl, HB7.out.trans ((hd7.trans HB79.out).mono HB7.out.size)⟩
end Go.Proofs.Ytaenlkopjmgniaa

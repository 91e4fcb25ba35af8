/- The program's bag: New. -/
import Derived.Test.YtjkhdlmdgdcimaaGAL
import Derived.Test.YtjkhdlmdgdcimaaMake
namespace Go.Proofs.Ytjkhdlmdgdcimaa
open Go.RowKit Go.Conc

set_option maxHeartbeats 1000000 in
set_option maxRecDepth 100000 in
theorem bnew_bad (room : Int) (h : room < 0 ∨ 4096 < room) (w : World) :
    Calls Try.prog 8 #[.int .i64 room] w fun e w' => e = .returned (.tuple #[.pointer none, .int .i64 1]) ∧ Below w.heap.size w w' := by
  by_cases h0 : room < 0
  · clear h
    go_enter Try.func8, Try.ntmps8
    go_wp2_with fail
    go_ret2
    exact ⟨rfl, Below.refl _ _⟩
  · have h1 : 4096 < room := by omega
    clear h
    go_enter Try.func8, Try.ntmps8
    go_wp2_with fail
    go_ret2
    exact ⟨rfl, Below.refl _ _⟩
theorem chanN_upto (n : Nat) : chanN (List.range n) = upto n := rfl

set_option maxHeartbeats 8000000 in
set_option maxRecDepth 100000 in
theorem new_is (room : Nat) (hr : room ≤ 4096) (w : World) :
    Calls Try.prog 8 #[.int .i64 (room : Int)] w fun e w' => ∃ q I, e = .returned (.tuple #[.pointer (some ⟨q, 0, none⟩), .int .i64 0]) ∧ BagIs w' w.heap.size q I ⟨room, []⟩ ∧ Below w.heap.size w w' := by
  have g0 : ¬ (room : Int) < 0 := by omega
  have g1 : ¬ 4096 < (room : Int) := by omega
  refine calls_of_WN Try.func8 rfl ?_
  simp only [Try.ntmps8, List.size_toArray, List.length_cons, List.length_nil, Nat.reduceAdd, Nat.reduceSub, Array.replicate_succ, Array.replicate_zero, List.push_toArray, List.append_toArray, List.nil_append, List.cons_append]
  refine WN.seq_wp fun K hK => ?_
  go_wp2_with fail
  refine WN.seq_wp fun K hK => ?_
  go_wp2_with fail
  refine WN.seq_wp fun K hK => ?_
  have tail : ∀ (w3 : World) (ch gp q : Nat) (x : Value), Hid (Whole w3 q 55 [.chan (some ch), .slice (some ⟨gp, 0, none⟩) room room, .slice none 0 0]) → Hid (w3.heap[ch]? = some (.chan room #[] false 0 0 false)) →
      Hid (OwnM w3 w.heap.size (.slice (some ⟨gp, 0, none⟩) room room) (List.replicate room Bg.none_)) → Hid (Below w.heap.size w w3) → Hid (q ≠ ch) → Hid (gp ≠ ch) → Hid (w.heap.size ≤ q ∧ w.heap.size ≤ ch) →
      K ⟨#[.int .i64 (room : Int), undef, .pointer none, .int .i64 0, .pointer (some ⟨q, 0, none⟩), undef, .int .i64 (room : Int), .bool (decide ((room : Int) < 0)), .bool (decide ((room : Int) < 0)), .int .i64 (room : Int),
        .bool (decide (4096 < (room : Int))), .bool (decide ((room : Int) < 0) || decide (4096 < (room : Int))), .int .i64 (room : Int), .chan (some ch), .int .i64 (room : Int), .slice (some ⟨gp, 0, none⟩) room room, x,
        .pointer (some ⟨q, 0, none⟩), undef, undef, undef, undef, undef, undef, undef, undef, undef, undef, undef], []⟩ w3 := by
    intro w3 ch gp q x HW HC HO HB HNE HGC HLOW
    refine hK _ _ ?_
    clear hK
    refine WN.seqK fun K hK => ?_
    refine WN.seq_wp fun K2 hK2 => ?_
    go_wp2_with fail
    refine WN.block (WN.loopP [5, 19, 20, 21, 22, 23, 24, 25, 26, 27] [undef, .int .i64 0, undef, undef, undef, undef, undef, undef, undef, undef]
      (fun us w' => ∃ i : Nat, i ≤ room ∧ us[1]? = some (.int .i64 (i : Int)) ∧ w'.heap[ch]? = some (.chan room (upto i) false i 0 false) ∧ Whole w' q 55 [.chan (some ch), .slice (some ⟨gp, 0, none⟩) room room, .slice none 0 0] ∧ Mv (fun i => i = ch) w3 w') (fun a _ => room - (intOf (a.tmps.getD 19 undef)).toNat) rfl rfl ⟨0, by omega, rfl, by rw [upto_zero]; exact HC.out, HW.out, Mv.refl _ _⟩ ?_)
    intro us wr hus hrel
    match us, hus with
    | [u5, u19, u20, u21, u22, u23, u24, u25, u26, u27], _ =>
      obtain ⟨j, hj, hu, hc, hW, hb⟩ := hrel
      simp only [List.getElem?_cons_succ, List.getElem?_cons_zero, Option.some.injEq] at hu
      subst hu
      simp only [patch, List.set_cons_zero, List.set_cons_succ]
      have z0 := hW.cell 0 _ rfl
      have HCj := Lib.hid hc
      have HWj := Lib.hid hW
      have HBj := Lib.hid hb
      clear hc hW hb
      by_cases hjr : j < room
      · have h1 : (j : Int) < (room : Int) := by omega
        refine WN.seq_wp fun K3 hK3 => ?_
        go_wp2_with fail
        refine WN.seq_wp fun K3 hK3 => ?_
        go_wp2_with fail
        refine WN.seqK fun K3 hK3 => WN.block ?_
        refine WN.seq_wp fun K4 hK4 => ?_
        go_wp2_with fail
        refine WN.region_comm [_, _, _, _, _] _ [] ?_
        repeat (refine PreV.take ?_ rfl (w' := wr) ?_ ?_; rotate_left; (focus (go_simp; (try with_reducible rfl); done)); (try simp only [Act.put, List.setIfInBounds_toArray, List.set_cons_zero, List.set_cons_succ]))
        unfold PreV
        refine ⟨rfl, _, _, CommTo.send (v := .int .i64 (j : Int)) (z' := .tuple #[]) ?_ HCj.out (by rw [upto_size]; exact hjr), ?_⟩
        · clear hK hK3
          go_simp
          rfl
        rw [upto_push]
        have hsz : ch < wr.heap.size := chan_lt HCj.out
        have hc2 := heap_setChan wr ch room (upto (j + 1)) false (j + 1) 0 false hsz
        have hm2 : Mv (fun i => i = ch) wr (wr.setChan ch room (upto (j + 1)) false (j + 1) 0 false) := (Mv.refl (fun i => i = ch) wr).setChan (fun _ => rfl) _ _ _ _ _ _
        have hW2 := hm2.whole HWj.out HNE.out
        have hb2 : Mv (fun i => i = ch) w3 _ := HBj.out.trans hm2 (fun _ _ e => e)
        have HC2 := Lib.hid hc2
        have HW2 := Lib.hid hW2
        have HB2 := Lib.hid hb2
        clear hc2 hW2 hb2 hm2
        go_wp2_with fail
        refine WN.of_wp ?_
        go_wp2_with fail
        refine ⟨⟨[_, _, _, _, _, _, _, _, _, _], rfl, rfl, j + 1, by omega, by simp, HC2.out, HW2.out, HB2.out⟩, ?_⟩
        simp [intOf]
        omega
      · have h1 : ¬ (j : Int) < (room : Int) := by omega
        refine WN.seq_wp fun K3 hK3 => ?_
        go_wp2_with fail
        refine WN.seq_wp fun K3 hK3 => ?_
        go_wp2_with fail
        refine WN.of_wp ?_
        go_wp2_with fail
        go_ret2
        obtain rfl : j = room := by omega
        have hbel : Below w.heap.size w3 wr := HBj.out.below HB.out.size (fun i e => by rw [e]; exact HLOW.out.2)
        refine ⟨q, rfl, ⟨⟨ch, gp, none, 0, j, 0, List.range j, [], List.replicate j Bg.none_⟩, HWj.out, ?_, HO.out.mvG HBj.out (fun g hg e => HGC.out (by rw [← e]; simpa [Value.ownBlock] using hg)), Own.nil _ _, ⟨hr, by simp, by simp⟩, HLOW.out.1, HLOW.out.2, Nat.le_trans HB.out.size hbel.size, by simp, Pl.new j, rfl⟩, HB.out.trans hbel⟩
        rw [chanN_upto]
        exact HCj.out
  refine wp_region_planT (fun _ => True) (.take 0 (.take 2 (.fork 1 (.step 3 (.take 4 (.step 5 (.take 6 .done)))) 3 (.step 1 (.take 4 (.step 5 (.take 6 .done))))))) (by kernel_rfl) (by kernel_rfl) (fun _ _ d _ _ h => by cases d <;> exact h) trivial ?_
  repeat (refine PlanT.takeI (v := ?_) rfl rfl ?_ ?_; rotate_left; (focus (intro W hW; go_simp; (try with_reducible rfl); done)); (try simp only [Act.put, List.setIfInBounds_toArray, List.set_cons_zero, List.set_cons_succ]))
  refine ⟨?_, ?_⟩
  · refine wpOp_stepT rfl rfl (fun Kk hKk => ?_)
    have hch := run_makeChan (P := Try.prog) (T := 51) (n := room) (w := w.drew) Try.underlying51 (by kernel_rfl : (Try.prog.info? 3).map (fun i => i.bytes) = some 8) (by omega) (by omega)
    go_wp2_with fail
    refine hKk.out _ _ trivial ?_
    clear hKk hch
    (try simp only [Act.put, List.setIfInBounds_toArray, List.set_cons_zero, List.set_cons_succ])
    obtain ⟨w1, hw1⟩ : ∃ w1, w1 = (w.alloc (.chan room #[] false 0 0 false)).drew := ⟨_, rfl⟩
    obtain ⟨w2, hmk, ho2, hb2⟩ := run_makeK (P := Try.prog) (enc := encL) (k := 3) w.heap.size 52 58 32 _ _ Bg.none_ Try.underlying52 info_msg rfl rfl encL_len (by decide) room w1 (by omega) (by unfold maxLen; omega) (by rw [hw1]; simp)
    rw [← hw1]
    have HW1 := Lib.hid hw1
    clear hw1
    refine wpOp_stepT rfl rfl (fun Kk hKk => ?_)
    go_wp2_with fail
    refine hKk.out _ _ trivial ?_
    clear hKk hmk
    (try simp only [Act.put, List.setIfInBounds_toArray, List.set_cons_zero, List.set_cons_succ])
    repeat (refine PlanT.takeI (v := ?_) rfl rfl ?_ ?_; rotate_left; (focus (intro W hW; go_simp; (try with_reducible rfl); done)); (try simp only [Act.put, List.setIfInBounds_toArray, List.set_cons_zero, List.set_cons_succ]))
    refine wpOp_stepT rfl rfl (fun Kk hKk => ?_)
    go_wp2_with fail
    refine hKk.out _ _ trivial ?_
    clear hKk
    (try simp only [Act.put, List.setIfInBounds_toArray, List.set_cons_zero, List.set_cons_succ])
    repeat (refine PlanT.takeI (v := ?_) rfl rfl ?_ ?_; rotate_left; (focus (intro W hW; go_simp; (try with_reducible rfl); done)); (try simp only [Act.put, List.setIfInBounds_toArray, List.set_cons_zero, List.set_cons_succ]))
    simp only [PlanT]
    have hs12 := HW1.out
    have hz1 : w1.heap.size = w.heap.size + 1 := by rw [HW1.out]; simp
    have hz2 := hb2.size
    refine tail _ _ _ _ _ (Lib.hid (Whole.fresh w2 _ [_, _, _])) (Lib.hid ?_) (Lib.hid (ho2.alloc _)) (Lib.hid ?_) (Lib.hid (by omega)) (Lib.hid (by omega)) (Lib.hid ⟨by omega, by omega⟩)
    · rw [Below.heap_alloc w2 _ _ (by omega), hb2.block w.heap.size (by omega), HW1.out]
      exact heap_alloc_new w _
    · have hb1 : Below w.heap.size w w1 := by rw [HW1.out]; exact ((Below.refl _ w).alloc (Nat.le_refl _) _).drew
      exact (hb1.trans (hb2.mono (by omega))).alloc (by omega) _
  · refine wpOp_stepT rfl rfl (fun Kk hKk => ?_)
    obtain ⟨w1, hmk, ho1, hb1⟩ := run_makeK (P := Try.prog) (enc := encL) (k := 3) w.heap.size 52 58 32 _ _ Bg.none_ Try.underlying52 info_msg rfl rfl encL_len (by decide) room w.drew (by omega) (by unfold maxLen; omega) (Nat.le_refl _)
    go_wp2_with fail
    refine hKk.out _ _ trivial ?_
    clear hKk hmk
    (try simp only [Act.put, List.setIfInBounds_toArray, List.set_cons_zero, List.set_cons_succ])
    have hch := run_makeChan (P := Try.prog) (T := 51) (n := room) (w := w1) Try.underlying51 (by kernel_rfl : (Try.prog.info? 3).map (fun i => i.bytes) = some 8) (by omega) (by omega)
    refine wpOp_stepT rfl rfl (fun Kk hKk => ?_)
    go_wp2_with fail
    refine hKk.out _ _ trivial ?_
    clear hKk hch
    (try simp only [Act.put, List.setIfInBounds_toArray, List.set_cons_zero, List.set_cons_succ])
    repeat (refine PlanT.takeI (v := ?_) rfl rfl ?_ ?_; rotate_left; (focus (intro W hW; go_simp; (try with_reducible rfl); done)); (try simp only [Act.put, List.setIfInBounds_toArray, List.set_cons_zero, List.set_cons_succ]))
    refine wpOp_stepT rfl rfl (fun Kk hKk => ?_)
    go_wp2_with fail
    refine hKk.out _ _ trivial ?_
    clear hKk
    (try simp only [Act.put, List.setIfInBounds_toArray, List.set_cons_zero, List.set_cons_succ])
    repeat (refine PlanT.takeI (v := ?_) rfl rfl ?_ ?_; rotate_left; (focus (intro W hW; go_simp; (try with_reducible rfl); done)); (try simp only [Act.put, List.setIfInBounds_toArray, List.set_cons_zero, List.set_cons_succ]))
    simp only [PlanT]
    have hz1 := hb1.size
    have hlo := ho1.low (i := w.heap.size) rfl
    have hz0 : w.drew.heap.size = w.heap.size := rfl
    refine tail _ _ _ _ _ (Lib.hid ?_) (Lib.hid ?_) (Lib.hid ((ho1.alloc _).alloc _)) (Lib.hid ?_) (Lib.hid (by omega)) (Lib.hid (by omega)) (Lib.hid ⟨by omega, by omega⟩)
    · have := Whole.fresh (w1.alloc (.chan room #[] false 0 0 false)) 55 [.chan (some w1.heap.size), .slice (some ⟨w.heap.size, 0, none⟩) room room, .slice none 0 0]
      rwa [show (w1.alloc (.chan room #[] false 0 0 false)).heap.size = w1.heap.size + 1 by simp] at this
    · rw [Below.heap_alloc _ _ _ (by simp)]
      exact heap_alloc_new w1 _
    · have hb0 : Below w.heap.size w w1 := (Below.refl w.heap.size w).drew.trans hb1
      exact (hb0.alloc (by omega) _).alloc (by simp; omega) _
theorem bnew_any (room : Int) (h0 : 0 ≤ room) (h1 : room ≤ 4096) (w : World) :
    Calls Try.prog 8 #[.int .i64 room] w fun e w' => ∃ q G, e = .returned (.tuple #[.pointer (some ⟨q, 0, none⟩), .int .i64 0]) ∧ BagAt w' w.heap.size q G ⟨room.toNat, []⟩ ∧ Below w.heap.size w w' := by
  obtain ⟨n, rfl⟩ : ∃ n : Nat, room = (n : Int) := ⟨room.toNat, by omega⟩
  refine (new_is n (by omega) w).mono ?_
  rintro e w' ⟨q, I, he, hI, hb⟩
  exact ⟨q, BagG q I, he, ⟨I, by simpa using hI, fun _ => Iff.rfl⟩, hb⟩
end Go.Proofs.Ytjkhdlmdgdcimaa

/- The program's bag: leave and Take. -/
import Derived.Test.YtjkhdlmdgdcimaaGAL
import Derived.Test.YtjkhdlmdgdcimaaGAF
import Derived.Test.YtjkhdlmdgdcimaaGAD
namespace Go.Proofs.Ytjkhdlmdgdcimaa
open Go.RowKit Go.Conc

set_option maxHeartbeats 4000000 in
set_option maxRecDepth 100000 in
theorem leave_ok (base q : Nat) (I : Bi) (b : Bg) (k : Nat) (w : World) (h : BagIs w base q I b) (hk : k < I.ord.length) :
    Calls Try.prog 23 #[.pointer (some ⟨q, 0, none⟩), .int .i64 (k : Int)] w fun e w' => e = .returned (.tuple #[]) ∧ ∃ I', BagIs w' base q I' ⟨b.room, b.l.eraseIdx k⟩ ∧ (∀ i, BagG q I' i → BagG q I i) ∧ Mv (BagG q I) w w' := by
  have hroom := h.ok.1
  have hlenb := h.len
  have hle := h.ok.2.1
  obtain ⟨go, hO, hnc, hcell⟩ := h.cells hk
  have hp := h.all.at hk
  have hpt := h.all.take hk
  have hno := not_mem_erase h.all.nodup hk
  obtain ⟨p, hpe⟩ : ∃ p, p = I.ord[k] := ⟨_, rfl⟩
  rw [← hpe] at hcell hp hpt hno
  have hpl : p < I.ms.length := by rw [h.mlen]; exact hp
  have hW := h.whole
  have hord := h.ord
  rw [hO] at hW hord
  obtain ⟨j, hj⟩ : ∃ j, j = k + 1 := ⟨_, rfl⟩
  have hdel := del_any base go I.c k j hj (intsN I.ord) w (by rw [intsN_len]; exact hord) (by rw [intsN_len]; exact hk) (by rw [intsN_len]; omega)
  rw [intsN_len] at hdel
  have hwj : IntKind.i64.wrap ((k : Int) + 1) = (j : Int) := by rw [IntKind.wrap_i64]; omega
  have hel : (I.ord.eraseIdx k).length = I.ord.length - 1 := List.length_eraseIdx_of_lt hk
  have hei : intsN (I.ord.eraseIdx k) = (intsN I.ord).eraseIdx k := by
    unfold intsN
    rw [List.eraseIdx_eq_take_drop_succ, List.eraseIdx_eq_take_drop_succ, List.map_append, List.map_take, List.map_drop]
  rw [← hei] at hdel
  obtain ⟨n, hn⟩ : ∃ n, n = I.ord.length := ⟨_, rfl⟩
  obtain ⟨m, hm⟩ : ∃ m, m = n - 1 := ⟨_, rfl⟩
  rw [← hn] at hdel hW hnc hel
  rw [← hm] at hdel hel
  have hgo : Value.ownBlock (.slice I.O I.ord.length I.c) = some go := by rw [hO]; rfl
  have hgq : go ≠ q := h.qo hgo
  have hgg : go ≠ I.gp := h.go hgo
  have hgc : go ≠ I.ch := h.co hgo
  have hfl : I.fr.length < b.room := by have := h.all.all; omega
  have c2 := hW.cell 2 _ rfl
  have HH := Lib.hid h
  have HD := Lib.hid hdel
  have HW := Lib.hid hW
  have HPT := Lib.hid hpt
  have HNO := Lib.hid hno
  have HEL := Lib.hid hel
  have HO := Lib.hid hO
  have HGO := Lib.hid hgo
  have HPL := Lib.hid hpl
  have HFL := Lib.hid hfl
  have HL := Lib.hid hlenb
  have HLE := Lib.hid hle
  have HN := Lib.hid hn
  have HM := Lib.hid hm
  have HROOM := Lib.hid hroom
  have hkn : k < n := by omega
  have g0 : (k : Int) < (n : Int) := by omega
  have g1 : (0 : Int) ≤ (k : Int) := by omega
  have g2 : (p : Int) < (b.room : Int) := by omega
  have g3 : (0 : Int) ≤ (p : Int) := by omega
  clear h hdel hW hpt hno hel hO hgo hpl hfl hlenb hle hn hm hroom hj hei hord hpe hk
  refine calls_of_WN Try.func23 rfl ?_
  simp only [Try.ntmps23, List.size_toArray, List.length_cons, List.length_nil, Nat.reduceAdd, Nat.reduceSub, Array.replicate_succ, Array.replicate_zero, List.push_toArray, List.append_toArray, List.nil_append, List.cons_append]
  refine WN.seq_wp fun K hK => ?_
  go_wp2_with fail
  refine WN.seq_wp fun K hK => ?_
  go_wp2_with fail
  refine HD.out.mono ?_
  rintro e w1 ⟨rfl, ho1, hg1, hs1⟩
  have hm1 : Mv (fun i => i = go) w w1 := (Mv.of_grown hg1).mono (fun i _ e => by injection e)
  have hq1 := hm1.whole HW.out (fun e => hgq e.symm)
  have y2 := hq1.cell 2 _ rfl
  have y2f := hq1.frozen 2
  have HO1 := Lib.hid ho1
  have HQ1 := Lib.hid hq1
  have HM1 := Lib.hid hm1
  clear ho1 hg1 hs1 hq1 hm1 c2 hcell HD
  go_wp2_with fail
  obtain ⟨w2, hw2⟩ : ∃ w2, w2 = w1.setCell ⟨q, 2, none⟩ (.slice (some ⟨go, 0, none⟩) m I.c) := ⟨_, rfl⟩
  rw [← hw2]
  have hm2 : Mv (fun i => i = q) w1 w2 := by rw [hw2]; exact (Mv.refl (fun i => i = q) w1).setCell (p := ⟨q, 2, none⟩) (fun _ => rfl) _
  have hq2 : Whole w2 q 55 [.chan (some I.ch), .slice (some ⟨I.gp, 0, none⟩) b.room b.room, .slice (some ⟨go, 0, none⟩) m I.c] := by rw [hw2]; exact HQ1.out.put 2 _
  have ho2 := HO1.out.mvG hm2 (fun g hg e => hgq (by have : go = g := by simpa [Value.ownBlock] using hg
                                                     omega))
  have hgM2 : OwnM w2 base (.slice (some ⟨I.gp, 0, none⟩) b.room b.room) I.ms :=
    (HH.out.msgs.mvG HM1.out (fun g hg e => hgg (by have : I.gp = g := by simpa [Value.ownBlock] using hg
                                                    omega))).mvG hm2 (fun g hg e => HH.out.qg (by have : I.gp = g := by simpa [Value.ownBlock] using hg
                                                                                                  omega))
  have hc2 := (hm2.block I.ch (Nat.lt_of_lt_of_le (chan_lt HH.out.chan) HM1.out.size) (fun e => HH.out.qc e.symm)).trans ((HM1.out.block I.ch (chan_lt HH.out.chan) (fun e => hgc e.symm)).trans HH.out.chan)
  have hh2 : ∀ j u, (encL (I.ms[p]'HPL.out))[j]? = some u → w2.cell? ⟨I.gp, p * 3 + j, none⟩ = some u := fun j u hu => by
    obtain ⟨A, c, e, hc, hi⟩ := Own.rd encL_len hgM2
    injection e with e1 e2 e3
    obtain ⟨g, o, hA, hg, h1⟩ := hi p HPL.out
    rw [← e1] at hA
    injection hA with hA
    injection hA with e4 e5 _
    have := h1 j u hu
    rw [← e4, ← e5, Nat.zero_add] at this
    exact this
  have p0 : w2.cell? ⟨I.gp, p * 3, none⟩ = some (.int .i64 (I.ms[p]'HPL.out).to) := hh2 0 _ rfl
  have p1 := hh2 1 _ rfl
  have p2 := hh2 2 _ rfl
  have f0 := hgM2.stand (p * 3)
  have f1 := hgM2.stand (p * 3 + 1)
  have f2 := hgM2.stand (p * 3 + 2)
  have z1 := hq2.cell 1 _ rfl
  have HQ2 := Lib.hid hq2
  have HO2 := Lib.hid ho2
  have HG2 := Lib.hid hgM2
  have HC2 := Lib.hid hc2
  have HM2 := Lib.hid hm2
  clear y2 y2f hw2 hm2 hq2 ho2 hgM2 hc2 hh2
  refine WN.seq_wp fun K hK => ?_
  go_wp2_with fail
  obtain ⟨w3, hw3⟩ : ∃ w3, w3 = ((w2.setCell ⟨I.gp, p * 3, none⟩ (.int .i64 0)).setCell ⟨I.gp, p * 3 + 1, none⟩ (.string ⟨#[]⟩)).setCell ⟨I.gp, p * 3 + 2, none⟩ (.bool false) := ⟨_, rfl⟩
  have hm3 : Mv (fun i => i = I.gp) w2 w3 := by
    rw [hw3]
    exact (((Mv.refl (fun i => i = I.gp) w2).setCell (p := ⟨I.gp, p * 3, none⟩) (fun _ => rfl) _).setCell (p := ⟨I.gp, p * 3 + 1, none⟩) (fun _ => rfl) _).setCell (p := ⟨I.gp, p * 3 + 2, none⟩) (fun _ => rfl) _
  have hg3 : OwnM w3 base (.slice (some ⟨I.gp, 0, none⟩) b.room b.room) (I.ms.set p Bg.none_) := by
    rw [hw3]
    exact OwnM.put HG2.out p HPL.out Bg.none_
  have hq3 := hm3.whole HQ2.out HH.out.qg
  have ho3 := HO2.out.mvG hm3 (fun g hg e => hgg (by have : go = g := by simpa [Value.ownBlock] using hg
                                                     omega))
  have hc3 := (hm3.block I.ch (chan_lt HC2.out) HH.out.cg).trans HC2.out
  rw [← hw3]
  have z0 := hq3.cell 0 _ rfl
  have HQ3 := Lib.hid hq3
  have HO3 := Lib.hid ho3
  have HG3 := Lib.hid hg3
  have HC3 := Lib.hid hc3
  have HM3 := Lib.hid hm3
  clear p0 p1 p2 f0 f1 f2 z1 hw3 hm3 hg3 hq3 ho3 hc3
  refine WN.region_comm [_, _, _, _, _] _ [] ?_
  repeat (refine PreV.take ?_ rfl (w' := w3) ?_ ?_; rotate_left; (focus (go_simp; (try with_reducible rfl); done)); (try simp only [Act.put, List.setIfInBounds_toArray, List.set_cons_zero, List.set_cons_succ]))
  unfold PreV
  refine ⟨rfl, _, _, CommTo.send (v := .int .i64 (p : Int)) (z' := .tuple #[]) ?_ HC3.out (by rw [chanN_size]; exact HFL.out), ?_⟩
  · go_simp
    rfl
  have hpush : (chanN I.fr).push (.int .i64 (p : Int)) = chanN (I.fr ++ [p]) := by simp [chanN]
  rw [hpush]
  obtain ⟨w4, hw4⟩ : ∃ w4, w4 = w3.setChan I.ch b.room (chanN (I.fr ++ [p])) false (I.s + 1) I.r false := ⟨_, rfl⟩
  rw [← hw4]
  have hm4 : Mv (fun i => i = I.ch) w3 w4 := by rw [hw4]; exact (Mv.refl (fun i => i = I.ch) w3).setChan (fun _ => rfl) _ _ _ _ _ _
  have hc4 : w4.heap[I.ch]? = some (.chan b.room (chanN (I.fr ++ [p])) false (I.s + 1) I.r false) := by rw [hw4]; exact heap_setChan w3 _ _ _ _ _ _ _ (chan_lt HC3.out)
  have HC4 := Lib.hid hc4
  have HM4 := Lib.hid hm4
  clear hpush hw4 hm4 hc4 z0
  go_wp2_with fail
  go_end0
  have hmA : Mv (BagG q I) w w1 := HM1.out.mono (fun i _ e => .inr (.inr (.inr (by rw [e]; exact HGO.out))))
  have hmB : Mv (BagG q I) w w2 := hmA.trans HM2.out (fun i _ e => .inl e)
  have hmC : Mv (BagG q I) w w3 := hmB.trans HM3.out (fun i _ e => .inr (.inr (.inl e)))
  have hmD : Mv (BagG q I) w w4 := hmC.trans HM4.out (fun i _ e => .inr (.inl e))
  refine ⟨rfl, ⟨I.ch, I.gp, some ⟨go, 0, none⟩, I.c, I.s + 1, I.r, I.fr ++ [p], I.ord.eraseIdx k, I.ms.set p Bg.none_⟩, ⟨?_, HC4.out, ?_, ?_, ?_, HH.out.qlow, HH.out.clow, ?_, ?_, HPT.out, ?_⟩, ?_, hmD⟩
  · show Whole w4 q _ [_, _, .slice _ (I.ord.eraseIdx k).length I.c]
    rw [HEL.out]
    exact HM4.out.whole HQ3.out HH.out.qc
  · exact HG3.out.mvG HM4.out (fun g hg e => HH.out.cg (by have : I.gp = g := by simpa [Value.ownBlock] using hg
                                                           omega))
  · show OwnI w4 base (.slice _ (I.ord.eraseIdx k).length I.c) _
    rw [HEL.out]
    exact HO3.out.mvG HM4.out (fun g hg e => hgc (by have : go = g := by simpa [Value.ownBlock] using hg
                                                     omega))
  · obtain ⟨k1, k2, k3⟩ := HH.out.ok
    exact ⟨k1, by have := List.length_eraseIdx_le b.l k; simp only; omega, fun x hx => k3 x (List.mem_of_mem_eraseIdx hx)⟩
  · have := HH.out.size
    have := hmD.size
    omega
  · show (I.ms.set p _).length = b.room
    rw [List.length_set]; exact HH.out.mlen
  · show b.l.eraseIdx k = lie (I.ms.set p _) (I.ord.eraseIdx k)
    rw [lie_set _ _ _ _ HNO.out, lie_erase, ← HH.out.list]
  · intro i hi
    rcases hi with hi | hi | hi | hi
    · exact .inl hi
    · exact .inr (.inl hi)
    · exact .inr (.inr (.inl hi))
    · exact .inr (.inr (.inr (by rw [HGO.out]; exact hi)))

set_option maxHeartbeats 4000000 in
set_option maxRecDepth 100000 in
theorem btake_any (base q : Nat) (G : Nat → Prop) (b : Bg) (i : Int) (w : World) (h : BagAt w base q G b) :
    Calls Try.prog 14 #[.pointer (some ⟨q, 0, none⟩), .int .i64 i] w fun e w' => ∃ A c, e = .returned (.tuple #[.int .i64 (b.look i).1.to, .slice A (b.look i).1.text.length c, .int .i64 (b.look i).2]) ∧ ∃ G', BagAt w' base q G' (b.take i) ∧ (∀ i, G' i → G i ∨ w.heap.size ≤ i) ∧ Mv G w w' ∧ RdBG w' w'.heap.size (fun i => G' i ∨ Else w G i) (.slice A (b.look i).1.text.length c) (b.look i).1.text := by
  obtain ⟨I, h, hG⟩ := h
  have hlook := look_ok base q I b i w h
  obtain ⟨R, hR⟩ : ∃ R, R = b.take i := ⟨_, rfl⟩
  rw [← hR]
  unfold Bg.take at hR
  by_cases hi : b.has i
  · rw [if_pos hi] at hR
    have hr : (b.look i).2 = 0 := by rw [Bg.look_at hi]
    rw [hr] at hlook ⊢
    obtain ⟨h0, h1⟩ := id hi
    obtain ⟨k, rfl⟩ : ∃ k : Nat, i = (k : Int) := ⟨i.toNat, by omega⟩
    have hk : k < I.ord.length := by have := h.len; omega
    rw [Int.toNat_natCast] at hR
    have hleave := fun w' h' => leave_ok base q I b k w' h' hk
    generalize (b.look (k : Int)).1 = x at hlook ⊢
    obtain ⟨to, tx, sp⟩ := x
    simp only at hlook ⊢
    obtain ⟨n, hn⟩ : ∃ n, n = tx.length := ⟨_, rfl⟩
    rw [← hn] at hlook ⊢
    have HLV := Lib.hid hleave
    have HL := Lib.hid hlook
    have HR := Lib.hid hR
    have HH := Lib.hid h
    have HG := Lib.hid hG
    have HN := Lib.hid hn
    clear hleave hlook hR h hG hi h0 h1 hr hk hn
    go_enter Try.func14, Try.ntmps14
    go_wp2_with fail
    refine HL.out.mono ?_
    rintro e w1 ⟨A, c, rfl, ho1, hb1⟩
    have HO1 := Lib.hid ho1
    have HB1 := Lib.hid hb1
    clear ho1 hb1 HL
    go_wp2_with fail
    refine (HLV.out w1 (HH.out.mv (Mv.of_new HB1.out (fun _ => False)) (fun _ _ h => h))).mono ?_
    rintro e w2 ⟨rfl, I', h', hn', hm'⟩
    have HI := Lib.hid h'
    have HN' := Lib.hid hn'
    have HM' := Lib.hid hm'
    clear h' hn' hm'
    go_wp2_with fail
    go_ret3
    have hlow : ∀ i, BagG q I i → i < w.heap.size := fun i hi => (HH.out.low hi).2
    have ho2 : OwnB w2 w.heap.size (.slice A n c) tx := HO1.out.mvG HM'.out (fun g hg e => by
      have h3 := hlow g e
      have h4 := HO1.out.low hg
      omega)
    refine ⟨A, c, rfl, BagG q I', ⟨I', by rw [HR.out]; exact HI.out, fun _ => Iff.rfl⟩, fun i hi => .inl ((HG.out i).2 (HN'.out i hi)), ?_, ?_⟩
    · exact ((Mv.of_new HB1.out (BagG q I)).trans HM'.out (fun _ _ h => h)).mono (fun i _ hi => (HG.out i).2 hi)
    · exact OwnB.rdNew ho2 (fun i hi => by
        rcases hi with hi | hi
        · exact hlow i (HN'.out i hi)
        · exact hi.2)
  · rw [if_neg hi] at hR
    have hr : b.look i = (Bg.none_, 4) := by unfold Bg.look; rw [if_neg hi]
    rw [hr] at hlook ⊢
    have HL := Lib.hid hlook
    have HR := Lib.hid hR
    have HH := Lib.hid h
    have HG := Lib.hid hG
    clear hlook hR h hG hi hr
    go_enter Try.func14, Try.ntmps14
    go_wp2_with fail
    refine HL.out.mono ?_
    rintro e w1 ⟨A, c, rfl, ho1, hb1⟩
    have HO1 := Lib.hid ho1
    have HB1 := Lib.hid hb1
    clear ho1 hb1 HL
    go_wp2_with fail
    go_ret3
    refine ⟨A, c, rfl, G, ⟨I, by rw [HR.out]; exact HH.out.mv (Mv.of_new HB1.out (fun _ => False)) (fun _ _ h => h), HG.out⟩, fun i hi => .inl hi, Mv.of_new HB1.out _, ?_⟩
    exact HO1.out.rdNew (fun i hi => by
      rcases hi with hi | hi
      · exact (HH.out.low ((HG.out i).1 hi)).2
      · exact hi.2)
end Go.Proofs.Ytjkhdlmdgdcimaa

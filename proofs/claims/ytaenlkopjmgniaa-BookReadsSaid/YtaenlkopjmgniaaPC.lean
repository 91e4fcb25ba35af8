/- The program's tape: Crash. -/
import Derived.Test.YtaenlkopjmgniaaPW
import Derived.Test.YtaenlkopjmgniaaBits
namespace Go.Proofs.Ytaenlkopjmgniaa
open Go.RowKit

/-- what lasts of the loose ones, by the number of them -/
theorem Tp.kept_all (l : List UInt8) (keep : Int) (turn : UInt8) (h : min (max keep 0) (l.length : Int) = l.length) : Tp.kept l keep turn = l := by
  unfold Tp.kept
  split
  · rfl
  · rename_i hn
    have h0 : l.length = 0 := by omega
    have : l = [] := List.eq_nil_of_length_eq_zero h0
    subst this
    simp
theorem Tp.kept_cut (l : List UInt8) (keep : Int) (K : Nat) (hK : min (max keep 0) (l.length : Int) = K) (hlt : K < l.length) : Tp.kept l keep 0 = l.take K := by
  unfold Tp.kept
  rw [if_neg (by omega), if_pos rfl, show keep.toNat = K by omega]
theorem Tp.kept_turn (l : List UInt8) (keep : Int) (turn : UInt8) (ht : turn ≠ 0) (K : Nat) (hK : min (max keep 0) (l.length : Int) = K) (hlt : K < l.length) : Tp.kept l keep turn = l.take K ++ [l[K] ^^^ turn] := by
  unfold Tp.kept
  rw [if_neg (by omega), if_neg ht, show keep.toNat = K by omega, List.getElem?_eq_getElem hlt]
  rfl

theorem cut_set (a b : List UInt8) (K : Nat) (h : K < b.length) (X : UInt8) : ((a ++ b).set (a.length + K) X).take (a.length + K + 1) = a ++ (b.take K ++ [X]) := by
  rw [List.set_append_right _ _ (by omega), Nat.add_sub_cancel_left, Nat.add_assoc, List.take_append, List.take_of_length_le (by omega), Nat.add_sub_cancel_left, List.take_add_one]
  rw [List.take_set_of_le (by omega)]
  simp [h]
/-- behind the crash: of the bytes Y the first E stand -/
theorem crash_tail {base p : Nat} {ov : Option Nat} {sure loose : List UInt8} {room left : Int} {down : Bool} {keep : Int} {turn : UInt8} {w wx : World} {A : Option Addr} {c L E : Nat} {Y : List UInt8} {v1 v2 v3 v4 v5 : Value}
    (hb : Whole wx p 51 [.int .i64 room, v1, v2, v3, v4, v5]) (ho : HoldB wx base (.slice A L c) Y) (hY : Y.length = L) (hE : E ≤ L) (hX : Y.take E = sure ++ Tp.kept loose keep turn) (hv : Value.ownBlock (.slice A L c) = ov) (hap : ov ≠ some p) (hp : base ≤ p) (hs : base ≤ wx.heap.size)
    (hok : Tp.Ok ⟨sure, loose, room, left, down⟩) (hm : Mv (TapeD p ov) w wx) :
    Went w (((((wx.setCell ⟨p, 1, none⟩ (.slice A E E)).setCell ⟨p, 2, none⟩ (.int .i64 (E : Int))).setCell ⟨p, 3, none⟩ (.bool false)).setCell ⟨p, 4, none⟩ (.bool false)).setCell ⟨p, 5, none⟩ (.int .i64 0)) base p ov (Tp.crash ⟨sure, loose, room, left, down⟩ keep turn) ov := by
  have hl : (sure ++ Tp.kept loose keep turn).length = E := by rw [← hX, List.length_take]; omega
  have hm5 : ∀ (D : Nat → Prop) (w0 : World), D p → Mv D w0 wx → Mv D w0 (((((wx.setCell ⟨p, 1, none⟩ (.slice A E E)).setCell ⟨p, 2, none⟩ (.int .i64 (E : Int))).setCell ⟨p, 3, none⟩ (.bool false)).setCell ⟨p, 4, none⟩ (.bool false)).setCell ⟨p, 5, none⟩ (.int .i64 0)) := fun D w0 hd h =>
    ((((h.setCell (p := ⟨p, 1, none⟩) (fun _ => hd) _).setCell (p := ⟨p, 2, none⟩) (fun _ => hd) _).setCell (p := ⟨p, 3, none⟩) (fun _ => hd) _).setCell (p := ⟨p, 4, none⟩) (fun _ => hd) _).setCell (p := ⟨p, 5, none⟩) (fun _ => hd) _
  have hcut := ho.cut E (by omega)
  have hv' : Value.ownBlock (.slice A E E) = ov := by rw [← hv]; cases A <;> rfl
  refine ⟨⟨A, E, ?_, ?_, ?_, hp, by simpa using hs, hok.crash keep turn, by show (-1 : Int) < _; omega⟩, hm5 _ _ (.inl rfl) hm, NewRow.refl _ _⟩
  · have := ((((hb.put 1 (.slice A E E)).put 2 (.int .i64 (E : Int))).put 3 (.bool false)).put 4 (.bool false)).put 5 (.int .i64 0)
    simp only [List.set] at this
    simp only [Tp.crash, hl, List.length_nil, Nat.add_zero]
    exact this
  · simp only [Tp.crash, hl, List.length_nil, Nat.add_zero, List.append_nil]
    rw [hX] at hcut
    exact hcut.mv (hm5 (fun j => j = p) wx rfl (Mv.refl _ _)) (fun g hg e => hap (by rw [← hv', hg, e]))
  · simp only [Tp.crash, hl, List.length_nil, Nat.add_zero]
    exact hv'

set_option maxHeartbeats 2000000 in
set_option maxRecDepth 100000 in
theorem crash_any (base p : Nat) (ov : Option Nat) (t : Tp) (keep : Int) (turn : UInt8) (w : World) (h : TapeAt w base p ov t) :
    Calls Try.prog 16 #[.pointer (some ⟨p, 0, none⟩), .int .i64 keep, .int .u8 (turn.toNat : Int)] w fun e w' => e = .returned (.tuple #[]) ∧ Went w w' base p ov (t.crash keep turn) ov := by
  have hlo := loose_any base p ov t w.drew ⟨_, _, h.choose_spec.choose_spec⟩
  obtain ⟨sure, loose, room, left, down⟩ := t
  obtain ⟨A, c, hb, ho, hv, hp, hs, hk, hl⟩ := h
  simp only at hb ho hv hk hl hlo
  obtain ⟨n, hn⟩ : ∃ n, n = sure.length := ⟨_, rfl⟩
  obtain ⟨m, hm⟩ : ∃ m, m = loose.length := ⟨_, rfl⟩
  obtain ⟨L, hL⟩ : ∃ L, L = n + m := ⟨_, rfl⟩
  rw [← hn, ← hm] at hb ho hv
  rw [← hm] at hlo
  rw [← hL] at hb ho hv
  obtain ⟨k1, k2, k3⟩ := id hk
  simp only at k1 k2 k3
  rw [← hn, ← hm] at k3
  obtain ⟨K0, hK0⟩ : ∃ K0 : Nat, max keep 0 = (K0 : Int) := ⟨(max keep 0).toNat, by omega⟩
  obtain ⟨K, hK⟩ : ∃ K : Nat, min (K0 : Int) (m : Int) = (K : Int) := ⟨(min (K0 : Int) (m : Int)).toNat, by omega⟩
  have hKm : K ≤ m := by omega
  obtain ⟨E, hE⟩ : ∃ E, E = n + K := ⟨_, rfl⟩
  have hwE : IntKind.i64.wrap ((n : Int) + (K : Int)) = (E : Int) := by rw [wrap_small _ (by omega) (by omega)]; omega
  have hmin : min (max keep 0) (loose.length : Int) = (K : Int) := by rw [hK0, ← hm]; exact hK
  have hLc : L ≤ c := by
    rcases ho.form with ⟨e, _⟩ | ⟨g, cap, e, _, _, h⟩
    · injection e with _ e2 _
      omega
    · injection e with _ e2 e3
      omega
  have hap : Value.ownBlock (.slice A L c) ≠ some p := ho.apart hb (by decide)
  have hXl : (sure ++ loose).length = L := by rw [List.length_append, ← hn, ← hm, hL]
  have c2 := hb.cell 2 _ rfl
  have hlt := hb.size
  have hEL : E ≤ L := by omega
  have HX := Lib.hid hXl; clear hXl
  have HB := Lib.hid hb; clear hb
  have HO := Lib.hid ho; clear ho
  have HV := Lib.hid hv; clear hv
  have HK := Lib.hid hk; clear hk
  have HAP := Lib.hid hap; clear hap
  have HLO := Lib.hid hlo; clear hlo
  have HMIN := Lib.hid hmin; clear hmin
  have HN := Lib.hid hn; clear hn
  have HM := Lib.hid hm; clear hm
  have HL := Lib.hid hL; clear hL
  have HE := Lib.hid hE; clear hE
  go_enter Try.func16, Try.ntmps16
  go_wp2_with fail
  refine wp_region_planB [(true, 0), (true, 1), (true, 2), (true, 3), (true, 4), (true, 5), (true, 6), (false, 7), (true, 8), (true, 9), (true, 10)] (by kernel_rfl) (by kernel_rfl) (fun _ _ d _ _ h => by cases d <;> exact h) ?_
  iterate 7 (refine PlanB.take (v := ?_) rfl rfl ?_ ?_; rotate_left; (focus (intro W hW; have q2 := (hW.cell (p := ⟨p, 2, none⟩) hlt).trans c2; go_simp; (try with_reducible rfl); done)); (try simp only [Act.put, List.setIfInBounds_toArray, List.set_cons_zero, List.set_cons_succ]))
  refine PlanB.step rfl rfl (fun Kk hKk => ?_)
  go_simp
  go_at_call 29
  refine HLO.out.mono ?_
  rintro e w1 ⟨rfl, hbw0⟩
  have HBW := Lib.hid hbw0
  have hbw : Below w.heap.size w w1 := ((Below.refl _ w).drew).trans hbw0
  clear hbw0
  have hb1 : Whole w1 p 51 _ := HB.out.below hbw hlt
  have ho1 : HoldB w1 base (.slice A L c) (sure ++ loose) := HO.out.mv (Mv.of_new hbw (fun _ => False)) (fun _ _ h => h)
  have hm1 : Mv (TapeD p ov) w w1 := Mv.of_new hbw _
  have hs1 : base ≤ w1.heap.size := Nat.le_trans hs hm1.size
  clear c2
  have HB1 := Lib.hid hb1; clear hb1
  have HO1 := Lib.hid ho1; clear ho1
  have HM1 := Lib.hid hm1; clear hm1
  refine hKk.out _ _ HBW.out ?_
  clear hKk Kk HBW hbw HO HB
  (try simp only [Act.put, List.setIfInBounds_toArray, List.set_cons_zero, List.set_cons_succ])
  repeat (refine PlanB.take (v := ?_) rfl rfl ?_ ?_; rotate_left; (focus (intro W hW; go_simp; (try with_reducible rfl); done)); (try simp only [Act.put, List.setIfInBounds_toArray, List.set_cons_zero, List.set_cons_succ]))
  simp only [PlanB]
  clear hwE hK hK0
  have q1 := HB1.out.cell 1 _ rfl
  have q2 := HB1.out.cell 2 _ rfl
  have q3 := HB1.out.cell 3 _ rfl
  have q4 := HB1.out.cell 4 _ rfl
  have q5 := HB1.out.cell 5 _ rfl
  have qf1 := HB1.out.frozen 1
  have qf2 := HB1.out.frozen 2
  have qf3 := HB1.out.frozen 3
  have qf4 := HB1.out.frozen 4
  have qf5 := HB1.out.frozen 5
  have hw1 : w1.heap.size > p := HB1.out.size
  by_cases hKm2 : K = m
  · have hx : ¬ ((E : Int) < (L : Int)) := by have := HE.out; have := HL.out; omega
    have hEc : (E : Int) ≤ (c : Int) := by omega
    have HEL := Lib.hid hEL
    have HKM := Lib.hid hKm2
    clear hEL hLc hKm2 hKm k1 k2 k3
    go_wp2_with fail
    go_end0
    refine ⟨rfl, crash_tail HB1.out HO1.out HX.out HEL.out ?_ HV.out (HV.out ▸ HAP.out) hp hs1 HK.out HM1.out⟩
    have h1 := HE.out; have h2 := HL.out; have h3 := HKM.out
    rw [Tp.kept_all loose keep turn (by have := HMIN.out; have := HM.out; omega), List.take_of_length_le (by have := HX.out; omega)]
  · have hx : (E : Int) < (L : Int) := by have := HE.out; have := HL.out; omega
    have hlt2 : K < loose.length := by have := HM.out; omega
    by_cases ht : turn = 0
    · subst ht
      have hEc : (E : Int) ≤ (c : Int) := by omega
      have HEL := Lib.hid hEL
      have HKM := Lib.hid hlt2
      have ht0 : ((0 : UInt8).toNat : Int) = 0 := rfl
      rw [ht0]
      clear hEL hLc hKm2 hKm k1 k2 k3 hlt2 ht0
      go_wp2_with fail
      go_end0
      refine ⟨rfl, crash_tail HB1.out HO1.out HX.out HEL.out ?_ HV.out (HV.out ▸ HAP.out) hp hs1 HK.out HM1.out⟩
      rw [Tp.kept_cut loose keep K HMIN.out HKM.out, List.take_append, List.take_of_length_le (by have := HE.out; have := HN.out; omega)]
      congr 2
      have := HE.out; have := HN.out; omega
    · have hEn : E = sure.length + K := by have h1 := HE.out; have h2 := HN.out; omega
      have hLr : (L : Int) ≤ room := by rw [HL.out]; exact k3
      have hge : sure.length ≤ E := by omega
      have hsub : E - sure.length = K := by omega
      obtain ⟨X, hX⟩ : ∃ X, X = loose[K] ^^^ turn := ⟨_, rfl⟩
      obtain ⟨A0, hA0, hcell⟩ : ∃ g, A = some ⟨g, 0, none⟩ ∧ w1.cell? ⟨g, E, none⟩ = some (.int .u8 (loose[K].toNat : Int)) := by
        obtain ⟨A', c', e, _, hi⟩ := HO1.out.rdB.at
        have hEl : E < (sure ++ loose).length := by rw [HX.out]; omega
        rcases HO1.out.form with ⟨e0, e1⟩ | ⟨g, cap, e0, _, _, _⟩
        · rw [e1] at hEl; simp at hEl
        · injection e0 with e0 _ _
          refine ⟨g, e0, ?_⟩
          obtain ⟨b, o, hA, _, hc⟩ := hi E hEl
          injection e with e _ _
          rw [← e, e0] at hA
          injection hA with hA
          injection hA with h1 h2 _
          subst h1 h2
          rw [Nat.zero_add] at hc
          rw [hc, List.getElem_append_right hge]
          simp only [hsub]
      subst hA0
      have hfz : w1.frozen? ⟨A0, E, none⟩ = false := by
        rcases HO1.out with ⟨e0, _⟩ | ⟨g, cap, cur, e0, _, hh, _⟩
        · cases e0
        · injection e0 with e0 _ _
          injection e0 with e0
          injection e0 with e0
          subst e0
          simp [World.frozen?, hh]
      have hA0p : A0 ≠ p := fun e => HAP.out (by rw [e]; rfl)
      have hpA0 : p ≠ A0 := Ne.symm hA0p
      have hx8 : bits .xor .u8 (loose[K].toNat : Int) (turn.toNat : Int) = (X.toNat : Int) := by
        rw [hX, xor8 (byte_lt _) (byte_lt _)]; simp
      have htn : ¬ ((turn.toNat : Int) = 0) := by
        intro h0
        exact ht (UInt8.toNat_inj.1 (by simpa using h0))
      obtain ⟨F, hF⟩ : ∃ F, F = E + 1 := ⟨_, rfl⟩
      have hwF : IntKind.i64.wrap ((E : Int) + 1) = (F : Int) := by rw [wrap_small _ (by omega) (by omega)]; omega
      have hFc : (F : Int) ≤ (c : Int) := by omega
      have hFL : F ≤ L := by omega
      have hELn : E < L := by omega
      have HEL := Lib.hid hFL
      have HKM := Lib.hid hlt2
      have HT := Lib.hid ht
      have HF := Lib.hid hF
      have HEN := Lib.hid hEn
      have HXX := Lib.hid hX
      generalize hY0 : (loose[K].toNat : Int) = Y0 at hcell hx8
      clear hEL hLc hKm2 hKm k1 k2 k3 hF hFL ht hX hY0 hEn hLr hge hsub
      go_wp2_with fail
      go_end0
      have hK2 : K < loose.length := hlt2
      have hset : ((sure ++ loose).set E X).take F = sure ++ Tp.kept loose keep turn := by
        rw [Tp.kept_turn loose keep turn HT.out K HMIN.out hK2, ← HXX.out, HF.out, HEN.out]
        exact cut_set sure loose K hK2 X
      refine ⟨rfl, crash_tail (HB1.out.away (p := ⟨A0, E, none⟩) hpA0 _) (HO1.out.set E (by rw [HX.out]; exact hELn) X) (by rw [List.length_set]; exact HX.out) HEL.out hset HV.out (HV.out ▸ HAP.out) hp (by simpa using hs1) HK.out (HM1.out.setCell (p := ⟨A0, E, none⟩) (fun _ => .inr HV.out) _)⟩
end Go.Proofs.Ytaenlkopjmgniaa

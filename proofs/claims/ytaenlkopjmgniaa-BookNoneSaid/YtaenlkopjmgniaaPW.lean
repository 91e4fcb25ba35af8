/- The program's tape: Sync, Replace. -/
import Derived.Test.YtaenlkopjmgniaaPV
namespace Go.Proofs.Ytaenlkopjmgniaa
open Go.RowKit

set_option maxHeartbeats 1000000 in
set_option maxRecDepth 100000 in
theorem sync_any (base p : Nat) (ov : Option Nat) (t : Tp) (w : World) (h : TapeAt w base p ov t) :
    Calls Try.prog 18 #[.pointer (some ⟨p, 0, none⟩)] w fun e w' => e = .returned (.int .i64 t.sync.1) ∧ Went w w' base p ov t.sync.2 ov := by
  have H0 := Lib.hid h
  obtain ⟨sure, loose, room, left, down⟩ := t
  obtain ⟨A0, c0', hb, ho, _, _, _, hk, _⟩ := h
  simp only at hb hk
  have c1 := hb.cell 1 _ rfl
  obtain ⟨k1, k2, k3⟩ := hk
  simp only at k1 k2 k3
  obtain ⟨L, hL⟩ : ∃ L, L = sure.length + loose.length := ⟨_, rfl⟩
  rw [← hL] at c1
  rw [← hL] at k3
  clear hb ho
  have hbg := begin_any base p ov ⟨sure, loose, room, left, down⟩ L w H0.out
  rw [Tp.write_fits (t := ⟨sure, loose, room, left, down⟩) (n := L) (m := 0) k3 k1] at hbg
  have hca := Tp.write_cases ⟨sure, loose, room, left, down⟩ 0
  have hkp := Tp.write_keeps ⟨sure, loose, room, left, down⟩ 0
  have had : Tp.sync ⟨sure, loose, room, left, down⟩ = if (Tp.write ⟨sure, loose, room, left, down⟩ 0).1 = 0 then (0, { (Tp.write ⟨sure, loose, room, left, down⟩ 0).2 with sure := sure ++ loose, loose := [] }) else Tp.write ⟨sure, loose, room, left, down⟩ 0 := rfl
  rw [had]; clear had
  generalize Tp.write ⟨sure, loose, room, left, down⟩ 0 = r at hbg hca hkp ⊢
  obtain ⟨e0, t1⟩ := r
  obtain ⟨sure1, loose1, room1, left1, down1⟩ := t1
  simp only at hbg hca hkp ⊢
  obtain ⟨rfl, rfl, rfl⟩ := hkp
  have HG := Lib.hid hbg; clear hbg
  have HLL := Lib.hid hL; clear hL
  rcases hca with ⟨rfl, hroom⟩ | ⟨hne, hwh⟩
  · go_enter Try.func18, Try.ntmps18
    go_wp2_with fail
    refine HG.out.mono ?_
    rintro e w1 ⟨rfl, hwent⟩
    have HM1 := Lib.hid hwent.moved
    obtain ⟨A1, c1', hb1, ho1, hv1, hp1, hs1, hk1, hl1⟩ := hwent.now
    clear hwent
    simp only at hb1 ho1 hv1 hk1 hl1
    rw [← HLL.out] at hb1 ho1 hv1
    have q1 := hb1.cell 1 _ rfl
    have q2 := hb1.cell 2 _ rfl
    have qf := hb1.frozen 2
    have hlt1 := hb1.size
    have hap : Value.ownBlock (.slice A1 L c1') ≠ some p := ho1.apart hb1 (by decide)
    have HO1 := Lib.hid ho1; clear ho1
    have HB1 := Lib.hid hb1; clear hb1
    have HV1 := Lib.hid hv1; clear hv1
    have HK1 := Lib.hid hk1; clear hk1
    have HAP := Lib.hid hap; clear hap
    clear c1
    go_wp2_with fail
    go_ret
    have hS : (sure1 ++ loose1).length = L := by rw [HLL.out, List.length_append]
    refine ⟨rfl, ⟨A1, c1', ?_, ?_, ?_, hp1, ?_, ?_, hl1⟩, HM1.out.trans ((Mv.refl (TapeD p ov) w1).setCell (p := ⟨p, 2, none⟩) (fun _ => .inl rfl) _) (fun _ _ h => h), NewRow.refl _ _⟩
    · have := HB1.out.put 2 (.int .i64 (L : Int))
      simp only [List.set] at this
      simp only [hS, List.length_nil, Nat.add_zero]
      exact this
    · simp only [hS, List.length_nil, Nat.add_zero, List.append_nil]
      exact HO1.out.mv ((Mv.refl (fun j => j = p) w1).setCell (p := ⟨p, 2, none⟩) (fun _ => rfl) _) (fun g hg e => HAP.out (hg.trans (congrArg some e)))
    · simp only [hS, List.length_nil, Nat.add_zero]
      exact HV1.out
    · simpa using hs1
    · obtain ⟨m1, m2, m3⟩ := HK1.out
      refine ⟨m1, m2, ?_⟩
      show (((sure1 ++ loose1).length + 0 : Nat) : Int) ≤ room1
      rw [hS]
      omega
  · rw [if_neg hne]
    go_enter Try.func18, Try.ntmps18
    go_wp2_with fail
    refine HG.out.mono ?_
    rintro e w1 ⟨rfl, hwent⟩
    have HW := Lib.hid hwent; clear hwent
    go_wp2_with fail
    go_ret
    exact ⟨rfl, HW.out⟩

set_option maxHeartbeats 1000000 in
set_option maxRecDepth 100000 in
theorem repl_any (base p : Nat) (ov : Option Nat) (t : Tp) (v : Value) (b : List UInt8) (w : World) (h : TapeAt w base p ov t) (hv : ∀ w1, Mv (TapeD p ov) w w1 → RdB w1 w1.heap.size v b) (hbl : b.length ≤ 140737488351232) :
    Calls Try.prog 22 #[.pointer (some ⟨p, 0, none⟩), v] w fun e w' => e = .returned (.int .i64 (t.repl b).1) ∧ ∃ ov', Went w w' base p ov (t.repl b).2 ov' := by
  have H0 := Lib.hid h
  obtain ⟨sure, loose, room, left, down⟩ := t
  obtain ⟨A, c, rfl, _, _⟩ := (hv w (Mv.refl _ _)).at
  have HV := Lib.hid hv; clear hv
  have hbg := begin_any base p ov ⟨sure, loose, room, left, down⟩ b.length w H0.out
  have hca := Tp.write_cases ⟨sure, loose, room, left, down⟩ b.length
  have hkp := Tp.write_keeps ⟨sure, loose, room, left, down⟩ b.length
  have had : Tp.repl ⟨sure, loose, room, left, down⟩ b = if (Tp.write ⟨sure, loose, room, left, down⟩ b.length).1 = 0 then (0, { (Tp.write ⟨sure, loose, room, left, down⟩ b.length).2 with sure := b, loose := [] }) else Tp.write ⟨sure, loose, room, left, down⟩ b.length := rfl
  rw [had]; clear had h
  generalize Tp.write ⟨sure, loose, room, left, down⟩ b.length = r at hbg hca hkp ⊢
  obtain ⟨e0, t1⟩ := r
  obtain ⟨sure1, loose1, room1, left1, down1⟩ := t1
  simp only at hbg hca hkp ⊢
  obtain ⟨rfl, rfl, rfl⟩ := hkp
  have HG := Lib.hid hbg; clear hbg
  rcases hca with ⟨rfl, hroom⟩ | ⟨hne, hwh⟩
  · go_enter Try.func22, Try.ntmps22
    go_wp2_with fail
    refine HG.out.mono ?_
    rintro e w1 ⟨rfl, hwent⟩
    have HM1 := Lib.hid hwent.moved
    obtain ⟨A1, c1', hb1, ho1, hv1, hp1, hs1, hk1, hl1⟩ := hwent.now
    simp only at hb1 ho1 hv1 hk1 hl1
    have hlt1 := hb1.size
    have hfr := fresh_any b _ w1 (HV.out w1 hwent.moved) hbl
    have HFR := Lib.hid hfr; clear hfr hwent
    have HB1 := Lib.hid hb1; clear hb1 ho1
    have HK1 := Lib.hid hk1; clear hk1 hv1
    go_wp2_with fail
    refine HFR.out.mono ?_
    rintro e w2 ⟨A2, c2, rfl, ho2, hbw⟩
    have hb2 := HB1.out.below hbw hlt1
    have q1 := hb2.cell 1 _ rfl
    have q2 := hb2.cell 2 _ rfl
    have qf1 := hb2.frozen 1
    have qf2 := hb2.frozen 2
    have hlt2 := hb2.size
    have hap : Value.ownBlock (.slice A2 b.length c2) ≠ some p := fun e => by have := (ho2.low e).1; omega
    have hnr : NewRow w1 ov (Value.ownBlock (.slice A2 b.length c2)) := fun g hg => .inr (ho2.low hg).1
    have HB2 := Lib.hid hb2; clear hb2
    have HO2 := Lib.hid (HoldB.ofOwn (ho2.lower hs1)); clear ho2
    have HAP := Lib.hid hap; clear hap
    have HNR := Lib.hid hnr; clear hnr
    have HBW := Lib.hid hbw; clear hbw
    go_wp2_with fail
    go_ret
    refine ⟨rfl, _, ⟨A2, c2, ?_, ?_, rfl, hp1, ?_, ?_, hl1⟩, HM1.out.trans (((Mv.of_new HBW.out (TapeD p ov)).setCell (p := ⟨p, 1, none⟩) (fun _ => .inl rfl) _).setCell (p := ⟨p, 2, none⟩) (fun _ => .inl rfl) _) (fun _ _ h => h), ?_⟩
    · have := (HB2.out.put 1 (.slice A2 b.length c2)).put 2 (.int .i64 (b.length : Int))
      simp only [List.set] at this
      simp only [List.length_nil, Nat.add_zero]
      exact this
    · simp only [List.length_nil, Nat.add_zero, List.append_nil]
      exact HO2.out.mv (((Mv.refl (fun j => j = p) w2).setCell (p := ⟨p, 1, none⟩) (fun _ => rfl) _).setCell (p := ⟨p, 2, none⟩) (fun _ => rfl) _) (fun g hg e => HAP.out (hg.trans (congrArg some e)))
    · have := HBW.out.size
      simp only [World.size_setCell]
      omega
    · obtain ⟨m1, m2, m3⟩ := HK1.out
      refine ⟨m1, m2, ?_⟩
      show ((b.length + 0 : Nat) : Int) ≤ room1
      omega
    · simp only [List.length_nil, Nat.add_zero]
      exact fun g hg => (HNR.out g hg).imp id (fun h => Nat.le_trans HM1.out.size h)
  · rw [if_neg hne]
    go_enter Try.func22, Try.ntmps22
    go_wp2_with fail
    refine HG.out.mono ?_
    rintro e w1 ⟨rfl, hwent⟩
    have HW := Lib.hid hwent; clear hwent
    go_wp2_with fail
    go_ret
    exact ⟨rfl, ov, HW.out⟩
end Go.Proofs.Ytaenlkopjmgniaa

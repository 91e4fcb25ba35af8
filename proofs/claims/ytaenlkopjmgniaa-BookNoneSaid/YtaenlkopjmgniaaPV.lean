/- The program's tape: the calls that write. -/
import Derived.Test.YtaenlkopjmgniaaPU
namespace Go.Proofs.Ytaenlkopjmgniaa
open Go.RowKit

theorem Tp.write_cases (t : Tp) (n : Nat) : ((t.write n).1 = 0 ∧ ((n : Int) ≤ t.room)) ∨ ((t.write n).1 ≠ 0 ∧ ((t.write n).1 = 10 ∨ (t.write n).1 = 11)) := by
  unfold Tp.write
  split
  · exact .inr ⟨by simp, .inr rfl⟩
  · split
    · exact .inr ⟨by simp, .inl rfl⟩
    · split
      · exact .inr ⟨by simp, .inr rfl⟩
      · split <;> exact .inl ⟨rfl, by omega⟩
theorem Tp.write_fits {t : Tp} {n m : Nat} (hn : (n : Int) ≤ t.room) (hm : (m : Int) ≤ t.room) : t.write n = t.write m := by
  unfold Tp.write
  rw [if_neg (show ¬ (n : Int) > t.room by omega), if_neg (show ¬ (m : Int) > t.room by omega)]

set_option maxHeartbeats 1000000 in
set_option maxRecDepth 100000 in
theorem add_any (base p : Nat) (ov : Option Nat) (t : Tp) (v : Value) (b : List UInt8) (w : World) (h : TapeAt w base p ov t) (hv : ∀ w1, Mv (TapeD p ov) w w1 → RdB w1 w1.heap.size v b) (hbl : b.length ≤ 140737488351232) :
    Calls Try.prog 17 #[.pointer (some ⟨p, 0, none⟩), v] w fun e w' => e = .returned (.int .i64 (t.add b).1) ∧ ∃ ov', Went w w' base p ov (t.add b).2 ov' := by
  have H0 := Lib.hid h
  obtain ⟨sure, loose, room, left, down⟩ := t
  obtain ⟨A0, c0', hb, ho, _, _, _, hk, _⟩ := h
  simp only at hb hk
  have c1 := hb.cell 1 _ rfl
  obtain ⟨k1, k2, k3⟩ := hk
  simp only at k1 k2 k3
  obtain ⟨A, c, rfl, _, _⟩ := (hv w (Mv.refl _ _)).at
  obtain ⟨L, hL⟩ : ∃ L, L = sure.length + loose.length := ⟨_, rfl⟩
  rw [← hL] at c1
  rw [← hL] at k3
  clear hb ho
  have HV := Lib.hid hv; clear hv
  have hbg := begin_any base p ov ⟨sure, loose, room, left, down⟩ (L + b.length) w H0.out
  have hca := Tp.write_cases ⟨sure, loose, room, left, down⟩ (L + b.length)
  have hkp := Tp.write_keeps ⟨sure, loose, room, left, down⟩ (L + b.length)
  have had : Tp.add ⟨sure, loose, room, left, down⟩ b = if (Tp.write ⟨sure, loose, room, left, down⟩ (L + b.length)).1 = 0 then (0, { (Tp.write ⟨sure, loose, room, left, down⟩ (L + b.length)).2 with loose := loose ++ b }) else Tp.write ⟨sure, loose, room, left, down⟩ (L + b.length) := by
    rw [hL]; rfl
  rw [had]; clear had
  generalize Tp.write ⟨sure, loose, room, left, down⟩ (L + b.length) = r at hbg hca hkp ⊢
  obtain ⟨e0, t1⟩ := r
  obtain ⟨sure1, loose1, room1, left1, down1⟩ := t1
  simp only at hbg hca hkp ⊢
  obtain ⟨rfl, rfl, rfl⟩ := hkp
  have hw : IntKind.i64.wrap ((L : Int) + (b.length : Int)) = ((L + b.length : Nat) : Int) := by rw [wrap_small _ (by omega) (by omega)]; omega
  have HG := Lib.hid hbg; clear hbg
  have HLL := Lib.hid hL; clear hL
  rcases hca with ⟨rfl, hroom⟩ | ⟨hne, hwh⟩
  · go_enter Try.func17, Try.ntmps17
    go_wp2_with fail
    refine HG.out.mono ?_
    rintro e w1 ⟨rfl, hwent⟩
    have HRB := Lib.hid (HV.out w1 hwent.moved)
    have HM1 := Lib.hid hwent.moved
    obtain ⟨A1, c1', hb1, ho1, hv1, hp1, hs1, hk1, hl1⟩ := hwent.now
    have HW := Lib.hid hwent; clear hwent
    simp only at hb1 ho1 hv1 hk1 hl1
    rw [← HLL.out] at hb1 ho1 hv1
    have q1 := hb1.cell 1 _ rfl
    have qf := hb1.frozen 1
    have hlt1 := hb1.size
    have hLl : (sure1 ++ loose1).length = L := by rw [HLL.out, List.length_append]
    have hap : Value.ownBlock (.slice A1 L c1') ≠ some p := ho1.apart hb1 (by decide)
    have HO1 := Lib.hid ho1; clear ho1
    have HB1 := Lib.hid hb1; clear hb1
    have HV1 := Lib.hid hv1; clear hv1
    have HK1 := Lib.hid hk1; clear hk1
    have HAP := Lib.hid hap; clear hap
    have hlen : (sure1 ++ loose1).length + b.length ≤ 225179981368000 := by omega
    clear hw hLl
    go_wp2_with (at_builtin; go_must (refine wpList_addH rfl _ _ rfl base _ (sure1 ++ loose1) rfl HO1.out w1.heap.size _ b rfl HRB.out hlen hs1 ?_))
    intro A2 c2 w2 ho2 hg2 hn2
    obtain ⟨R, hRR⟩ : ∃ R, R = sure1 ++ loose1 ++ b := ⟨_, rfl⟩
    have hRs : sure1.length + (loose1.length + b.length) = R.length := by rw [hRR]; simp only [List.length_append]; omega
    have ho2 : HoldB w2 base (.slice A2 R.length c2) R := by rw [hRR]; simpa using ho2.out
    have hn2 : NewRow w1 (Value.slice A1 L c1').ownBlock (Value.slice A2 R.length c2).ownBlock := by rw [hRR]; simpa using hn2.out
    rw [hRs]
    have HRR := Lib.hid hRR.symm; clear hRR hRs
    have hlow : ∀ k, Value.ownBlock (.slice A1 L c1') = some k → base ≤ k := fun k hk => (HO1.out.low hk).1
    have hb2 : Whole w2 p 51 _ := HB1.out.grown hg2.out (fun e => HAP.out e.symm)
    have q2 := hb2.cell 1 _ rfl
    have qf2 := hb2.frozen 1
    have HB2 := Lib.hid hb2; clear hb2
    have HO2 := Lib.hid ho2
    have HG2 := Lib.hid hg2.out
    have HN2 := Lib.hid hn2
    clear ho2 hg2 hn2 q1 qf c1
    go_wp2_with fail
    go_ret
    have hlt2 : p < w2.heap.size := HB2.out.size
    have hR : R.length = sure1.length + (loose1 ++ b).length := by rw [← HRR.out]; simp only [List.length_append]; omega
    have hm12 : Mv (TapeD p ov) w1 w2 := (Mv.of_grown HG2.out).mono (fun i _ hi => .inr (by rw [hi, HV1.out]))
    have hm13 : Mv (TapeD p ov) w1 (w2.setCell ⟨p, 1, none⟩ (.slice A2 R.length c2)) := hm12.setCell (p := ⟨p, 1, none⟩) (fun _ => .inl rfl) _
    have hnr : NewRow w1 ov (Value.ownBlock (.slice A2 R.length c2)) := HV1.out ▸ HN2.out
    refine ⟨rfl, _, ⟨A2, c2, ?_, ?_, rfl, hp1, ?_, ?_, hl1⟩, HM1.out.trans hm13 (fun _ _ h => h), ?_⟩
    · have := HB2.out.put 1 (.slice A2 R.length c2)
      simp only [List.set] at this
      rw [hR] at this ⊢
      exact this
    · simp only
      rw [← hR, ← List.append_assoc, HRR.out]
      refine HO2.out.mv ((Mv.refl (fun j => j = p) w2).setCell (p := ⟨p, 1, none⟩) (fun _ => rfl) _) (fun g hg e => ?_)
      exact NewRow.out HN2.out hlt1 HAP.out (hg.trans (congrArg some e))
    · have := HG2.out.size
      simp only [World.size_setCell]
      omega
    · obtain ⟨m1, m2, m3⟩ := HK1.out
      have := HLL.out
      refine ⟨m1, m2, ?_⟩
      show ((sure1.length + (loose1 ++ b).length : Nat) : Int) ≤ room1
      rw [List.length_append]
      omega
    · simp only
      rw [← hR]
      exact fun g hg => (hnr g hg).imp id (fun h => Nat.le_trans HM1.out.size h)
  · rw [if_neg hne]
    go_enter Try.func17, Try.ntmps17
    go_wp2_with fail
    refine HG.out.mono ?_
    rintro e w1 ⟨rfl, hwent⟩
    have HW := Lib.hid hwent; clear hwent
    go_wp2_with fail
    go_ret
    exact ⟨rfl, ov, HW.out⟩
end Go.Proofs.Ytaenlkopjmgniaa

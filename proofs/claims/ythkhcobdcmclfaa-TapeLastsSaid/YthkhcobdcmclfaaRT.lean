/- The reference's tape: what each of its calls leaves, told by the tape as a state. -/
import Derived.Test.YthkhcobdcmclfaaPC
import Derived.StillTailTactics
namespace Go.Proofs.Ythkhcobdcmclfaa
open Go.RowKit

theorem strB_append (a b : List UInt8) : strB a ++ strB b = strB (a ++ b) := by
  apply ByteArray.ext
  simp [strB]
theorem strB_size (a : List UInt8) : (strB a).size = a.length := by simp [strB, ByteArray.size]

/-- the reference's tape at block r -/
def RefAt (w : World) (r : Nat) (t : Tp) : Prop :=
  Whole w r 30 [.string (strB t.sure), .string (strB t.loose), .int .i64 t.room, .int .i64 t.left, .bool t.down] ∧ t.Ok ∧ t.left < 9223372036854775808
theorem RefAt.mv {D : Nat → Prop} {w w' : World} {r : Nat} {t : Tp} (h : RefAt w r t) (hm : Mv D w w') (hn : ¬ D r) : RefAt w' r t := ⟨hm.whole h.1 hn, h.2⟩
/-- a call that moves the reference's tape alone -/
structure Rent (w w' : World) (r : Nat) (t : Tp) : Prop where
  now : RefAt w' r t
  moved : Mv (fun i => i = r) w w'

set_option maxHeartbeats 1000000 in
set_option maxRecDepth 100000 in
theorem rwrite_any (r : Nat) (t : Tp) (n : Nat) (w : World) (h : RefAt w r t) :
    Calls Try.prog 21 #[.pointer (some ⟨r, 0, none⟩), .int .i64 (n : Int)] w fun e w' => e = .returned (.int .i64 (t.write n).1) ∧ Rent w w' r (t.write n).2 := by
  obtain ⟨sure, loose, room, left, down⟩ := t
  obtain ⟨hb, hk, hl⟩ := h
  simp only at hb hk hl
  have c2 := hb.cell 2 _ rfl
  have c3 := hb.cell 3 _ rfl
  have c4 := hb.cell 4 _ rfl
  have f3 := hb.frozen 3
  have f4 := hb.frozen 4
  have hlt := hb.size
  have hmr : Mv (fun i => i = r) w w := Mv.refl _ _
  have HB := Lib.hid hb; clear hb
  have HK := Lib.hid hk; clear hk
  have hmp : ∀ (i : Nat) (u : Value), Mv (fun i => i = r) w (w.setCell ⟨r, i, none⟩ u) := fun i u => (Mv.refl (fun i => i = r) w).setCell (p := ⟨r, i, none⟩) (fun _ => rfl) u
  have HM := Lib.hid hmp; clear hmp
  cases down with
  | true =>
    have e : (Tp.write ⟨sure, loose, room, left, true⟩ n) = (11, ⟨sure, loose, room, left, true⟩) := rfl
    rw [e]
    go_enter Try.func21, Try.ntmps21
    go_wp2_with fail
    go_ret
    exact ⟨rfl, ⟨HB.out, HK.out, hl⟩, hmr⟩
  | false =>
    by_cases h1 : (n : Int) > room
    · have e : (Tp.write ⟨sure, loose, room, left, false⟩ n) = (10, ⟨sure, loose, room, left, false⟩) := by simp [Tp.write, h1]
      rw [e]; clear e
      go_enter Try.func21, Try.ntmps21
      go_wp2_with fail
      go_ret
      exact ⟨rfl, ⟨HB.out, HK.out, hl⟩, hmr⟩
    · rcases Int.lt_trichotomy left 0 with h2 | h2 | h2
      · have e : (Tp.write ⟨sure, loose, room, left, false⟩ n) = (0, ⟨sure, loose, room, left, false⟩) := by
          simp only [Tp.write, if_neg h1]
          rw [if_neg (by simp), if_neg (by omega), if_neg (by omega)]
        rw [e]; clear e
        have hz : ¬ left = 0 := by omega
        have hz2 : ¬ (0 < left) := by omega
        clear h2
        go_enter Try.func21, Try.ntmps21
        go_wp2_with fail
        go_ret
        exact ⟨rfl, ⟨HB.out, HK.out, hl⟩, hmr⟩
      · subst h2
        have e : (Tp.write ⟨sure, loose, room, 0, false⟩ n) = (11, ⟨sure, loose, room, 0, true⟩) := by simp [Tp.write, h1]
        rw [e]; clear e
        go_enter Try.func21, Try.ntmps21
        go_wp2_with fail
        go_ret
        exact ⟨rfl, ⟨HB.out.put 4 _, HK.out, hl⟩, HM.out 4 _⟩
      · have e : (Tp.write ⟨sure, loose, room, left, false⟩ n) = (0, ⟨sure, loose, room, left - 1, false⟩) := by
          simp only [Tp.write, if_neg h1]
          rw [if_neg (by simp), if_neg (by omega), if_pos (by omega)]
        rw [e]; clear e
        have hw : IntKind.i64.wrap (left - 1) = left - 1 := wrap_small _ (by omega) (by omega)
        have hz : ¬ left = 0 := by omega
        go_enter Try.func21, Try.ntmps21
        go_wp2_with fail
        go_ret
        exact ⟨rfl, ⟨HB.out.put 3 _, HK.out, by show left - 1 < _; omega⟩, HM.out 3 _⟩

set_option maxHeartbeats 1000000 in
set_option maxRecDepth 100000 in
theorem rrepl_any (r : Nat) (t : Tp) (v : Value) (b : List UInt8) (w : World) (h : RefAt w r t) (hv : ∀ w1, Mv (fun i => i = r) w w1 → RdB w1 w1.heap.size v b) :
    Calls Try.prog 14 #[.pointer (some ⟨r, 0, none⟩), v] w fun e w' => e = .returned (.int .i64 (t.repl b).1) ∧ Rent w w' r (t.repl b).2 := by
  have H0 := Lib.hid h
  obtain ⟨sure, loose, room, left, down⟩ := t
  obtain ⟨A, c, rfl, _, _⟩ := (hv w (Mv.refl _ _)).at
  have HV := Lib.hid hv; clear hv
  have hbg := rwrite_any r ⟨sure, loose, room, left, down⟩ b.length w H0.out
  have hca := Tp.write_cases ⟨sure, loose, room, left, down⟩ b.length
  have hkp := Tp.write_keeps ⟨sure, loose, room, left, down⟩ b.length
  have had : Tp.repl ⟨sure, loose, room, left, down⟩ b = if (Tp.write ⟨sure, loose, room, left, down⟩ b.length).1 = 0 then (0, { (Tp.write ⟨sure, loose, room, left, down⟩ b.length).2 with sure := b, loose := [] }) else Tp.write ⟨sure, loose, room, left, down⟩ b.length := rfl
  rw [had]; clear had h
  generalize Tp.write ⟨sure, loose, room, left, down⟩ b.length = q at hbg hca hkp ⊢
  obtain ⟨e0, t1⟩ := q
  obtain ⟨sure1, loose1, room1, left1, down1⟩ := t1
  simp only at hbg hca hkp ⊢
  obtain ⟨rfl, rfl, rfl⟩ := hkp
  have HG := Lib.hid hbg; clear hbg
  rcases hca with ⟨rfl, hroom⟩ | ⟨hne, hwh⟩
  · go_enter Try.func14, Try.ntmps14
    go_wp2_with fail
    refine HG.out.mono ?_
    rintro e w1 ⟨rfl, hwent⟩
    have hcv := run_convB (HV.out w1 hwent.moved)
    have HM1 := Lib.hid hwent.moved
    obtain ⟨hb1, hk1, hl1⟩ := hwent.now
    simp only at hb1 hk1 hl1
    have q0 := hb1.cell 0 _ rfl
    have q1 := hb1.cell 1 _ rfl
    have f0 := hb1.frozen 0
    have f1 := hb1.frozen 1
    have hlt1 := hb1.size
    have HB1 := Lib.hid hb1; clear hb1
    have HK1 := Lib.hid hk1; clear hk1 hwent
    go_wp2_with fail
    go_ret
    refine ⟨rfl, ⟨?_, ?_, hl1⟩, HM1.out.trans (((Mv.refl (fun i => i = r) w1).setCell (p := ⟨r, 0, none⟩) (fun _ => rfl) _).setCell (p := ⟨r, 1, none⟩) (fun _ => rfl) _) (fun _ _ h => h)⟩
    · exact (HB1.out.put 0 _).put 1 _
    · obtain ⟨m1, m2, m3⟩ := HK1.out
      refine ⟨m1, m2, ?_⟩
      show ((b.length + 0 : Nat) : Int) ≤ room1
      omega
  · rw [if_neg hne]
    go_enter Try.func14, Try.ntmps14
    go_wp2_with fail
    refine HG.out.mono ?_
    rintro e w1 ⟨rfl, hwent⟩
    have HW := Lib.hid hwent; clear hwent
    go_wp2_with fail
    go_ret
    exact ⟨rfl, HW.out⟩
end Go.Proofs.Ythkhcobdcmclfaa

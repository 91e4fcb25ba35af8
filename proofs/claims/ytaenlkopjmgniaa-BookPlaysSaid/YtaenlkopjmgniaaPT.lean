/- The program's tape: what each of its calls leaves, told by the tape as a state. -/
import Derived.Test.YtaenlkopjmgniaaHold
import Derived.Test.YtaenlkopjmgniaaPlanB
import Derived.Test.YtaenlkopjmgniaaTp
namespace Go.Proofs.Ytaenlkopjmgniaa
open Go.RowKit

/-- a tape at block p, whose bytes lie in row ov -/
def TapeAt (w : World) (base p : Nat) (ov : Option Nat) (t : Tp) : Prop :=
  ∃ A c, Whole w p 51 [.int .i64 t.room, .slice A (t.sure.length + t.loose.length) c, .int .i64 (t.sure.length : Int), .bool t.down, .bool (decide (0 ≤ t.left)), .int .i64 (max t.left 0)] ∧
    HoldB w base (.slice A (t.sure.length + t.loose.length) c) (t.sure ++ t.loose) ∧ Value.ownBlock (.slice A (t.sure.length + t.loose.length) c) = ov ∧ base ≤ p ∧ base ≤ w.heap.size ∧ t.Ok ∧ t.left < 9223372036854775808
section
variable {w w' : World} {base p : Nat} {ov : Option Nat} {t : Tp}
theorem TapeAt.mv {D : Nat → Prop} (h : TapeAt w base p ov t) (hm : Mv D w w') (h1 : ¬ D p) (h2 : ∀ g, ov = some g → ¬ D g) : TapeAt w' base p ov t := by
  obtain ⟨A, c, hb, ho, hv, hp, hs, hk⟩ := h
  exact ⟨A, c, hm.whole hb h1, ho.mv hm (fun g hg => h2 g (hv ▸ hg)), hv, hp, Nat.le_trans hs hm.size, hk⟩
theorem TapeAt.low (h : TapeAt w base p ov t) : base ≤ p ∧ p < w.heap.size ∧ base ≤ w.heap.size := by
  obtain ⟨A, c, hb, ho, hv, hp, hs, hk⟩ := h
  exact ⟨hp, hb.size, hs⟩
theorem TapeAt.row (h : TapeAt w base p ov t) {g : Nat} (hg : ov = some g) : base ≤ g ∧ g < w.heap.size := by
  obtain ⟨A, c, hb, ho, hv, hp, hs, hk⟩ := h
  exact ho.low (hv.trans hg)
theorem TapeAt.ok (h : TapeAt w base p ov t) : t.Ok := by
  obtain ⟨A, c, hb, ho, hv, hp, hs, hk, _⟩ := h
  exact hk
theorem TapeAt.left (h : TapeAt w base p ov t) : t.left < 9223372036854775808 := by
  obtain ⟨A, c, hb, ho, hv, hp, hs, hk, h⟩ := h
  exact h
set_option maxRecDepth 100000 in
theorem TapeAt.apart (h : TapeAt w base p ov t) {g : Nat} {T : TypeId} {cs : List Value} (hg : Whole w g T cs) (h1 : 51 ≠ T) (h2 : 5 ≠ T) : g ≠ p ∧ ov ≠ some g := by
  obtain ⟨A, c, hb, ho, hv, hp, hs, hk⟩ := h
  exact ⟨hg.apart hb (Ne.symm h1), hv ▸ ho.apart hg h2⟩
end
/-- what a call of a tape moves -/
def TapeD (p : Nat) (ov : Option Nat) : Nat → Prop := fun i => i = p ∨ some i = ov
/-- a call that moves the tape alone: the tape is t behind it -/
structure Went (w w' : World) (base p : Nat) (ov : Option Nat) (t : Tp) (ov' : Option Nat) : Prop where
  now : TapeAt w' base p ov' t
  moved : Mv (TapeD p ov) w w'
  new : NewRow w ov ov'
theorem Went.below {w w' : World} {base p : Nat} {ov ov' : Option Nat} {t t0 : Tp} (h : Went w w' base p ov t ov') (h0 : TapeAt w base p ov t0) : Below base w w' :=
  h.moved.below h0.low.2.2 (by
    rintro i (rfl | hi)
    · exact h0.low.1
    · exact (h0.row hi.symm).1)

set_option maxHeartbeats 1000000 in
set_option maxRecDepth 100000 in
theorem begin_any (base p : Nat) (ov : Option Nat) (t : Tp) (n : Nat) (w : World) (h : TapeAt w base p ov t) :
    Calls Try.prog 30 #[.pointer (some ⟨p, 0, none⟩), .int .i64 (n : Int)] w fun e w' => e = .returned (.int .i64 (t.write n).1) ∧ Went w w' base p ov (t.write n).2 ov := by
  obtain ⟨sure, loose, room, left, down⟩ := t
  obtain ⟨A, c, hb, ho, hv, hp, hs, hk, hl⟩ := h
  simp only at hb ho hv hk hl
  obtain ⟨L, hL⟩ : ∃ L, L = sure.length + loose.length := ⟨_, rfl⟩
  rw [← hL] at hb ho hv
  have hmr : Mv (TapeD p ov) w w := Mv.refl _ _
  have c0 := hb.cell 0 _ rfl
  have c3 := hb.cell 3 _ rfl
  have c4 := hb.cell 4 _ rfl
  have c5 := hb.cell 5 _ rfl
  have f3 := hb.frozen 3
  have f5 := hb.frozen 5
  have hlt := hb.size
  have hne : Value.ownBlock (.slice A L c) ≠ some p := ho.apart hb (by decide)
  have HB := Lib.hid hb; clear hb
  have HO := Lib.hid ho; clear ho
  have HV := Lib.hid hv; clear hv
  have HK := Lib.hid hk; clear hk
  have HN := Lib.hid hne; clear hne
  have HL := Lib.hid hL; clear hL
  have hput : ∀ (i : Nat) (u : Value), HoldB (w.setCell ⟨p, i, none⟩ u) base (.slice A L c) (sure ++ loose) := fun i u =>
    HO.out.mv ((Mv.refl (fun j => j = p) w).setCell (p := ⟨p, i, none⟩) (fun _ => rfl) u) (fun g hg e => HN.out (hg.trans (congrArg some e)))
  have HP := Lib.hid hput; clear hput
  have hmp : ∀ (i : Nat) (u : Value), Mv (TapeD p ov) w (w.setCell ⟨p, i, none⟩ u) := fun i u => (Mv.refl _ w).setCell (p := ⟨p, i, none⟩) (fun _ => .inl rfl) u
  have HM := Lib.hid hmp; clear hmp
  cases down with
  | true =>
    have e : (Tp.write ⟨sure, loose, room, left, true⟩ n) = (11, ⟨sure, loose, room, left, true⟩) := rfl
    rw [e]
    go_enter Try.func30, Try.ntmps30
    go_wp2_with fail
    go_ret
    exact ⟨rfl, ⟨A, c, by rw [← HL.out]; exact HB.out, by rw [← HL.out]; exact HO.out, by rw [← HL.out]; exact HV.out, hp, hs, HK.out, hl⟩, hmr, NewRow.refl _ _⟩
  | false =>
    by_cases h1 : (n : Int) > room
    · have e : (Tp.write ⟨sure, loose, room, left, false⟩ n) = (10, ⟨sure, loose, room, left, false⟩) := by simp [Tp.write, h1]
      rw [e]; clear e
      go_enter Try.func30, Try.ntmps30
      go_wp2_with fail
      go_ret
      exact ⟨rfl, ⟨A, c, by rw [← HL.out]; exact HB.out, by rw [← HL.out]; exact HO.out, by rw [← HL.out]; exact HV.out, hp, hs, HK.out, hl⟩, hmr, NewRow.refl _ _⟩
    · rcases Int.lt_trichotomy left 0 with h2 | h2 | h2
      · have e : (Tp.write ⟨sure, loose, room, left, false⟩ n) = (0, ⟨sure, loose, room, left, false⟩) := by
          simp only [Tp.write, if_neg h1]
          rw [if_neg (by simp), if_neg (by omega), if_neg (by omega)]
        rw [e]; clear e
        rw [decide_eq_false (show ¬ 0 ≤ left by omega)] at c4
        go_enter Try.func30, Try.ntmps30
        go_wp2_with fail
        go_ret
        exact ⟨rfl, ⟨A, c, by rw [← HL.out]; exact HB.out, by rw [← HL.out]; exact HO.out, by rw [← HL.out]; exact HV.out, hp, hs, HK.out, hl⟩, hmr, NewRow.refl _ _⟩
      · subst h2
        have e : (Tp.write ⟨sure, loose, room, 0, false⟩ n) = (11, ⟨sure, loose, room, 0, true⟩) := by simp [Tp.write, h1]
        rw [e]; clear e
        rw [decide_eq_true (show (0 : Int) ≤ 0 by omega)] at c4
        rw [show max (0 : Int) 0 = 0 from rfl] at c5
        go_enter Try.func30, Try.ntmps30
        go_wp2_with fail
        go_ret
        exact ⟨rfl, ⟨A, c, by rw [← HL.out]; exact HB.out.put 3 _, by rw [← HL.out]; exact HP.out 3 _, by rw [← HL.out]; exact HV.out, hp, by simpa using hs, HK.out, hl⟩, HM.out 3 _, NewRow.refl _ _⟩
      · have e : (Tp.write ⟨sure, loose, room, left, false⟩ n) = (0, ⟨sure, loose, room, left - 1, false⟩) := by
          simp only [Tp.write, if_neg h1]
          rw [if_neg (by simp), if_neg (by omega), if_pos (by omega)]
        rw [e]; clear e
        rw [decide_eq_true (show (0 : Int) ≤ left by omega)] at c4
        rw [show max left 0 = left by omega] at c5
        have hw : IntKind.i64.wrap (left - 1) = left - 1 := wrap_small _ (by omega) (by omega)
        have hz : ¬ left = 0 := by omega
        go_enter Try.func30, Try.ntmps30
        go_wp2_with fail
        go_ret
        refine ⟨rfl, ⟨A, c, ?_, by rw [← HL.out]; exact HP.out 5 _, by rw [← HL.out]; exact HV.out, hp, by simpa using hs, HK.out, by show left - 1 < _; omega⟩, HM.out 5 _, NewRow.refl _ _⟩
        have := HB.out.put 5 (.int .i64 (left - 1))
        simp only [List.set] at this
        rw [HL.out] at this
        simp only [show decide (0 ≤ left - 1) = decide (0 ≤ left) by simp; omega, show max (left - 1) 0 = left - 1 by omega]
        exact this
end Go.Proofs.Ytaenlkopjmgniaa

/- The program's tape: its calls. -/
import Derived.Test.YtaenlkopjmgniaaPT
namespace Go.Proofs.Ytaenlkopjmgniaa
open Go.RowKit

set_option maxHeartbeats 1000000 in
set_option maxRecDepth 100000 in
theorem fresh_any (l : List UInt8) (v : Value) (w : World) (hv : RdB w w.heap.size v l) (hl : l.length ≤ 140737488351232) :
    Calls Try.prog 33 #[v] w fun e w' => ∃ A c, e = .returned (.slice A l.length c) ∧ OwnB w' w.heap.size (.slice A l.length c) l ∧ Below w.heap.size w w' := by
  obtain ⟨A, c, rfl, hc, hi⟩ := hv.at
  have HV := Lib.hid hv; clear hv
  clear hi
  go_enter Try.func33, Try.ntmps33
  go_wp2_with (at_builtin; go_must (refine wpList_addBG rfl _ _ rfl w.heap.size _ [] rfl (Own.nil _ _) w.heap.size _ l rfl HV.out (by simp; omega) (by simp) ?_))
  intro A' c' w' ho hg
  have HO := Lib.hid (show OwnB w' w.heap.size (.slice A' l.length c') l from ho.out)
  have HG := Lib.hid hg.out
  go_wp2_with fail
  go_ret
  exact ⟨A', c', rfl, HO.out, (Below.refl _ w).grown HG.out (Nat.le_refl _) (by simp [Value.ownBlock])⟩

set_option maxHeartbeats 1000000 in
set_option maxRecDepth 100000 in
theorem bytes_any (base p : Nat) (ov : Option Nat) (t : Tp) (w : World) (h : TapeAt w base p ov t) :
    Calls Try.prog 20 #[.pointer (some ⟨p, 0, none⟩)] w fun e w' => ∃ A c, e = .returned (.tuple #[.slice A (if t.down = true then [] else t.sure ++ t.loose).length c, .int .i64 (if t.down = true then 11 else 0)]) ∧
      OwnB w' w.heap.size (.slice A (if t.down = true then [] else t.sure ++ t.loose).length c) (if t.down = true then [] else t.sure ++ t.loose) ∧ Below w.heap.size w w' := by
  obtain ⟨sure, loose, room, left, down⟩ := t
  obtain ⟨A, c, hb, ho, hv, hp, hs, hk, hl⟩ := h
  simp only at hb ho hv hk hl ⊢
  have c1 := hb.cell 1 _ rfl
  have c3 := hb.cell 3 _ rfl
  obtain ⟨L, hL⟩ : ∃ L, L = sure ++ loose := ⟨_, rfl⟩
  have hLl : sure.length + loose.length = L.length := by rw [hL, List.length_append]
  rw [← hL] at ho ⊢
  rw [hLl] at ho c1
  have hrd := ho.rdB
  have hlen : L.length ≤ 140737488351232 := by obtain ⟨k1, k2, k3⟩ := hk; simp only at k1 k2 k3; omega
  clear hb hv hL hLl hk
  have HR := Lib.hid (fresh_any L _ w hrd hlen); clear hrd ho
  cases down with
  | true =>
    go_enter Try.func20, Try.ntmps20
    go_wp2_with fail
    go_ret2
    exact ⟨none, 0, rfl, Own.nil _ _, Below.refl _ _⟩
  | false =>
    go_enter Try.func20, Try.ntmps20
    go_wp2_with fail
    refine HR.out.mono ?_
    rintro e w1 ⟨A1, c1', rfl, ho1, hb1⟩
    have HO := Lib.hid ho1; clear ho1
    have HB := Lib.hid hb1; clear hb1
    go_wp2_with fail
    go_ret2
    exact ⟨A1, c1', rfl, HO.out, HB.out⟩

set_option maxHeartbeats 1000000 in
set_option maxRecDepth 100000 in
theorem loose_any (base p : Nat) (ov : Option Nat) (t : Tp) (w : World) (h : TapeAt w base p ov t) :
    Calls Try.prog 29 #[.pointer (some ⟨p, 0, none⟩)] w fun e w' => e = .returned (.int .i64 (t.loose.length : Int)) ∧ Below w.heap.size w w' := by
  obtain ⟨sure, loose, room, left, down⟩ := t
  obtain ⟨A, c, hb, ho, hv, hp, hs, hk, hl⟩ := h
  simp only at hb ho hv hk hl ⊢
  have c1 := hb.cell 1 _ rfl
  have c2 := hb.cell 2 _ rfl
  have hlt := hb.size
  obtain ⟨k1, k2, k3⟩ := hk
  simp only at k1 k2 k3
  generalize sure.length = n at *
  generalize loose.length = m at *
  clear hb ho hv
  have hw : IntKind.i64.wrap (((n + m : Nat) : Int) - (n : Int)) = (m : Int) := by rw [wrap_small _ (by omega) (by omega)]; omega
  have hw2 : IntKind.i64.wrap ((n : Int) + (m : Int) - (n : Int)) = (m : Int) := by rw [wrap_small _ (by omega) (by omega)]; omega
  go_enter Try.func29, Try.ntmps29
  go_wp2_with fail
  refine wp_region_planB [(true, 0), (true, 1), (true, 2), (true, 3), (true, 4), (true, 5), (true, 6), (true, 7), (true, 8), (true, 9), (true, 10)] (by kernel_rfl) (by kernel_rfl) (fun _ _ d _ _ h => by cases d <;> exact h) ?_
  repeat (refine PlanB.take (v := ?_) rfl rfl ?_ ?_; rotate_left; (focus (intro W hW; have q1 := (hW.cell (p := ⟨p, 1, none⟩) hlt).trans c1; have q2 := (hW.cell (p := ⟨p, 2, none⟩) hlt).trans c2; go_simp; (try with_reducible rfl); done)); (try simp only [Act.put, List.setIfInBounds_toArray, List.set_cons_zero, List.set_cons_succ]))
  simp only [PlanB]
  go_wp2_with fail
  go_ret
  exact ⟨rfl, (Below.refl _ _).drew⟩

set_option maxHeartbeats 1000000 in
set_option maxRecDepth 100000 in
theorem new_any (room : Int) (h0 : 0 ≤ room) (h1 : room ≤ 1048576) (w : World) :
    Calls Try.prog 6 #[.int .i64 room] w fun e w' => ∃ p, e = .returned (.tuple #[.pointer (some ⟨p, 0, none⟩), .int .i64 0]) ∧ TapeAt w' w.heap.size p none ⟨[], [], room, -1, false⟩ ∧ Below w.heap.size w w' := by
  go_enter Try.func6, Try.ntmps6
  go_wp2_with fail
  go_ret2
  exact ⟨_, rfl, ⟨none, 0, Whole.fresh _ _ [_, _, _, _, _, _], HoldB.nil _ _, rfl, Nat.le_refl _, by simp, ⟨h0, h1, by simpa using h0⟩, by show (-1 : Int) < _; omega⟩, (Below.refl _ _).alloc (Nat.le_refl _) _⟩

set_option maxHeartbeats 1000000 in
set_option maxRecDepth 100000 in
theorem new_bad (room : Int) (h0 : room < 0 ∨ 1048576 < room) (w : World) :
    Calls Try.prog 6 #[.int .i64 room] w fun e w' => e = .returned (.tuple #[.pointer none, .int .i64 1]) ∧ w' = w := by
  rcases h0 with h | h
  · go_enter Try.func6, Try.ntmps6
    go_wp2_with fail
    go_ret2
    exact ⟨rfl, rfl⟩
  · have h2 : ¬ room < 0 := by omega
    go_enter Try.func6, Try.ntmps6
    go_wp2_with fail
    go_ret2
    exact ⟨rfl, rfl⟩

set_option maxHeartbeats 1000000 in
set_option maxRecDepth 100000 in
theorem fail_any (base p : Nat) (ov : Option Nat) (t : Tp) (n : Int) (hn : n < 9223372036854775808) (w : World) (h : TapeAt w base p ov t) :
    Calls Try.prog 15 #[.pointer (some ⟨p, 0, none⟩), .int .i64 n] w fun e w' => e = .returned (.tuple #[]) ∧ Went w w' base p ov (t.fail n) ov := by
  obtain ⟨sure, loose, room, left, down⟩ := t
  obtain ⟨A, c, hb, ho, hv, hp, hs, hk, hl⟩ := h
  simp only at hb ho hv hk hl
  obtain ⟨L, hL⟩ : ∃ L, L = sure.length + loose.length := ⟨_, rfl⟩
  rw [← hL] at hb ho hv
  have f4 := hb.frozen 4
  have f5 := hb.frozen 5
  have c4 := hb.cell 4 _ rfl
  have c5 := hb.cell 5 _ rfl
  have hlt := hb.size
  have hne : Value.ownBlock (.slice A L c) ≠ some p := ho.apart hb (by decide)
  have hput : ∀ (i j : Nat) (u u2 : Value), HoldB ((w.setCell ⟨p, i, none⟩ u).setCell ⟨p, j, none⟩ u2) base (.slice A L c) (sure ++ loose) := fun i j u u2 =>
    ho.mv (((Mv.refl (fun j => j = p) w).setCell (p := ⟨p, i, none⟩) (fun _ => rfl) u).setCell (p := ⟨p, j, none⟩) (fun _ => rfl) u2) (fun g hg e => hne (hg.trans (congrArg some e)))
  have hmp : ∀ (i j : Nat) (u u2 : Value), Mv (TapeD p ov) w ((w.setCell ⟨p, i, none⟩ u).setCell ⟨p, j, none⟩ u2) := fun i j u u2 => ((Mv.refl _ w).setCell (p := ⟨p, i, none⟩) (fun _ => .inl rfl) u).setCell (p := ⟨p, j, none⟩) (fun _ => .inl rfl) u2
  have HB := Lib.hid hb; clear hb
  have HV := Lib.hid hv; clear hv
  have HK := Lib.hid hk; clear hk
  have HL := Lib.hid hL; clear hL ho hne
  have HP := Lib.hid hput; clear hput
  have HM := Lib.hid hmp; clear hmp
  by_cases h0 : 0 ≤ n
  · have e1 : decide (0 ≤ n) = true := by simpa using h0
    have e2 : max n 0 = n := by omega
    go_enter Try.func15, Try.ntmps15
    go_wp2_with fail
    go_end0
    refine ⟨rfl, ⟨A, c, ?_, by rw [show (Tp.fail ⟨sure, loose, room, left, down⟩ n).sure.length + (Tp.fail ⟨sure, loose, room, left, down⟩ n).loose.length = L from HL.out.symm]; exact HP.out 4 5 _ _, by rw [show (Tp.fail ⟨sure, loose, room, left, down⟩ n).sure.length + (Tp.fail ⟨sure, loose, room, left, down⟩ n).loose.length = L from HL.out.symm]; exact HV.out, hp, by simpa using hs, HK.out, hn⟩, HM.out 4 5 _ _, NewRow.refl _ _⟩
    have := (HB.out.put 4 (.bool true)).put 5 (.int .i64 n)
    simp only [List.set] at this
    rw [HL.out] at this
    show Whole _ _ _ [_, _, _, _, .bool (decide (0 ≤ n)), .int .i64 (max n 0)]
    rw [e1, e2]
    exact this
  · have e1 : decide (0 ≤ n) = false := by simpa using h0
    have e2 : max n 0 = 0 := by omega
    go_enter Try.func15, Try.ntmps15
    go_wp2_with fail
    go_end0
    refine ⟨rfl, ⟨A, c, ?_, by rw [show (Tp.fail ⟨sure, loose, room, left, down⟩ n).sure.length + (Tp.fail ⟨sure, loose, room, left, down⟩ n).loose.length = L from HL.out.symm]; exact HP.out 4 5 _ _, by rw [show (Tp.fail ⟨sure, loose, room, left, down⟩ n).sure.length + (Tp.fail ⟨sure, loose, room, left, down⟩ n).loose.length = L from HL.out.symm]; exact HV.out, hp, by simpa using hs, HK.out, hn⟩, HM.out 4 5 _ _, NewRow.refl _ _⟩
    have := (HB.out.put 4 (.bool false)).put 5 (.int .i64 0)
    simp only [List.set] at this
    rw [HL.out] at this
    show Whole _ _ _ [_, _, _, _, .bool (decide (0 ≤ n)), .int .i64 (max n 0)]
    rw [e1, e2]
    exact this
end Go.Proofs.Ytaenlkopjmgniaa

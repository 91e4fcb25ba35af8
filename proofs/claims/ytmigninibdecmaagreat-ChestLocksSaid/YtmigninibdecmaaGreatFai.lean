/- The program's tape: what each of its calls leaves, told by the tape as a state. The program's tape: its calls. The program's book at its blocks, over its tape; what its Records answer. What the reference's Seal and Open answer. What the reference's Lay and Same answer, and the law's own fits. The program's records as they stand on a tape. The program's tape: the calls that write. The program's tape: Sync, Replace. What the program's lay leaves: the deferred note, the two ways of writing. -/
import Derived.Test.YtmigninibdecmaaGreatFah
import Derived.Test.YtmigninibdecmaaGreatFaa
import Derived.Test.YtmigninibdecmaaGreatFag
import Derived.Test.YtmigninibdecmaaGreatFac
import Derived.Test.YtmigninibdecmaaGreatFad
import Derived.Lib.SlBytesConst
import Derived.Lib.SmallJoins
import Derived.Defers
namespace Go.Proofs.YtmigninibdecmaaGreat
open Go.RowKit

/-- a tape at block p, whose bytes lie in row ov -/
def TapeAt (w : World) (base p : Nat) (ov : Option Nat) (t : Tp) : Prop :=
  ∃ A c, Whole w p 55 [.int .i64 t.room, .slice A (t.sure.length + t.loose.length) c, .int .i64 (t.sure.length : Int), .bool t.down, .bool (decide (0 ≤ t.left)), .int .i64 (max t.left 0)] ∧
    HoldB w base (.slice A (t.sure.length + t.loose.length) c) (t.sure ++ t.loose) ∧ Value.ownBlock (.slice A (t.sure.length + t.loose.length) c) = ov ∧ base ≤ p ∧ base ≤ w.heap.size ∧ t.Ok ∧ t.left < 9223372036854775808
section
variable {w w' : World} {base p : Nat} {ov : Option Nat} {t : Tp}
theorem TapeAt.mv {D : Nat → Prop} (h : TapeAt w base p ov t) (hm : Mv D w w') (h1 : ¬ D p) (h2 : ∀ g, ov = some g → ¬ D g) : TapeAt w' base p ov t := by
  obtain ⟨A, c, hb, ho, hv, hp, hs, hk⟩ := h
  exact ⟨A, c, hm.whole hb h1, ho.mv hm (fun g hg => h2 g (hv ▸ hg)), hv, hp, Nat.le_trans hs hm.size, hk⟩
theorem TapeAt.low (h : TapeAt w base p ov t) : base ≤ p ∧ p < w.heap.size ∧ base ≤ w.heap.size := by
  obtain ⟨A, c, hb, ho, hv, hp, hs, hk⟩ := h
  exact ⟨hp, hb.size, hs⟩
theorem TapeAt.row (h : TapeAt w base p ov t) {g : Nat} (hg : ov = some g) : base ≤ g ∧ g < w.heap.size := by
  obtain ⟨A, c, hb, ho, hv, hp, hs, hk⟩ := h
  exact ho.low (hv.trans hg)
theorem TapeAt.ok (h : TapeAt w base p ov t) : t.Ok := by
  obtain ⟨A, c, hb, ho, hv, hp, hs, hk, _⟩ := h
  exact hk
theorem TapeAt.left (h : TapeAt w base p ov t) : t.left < 9223372036854775808 := by
  obtain ⟨A, c, hb, ho, hv, hp, hs, hk, h⟩ := h
  exact h
set_option maxRecDepth 100000 in
theorem TapeAt.apart (h : TapeAt w base p ov t) {g : Nat} {T : TypeId} {cs : List Value} (hg : Whole w g T cs) (h1 : 55 ≠ T) (h2 : 5 ≠ T) : g ≠ p ∧ ov ≠ some g := by
  obtain ⟨A, c, hb, ho, hv, hp, hs, hk⟩ := h
  exact ⟨hg.apart hb (Ne.symm h1), hv ▸ ho.apart hg h2⟩
end
/-- what a call of a tape moves -/
def TapeD (p : Nat) (ov : Option Nat) : Nat → Prop := fun i => i = p ∨ some i = ov
/-- a call that moves the tape alone: the tape is t behind it -/
structure Went (w w' : World) (base p : Nat) (ov : Option Nat) (t : Tp) (ov' : Option Nat) : Prop where
  now : TapeAt w' base p ov' t
  moved : Mv (TapeD p ov) w w'
  new : NewRow w ov ov'
theorem Went.below {w w' : World} {base p : Nat} {ov ov' : Option Nat} {t t0 : Tp} (h : Went w w' base p ov t ov') (h0 : TapeAt w base p ov t0) : Below base w w' :=
  h.moved.below h0.low.2.2 (by
    rintro i (rfl | hi)
    · exact h0.low.1
    · exact (h0.row hi.symm).1)

set_option maxHeartbeats 1000000 in
set_option maxRecDepth 100000 in
theorem begin_any (base p : Nat) (ov : Option Nat) (t : Tp) (n : Nat) (w : World) (h : TapeAt w base p ov t) :
    Calls Tryz.prog 77 #[.pointer (some ⟨p, 0, none⟩), .int .i64 (n : Int)] w fun e w' => e = .returned (.int .i64 (t.write n).1) ∧ Went w w' base p ov (t.write n).2 ov := by
  obtain ⟨sure, loose, room, left, down⟩ := t
  obtain ⟨A, c, hb, ho, hv, hp, hs, hk, hl⟩ := h
  simp only at hb ho hv hk hl
  obtain ⟨L, hL⟩ : ∃ L, L = sure.length + loose.length := ⟨_, rfl⟩
  rw [← hL] at hb ho hv
  have hmr : Mv (TapeD p ov) w w := Mv.refl _ _
  have c0 := hb.cell 0 _ rfl
  have c3 := hb.cell 3 _ rfl
  have c4 := hb.cell 4 _ rfl
  have c5 := hb.cell 5 _ rfl
  have f3 := hb.frozen 3
  have f5 := hb.frozen 5
  have hlt := hb.size
  have hne : Value.ownBlock (.slice A L c) ≠ some p := ho.apart hb (by decide)
  have HB := Lib.hid hb; clear hb
  have HO := Lib.hid ho; clear ho
  have HV := Lib.hid hv; clear hv
  have HK := Lib.hid hk; clear hk
  have HN := Lib.hid hne; clear hne
  have HL := Lib.hid hL; clear hL
  have hput : ∀ (i : Nat) (u : Value), HoldB (w.setCell ⟨p, i, none⟩ u) base (.slice A L c) (sure ++ loose) := fun i u =>
    HO.out.mv ((Mv.refl (fun j => j = p) w).setCell (p := ⟨p, i, none⟩) (fun _ => rfl) u) (fun g hg e => HN.out (hg.trans (congrArg some e)))
  have HP := Lib.hid hput; clear hput
  have hmp : ∀ (i : Nat) (u : Value), Mv (TapeD p ov) w (w.setCell ⟨p, i, none⟩ u) := fun i u => (Mv.refl _ w).setCell (p := ⟨p, i, none⟩) (fun _ => .inl rfl) u
  have HM := Lib.hid hmp; clear hmp
  cases down with
  | true =>
    have e : (Tp.write ⟨sure, loose, room, left, true⟩ n) = (11, ⟨sure, loose, room, left, true⟩) := rfl
    rw [e]
    go_enter Tryz.func77, Tryz.ntmps77
    go_wp2_with fail
    go_ret
    exact ⟨rfl, ⟨A, c, by rw [← HL.out]; exact HB.out, by rw [← HL.out]; exact HO.out, by rw [← HL.out]; exact HV.out, hp, hs, HK.out, hl⟩, hmr, NewRow.refl _ _⟩
  | false =>
    by_cases h1 : (n : Int) > room
    · have e : (Tp.write ⟨sure, loose, room, left, false⟩ n) = (10, ⟨sure, loose, room, left, false⟩) := by simp [Tp.write, h1]
      rw [e]; clear e
      go_enter Tryz.func77, Tryz.ntmps77
      go_wp2_with fail
      go_ret
      exact ⟨rfl, ⟨A, c, by rw [← HL.out]; exact HB.out, by rw [← HL.out]; exact HO.out, by rw [← HL.out]; exact HV.out, hp, hs, HK.out, hl⟩, hmr, NewRow.refl _ _⟩
    · rcases Int.lt_trichotomy left 0 with h2 | h2 | h2
      · have e : (Tp.write ⟨sure, loose, room, left, false⟩ n) = (0, ⟨sure, loose, room, left, false⟩) := by
          simp only [Tp.write, if_neg h1]
          rw [if_neg (by simp), if_neg (by omega), if_neg (by omega)]
        rw [e]; clear e
        rw [decide_eq_false (show ¬ 0 ≤ left by omega)] at c4
        go_enter Tryz.func77, Tryz.ntmps77
        go_wp2_with fail
        go_ret
        exact ⟨rfl, ⟨A, c, by rw [← HL.out]; exact HB.out, by rw [← HL.out]; exact HO.out, by rw [← HL.out]; exact HV.out, hp, hs, HK.out, hl⟩, hmr, NewRow.refl _ _⟩
      · subst h2
        have e : (Tp.write ⟨sure, loose, room, 0, false⟩ n) = (11, ⟨sure, loose, room, 0, true⟩) := by simp [Tp.write, h1]
        rw [e]; clear e
        rw [decide_eq_true (show (0 : Int) ≤ 0 by omega)] at c4
        rw [show max (0 : Int) 0 = 0 from rfl] at c5
        go_enter Tryz.func77, Tryz.ntmps77
        go_wp2_with fail
        go_ret
        exact ⟨rfl, ⟨A, c, by rw [← HL.out]; exact HB.out.put 3 _, by rw [← HL.out]; exact HP.out 3 _, by rw [← HL.out]; exact HV.out, hp, by simpa using hs, HK.out, hl⟩, HM.out 3 _, NewRow.refl _ _⟩
      · have e : (Tp.write ⟨sure, loose, room, left, false⟩ n) = (0, ⟨sure, loose, room, left - 1, false⟩) := by
          simp only [Tp.write, if_neg h1]
          rw [if_neg (by simp), if_neg (by omega), if_pos (by omega)]
        rw [e]; clear e
        rw [decide_eq_true (show (0 : Int) ≤ left by omega)] at c4
        rw [show max left 0 = left by omega] at c5
        have hw : IntKind.i64.wrap (left - 1) = left - 1 := wrap_small _ (by omega) (by omega)
        have hz : ¬ left = 0 := by omega
        go_enter Tryz.func77, Tryz.ntmps77
        go_wp2_with fail
        go_ret
        refine ⟨rfl, ⟨A, c, ?_, by rw [← HL.out]; exact HP.out 5 _, by rw [← HL.out]; exact HV.out, hp, by simpa using hs, HK.out, by show left - 1 < _; omega⟩, HM.out 5 _, NewRow.refl _ _⟩
        have := HB.out.put 5 (.int .i64 (left - 1))
        simp only [List.set] at this
        rw [HL.out] at this
        simp only [show decide (0 ≤ left - 1) = decide (0 ≤ left) by simp; omega, show max (left - 1) 0 = left - 1 by omega]
        exact this
end Go.Proofs.YtmigninibdecmaaGreat
namespace Go.Proofs.YtmigninibdecmaaGreat
open Go.RowKit

set_option maxHeartbeats 1000000 in
set_option maxRecDepth 100000 in
theorem fresh_any (l : List UInt8) (v : Value) (w : World) (hv : RdB w w.heap.size v l) (hl : l.length ≤ 140737488351232) :
    Calls Tryz.prog 74 #[v] w fun e w' => ∃ A c, e = .returned (.slice A l.length c) ∧ OwnB w' w.heap.size (.slice A l.length c) l ∧ Below w.heap.size w w' := by
  obtain ⟨A, c, rfl, hc, hi⟩ := hv.at
  have HV := Lib.hid hv; clear hv
  clear hi
  go_enter Tryz.func74, Tryz.ntmps74
  go_wp2_with (at_builtin; go_must (refine wpList_addBG rfl _ _ rfl w.heap.size _ [] rfl (Own.nil _ _) w.heap.size _ l rfl HV.out (by simp; omega) (by simp) ?_))
  intro A' c' w' ho hg
  have HO := Lib.hid (show OwnB w' w.heap.size (.slice A' l.length c') l from ho.out)
  have HG := Lib.hid hg.out
  go_wp2_with fail
  go_ret
  exact ⟨A', c', rfl, HO.out, (Below.refl _ w).grown HG.out (Nat.le_refl _) (by simp [Value.ownBlock])⟩

set_option maxHeartbeats 1000000 in
set_option maxRecDepth 100000 in
theorem bytes_any (base p : Nat) (ov : Option Nat) (t : Tp) (w : World) (h : TapeAt w base p ov t) :
    Calls Tryz.prog 47 #[.pointer (some ⟨p, 0, none⟩)] w fun e w' => ∃ A c, e = .returned (.tuple #[.slice A (if t.down = true then [] else t.sure ++ t.loose).length c, .int .i64 (if t.down = true then 11 else 0)]) ∧
      OwnB w' w.heap.size (.slice A (if t.down = true then [] else t.sure ++ t.loose).length c) (if t.down = true then [] else t.sure ++ t.loose) ∧ Below w.heap.size w w' := by
  obtain ⟨sure, loose, room, left, down⟩ := t
  obtain ⟨A, c, hb, ho, hv, hp, hs, hk, hl⟩ := h
  simp only at hb ho hv hk hl ⊢
  have c1 := hb.cell 1 _ rfl
  have c3 := hb.cell 3 _ rfl
  obtain ⟨L, hL⟩ : ∃ L, L = sure ++ loose := ⟨_, rfl⟩
  have hLl : sure.length + loose.length = L.length := by rw [hL, List.length_append]
  rw [← hL] at ho ⊢
  rw [hLl] at ho c1
  have hrd := ho.rdB
  have hlen : L.length ≤ 140737488351232 := by obtain ⟨k1, k2, k3⟩ := hk; simp only at k1 k2 k3; omega
  clear hb hv hL hLl hk
  have HR := Lib.hid (fresh_any L _ w hrd hlen); clear hrd ho
  cases down with
  | true =>
    go_enter Tryz.func47, Tryz.ntmps47
    go_wp2_with fail
    go_ret2
    exact ⟨none, 0, rfl, Own.nil _ _, Below.refl _ _⟩
  | false =>
    go_enter Tryz.func47, Tryz.ntmps47
    go_wp2_with fail
    refine HR.out.mono ?_
    rintro e w1 ⟨A1, c1', rfl, ho1, hb1⟩
    have HO := Lib.hid ho1; clear ho1
    have HB := Lib.hid hb1; clear hb1
    go_wp2_with fail
    go_ret2
    exact ⟨A1, c1', rfl, HO.out, HB.out⟩

set_option maxHeartbeats 1000000 in
set_option maxRecDepth 100000 in
theorem new_any (room : Int) (h0 : 0 ≤ room) (h1 : room ≤ 1048576) (w : World) :
    Calls Tryz.prog 8 #[.int .i64 room] w fun e w' => ∃ p, e = .returned (.tuple #[.pointer (some ⟨p, 0, none⟩), .int .i64 0]) ∧ TapeAt w' w.heap.size p none ⟨[], [], room, -1, false⟩ ∧ Below w.heap.size w w' := by
  go_enter Tryz.func8, Tryz.ntmps8
  go_wp2_with fail
  go_ret2
  exact ⟨_, rfl, ⟨none, 0, Whole.fresh _ _ [_, _, _, _, _, _], HoldB.nil _ _, rfl, Nat.le_refl _, by simp, ⟨h0, h1, by simpa using h0⟩, by show (-1 : Int) < _; omega⟩, (Below.refl _ _).alloc (Nat.le_refl _) _⟩

set_option maxHeartbeats 1000000 in
set_option maxRecDepth 100000 in
theorem new_bad (room : Int) (h0 : room < 0 ∨ 1048576 < room) (w : World) :
    Calls Tryz.prog 8 #[.int .i64 room] w fun e w' => e = .returned (.tuple #[.pointer none, .int .i64 1]) ∧ w' = w := by
  rcases h0 with h | h
  · go_enter Tryz.func8, Tryz.ntmps8
    go_wp2_with fail
    go_ret2
    exact ⟨rfl, rfl⟩
  · have h2 : ¬ room < 0 := by omega
    go_enter Tryz.func8, Tryz.ntmps8
    go_wp2_with fail
    go_ret2
    exact ⟨rfl, rfl⟩

end Go.Proofs.YtmigninibdecmaaGreat
namespace Go.Proofs.YtmigninibdecmaaGreat
open Go.RowKit

/-- the book at block q over the tape at block p; its blocks and the tape's are among G -/
def BkAt (w : World) (base q p : Nat) (G : Nat → Prop) (b : Bks) : Prop :=
  ∃ (ov : Option Nat) (A : Option Addr) (c n : Nat) (rows : List Row), Whole w q 102 [.pointer (some ⟨p, 0, none⟩), .slice A n c, .bool b.dead] ∧ n = rows.length ∧ OwnR w base (.slice A n c) rows ∧ HoldRs w base rows ∧ texts rows = b.l ∧
    (∀ r ∈ rows, r.l.length ≤ 140737488351232) ∧ TapeAt w base p ov b.t ∧ (∀ r ∈ rows, ∀ g, r.v.ownBlock = some g → ov ≠ some g) ∧
    G q ∧ G p ∧ (∀ g, ov = some g → G g) ∧ (∀ g, Value.ownBlock (.slice A n c) = some g → G g) ∧ (∀ r ∈ rows, ∀ g, r.v.ownBlock = some g → G g) ∧ base ≤ w.heap.size ∧ ∀ i, G i → base ≤ i ∧ i < w.heap.size
theorem TapeAt.uniq {w : World} {base p : Nat} {ov ov2 : Option Nat} {t t2 : Tp} (h : TapeAt w base p ov t) (h2 : TapeAt w base p ov2 t2) : ov = ov2 := by
  obtain ⟨A, c, hb, _, hv, _⟩ := h
  obtain ⟨A2, c2, hb2, _, hv2, _⟩ := h2
  have h3 := hb.cell 1 _ rfl
  rw [hb2.cell 1 _ rfl] at h3
  injection h3 with h3
  rw [← hv, ← hv2, h3]
section
variable {w w' : World} {base q p : Nat} {G : Nat → Prop} {b : Bks}
theorem BkAt.tape (h : BkAt w base q p G b) : ∃ ov, TapeAt w base p ov b.t ∧ ∀ i, TapeD p ov i → G i := by
  obtain ⟨ov, A, c, n, rows, h1, h2, h3, h4, h5, h6, h7, h8, h9, h10, h11, h12, h13, h14, h15⟩ := h
  refine ⟨ov, h7, ?_⟩
  rintro i (rfl | hi)
  · exact h10
  · exact h11 i hi.symm
theorem BkAt.low (h : BkAt w base q p G b) : base ≤ w.heap.size ∧ ∀ i, G i → base ≤ i ∧ i < w.heap.size := by
  obtain ⟨ov, A, c, n, rows, h1, h2, h3, h4, h5, h6, h7, h8, h9, h10, h11, h12, h13, h14, h15⟩ := h
  exact ⟨h14, h15⟩
theorem BkAt.at (h : BkAt w base q p G b) : G q ∧ G p := by
  obtain ⟨ov, A, c, n, rows, h1, h2, h3, h4, h5, h6, h7, h8, h9, h10, h11, h12, h13, h14, h15⟩ := h
  exact ⟨h9, h10⟩
theorem OwnR.mv {D : Nat → Prop} {v : Value} {rows : List Row} (h : OwnR w base v rows) (hm : Mv D w w') (hn : ∀ g, v.ownBlock = some g → ¬ D g) : OwnR w' base v rows := by
  refine ⟨h.1, ?_⟩
  rcases h.2 with h2 | ⟨g, cap, cur, rfl, hb, hh, r⟩
  · exact .inl h2
  · exact .inr ⟨g, cap, cur, rfl, hb, (hm.block g (Array.getElem?_eq_some_iff.1 hh).1 (hn g rfl)).trans hh, r⟩
theorem BkAt.mv {D : Nat → Prop} (h : BkAt w base q p G b) (hm : Mv D w w') (hn : ∀ i, G i → ¬ D i) : BkAt w' base q p G b := by
  obtain ⟨ov, A, c, n, rows, h1, h2, h3, h4, h5, h6, h7, h8, h9, h10, h11, h12, h13, h14, h15⟩ := h
  exact ⟨ov, A, c, n, rows, hm.whole h1 (hn q h9), h2, OwnR.mv h3 hm (fun g hg => hn g (h12 g hg)), h4.mv hm (fun r hr g hg => hn g (h13 r hr g hg)), h5, h6, h7.mv hm (hn p h10) (fun g hg => hn g (h11 g hg)), h8, h9, h10, h11, h12, h13, Nat.le_trans h14 hm.size,
    fun i hi => ⟨(h15 i hi).1, Nat.lt_of_lt_of_le (h15 i hi).2 hm.size⟩⟩
set_option maxRecDepth 100000 in
/-- rows and a block of another type -/
theorem OwnR.off {v : Value} {rows : List Row} (h : OwnR w base v rows) {g : Nat} {T : TypeId} {cs : List Value} (hg : Whole w g T cs) (hne : 41 ≠ T) : v.ownBlock ≠ some g := fun he => Own.apart h hg hne he.symm
set_option maxRecDepth 100000 in
theorem BkAt.went {ov ov' : Option Nat} {t' : Tp} (h : BkAt w base q p G b) (ht : TapeAt w base p ov b.t) (hw : Went w w' base p ov t' ov') : ∃ G', BkAt w' base q p G' { b with t := t' } ∧ ∀ i, G' i → G i ∨ w.heap.size ≤ i := by
  obtain ⟨ov2, A, c, n, rows, h1, h2, h3, h4, h5, h6, h7, h8, h9, h10, h11, h12, h13, h14, h15⟩ := h
  obtain rfl := ht.uniq h7
  obtain ⟨hnow, hm, hnew⟩ := hw
  obtain ⟨k1, k2⟩ := ht.apart h1 (by decide) (by decide)
  have hD : ∀ g, (g ≠ p ∧ ov ≠ some g) → ¬ TapeD p ov g := by
    rintro g ⟨a1, a2⟩ (a | a)
    · exact a1 a
    · exact a2 a.symm
  have hrows : ∀ g, Value.ownBlock (.slice A n c) = some g → g ≠ p ∧ ov ≠ some g := by
    intro g hg
    obtain ⟨A2, c2, hb2, ho2, hv2, _⟩ := ht
    refine ⟨fun e => OwnR.off h3 hb2 (by decide) (e ▸ hg), fun e => ?_⟩
    exact ho2.ne_rows h3 g (hv2.trans e) hg
  have hcont : ∀ r ∈ rows, ∀ g, r.v.ownBlock = some g → g ≠ p ∧ ov ≠ some g := by
    intro r hr g hg
    obtain ⟨A2, c2, hb2, ho2, hv2, _⟩ := ht
    exact ⟨fun e => (h4 r hr).apart hb2 (by decide) (e ▸ hg), h8 r hr g hg⟩
  refine ⟨fun i => G i ∨ ov' = some i, ⟨ov', A, c, n, rows, hm.whole h1 (hD q ⟨k1, k2⟩), h2, OwnR.mv h3 hm (fun g hg => hD g (hrows g hg)), h4.mv hm (fun r hr g hg => hD g (hcont r hr g hg)), h5, h6, hnow, ?_, .inl h9, .inl h10, fun g hg => .inr hg, fun g hg => .inl (h12 g hg), fun r hr g hg => .inl (h13 r hr g hg), Nat.le_trans h14 hm.size, ?_⟩, ?_⟩
  · exact fun r hr g hg => hnew.out (h15 g (h13 r hr g hg)).2 (h8 r hr g hg)
  · rintro i (hi | hi)
    · exact ⟨(h15 i hi).1, Nat.lt_of_lt_of_le (h15 i hi).2 hm.size⟩
    · exact hnow.row hi
  · rintro i (hi | hi)
    · exact .inl hi
    · rcases hnew i hi with h | h
      · exact .inl (h11 i h)
      · exact .inr h
end

set_option maxHeartbeats 1000000 in
set_option maxRecDepth 100000 in
theorem brec_any (base q p : Nat) (G : Nat → Prop) (b : Bks) (w : World) (h : BkAt w base q p G b) (hl : b.l.length ≤ 4000000) :
    Calls Tryz.prog 21 #[.pointer (some ⟨q, 0, none⟩)] w fun e w' => ∃ A c rows, e = .returned (.slice A rows.length c) ∧ RdRs w' w'.heap.size (fun i => i < w.heap.size) (.slice A rows.length c) rows ∧ texts rows = b.l ∧ Below w.heap.size w w' := by
  obtain ⟨ov, A, c, n, rows, h1, h2, h3, h4, h5, h6, h7, h8, h9, h10, h11, h12, h13, h14, h15⟩ := h
  have c1 := h1.cell 1 _ rfl
  have hrd : RdRs w w.heap.size (fun _ => False) (.slice A n c) rows := OwnR.held h3 h4 (fun _ _ h => h) (fun _ _ _ _ h => h)
  have hrl : rows.length ≤ 4000000 := by have := congrArg List.length h5; simp [texts] at this; omega
  have HF := Lib.hid (bfresh_any rows _ _ w hrd hrl h6)
  have H5 := Lib.hid h5
  clear h1 h2 h3 h4 h5 h6 h7 h8 h9 h10 h11 h12 h13 h14 h15 hrd
  go_enter Tryz.func21, Tryz.ntmps21
  go_wp2_with fail
  refine HF.out.mono ?_
  rintro e w1 ⟨A1, c1', n1, rfl, rows1, rfl, ho, hh, ht, hb⟩
  have hrs : RdRs w1 w1.heap.size (fun i => i < w.heap.size) (.slice A1 rows1.length c1') rows1 := OwnR.held ho hh (fun g hg hd => by have := (ho.low hg).1; omega) (fun r hr g hg hd => by have := ((hh r hr).low hg).1; omega)
  have HS := Lib.hid hrs
  have HT := Lib.hid (ht.trans H5.out)
  have HB := Lib.hid hb
  clear ho hh ht hb hrs
  go_wp2_with fail
  go_ret
  exact ⟨A1, c1', rows1, rfl, HS.out, HT.out, HB.out⟩

set_option maxHeartbeats 1000000 in
set_option maxRecDepth 100000 in
theorem bnone_rec (w : World) : Calls Tryz.prog 21 #[.pointer none] w fun e w' => ∃ A c, e = .returned (.slice A 0 c) ∧ Below w.heap.size w w' := by
  go_enter Tryz.func21, Tryz.ntmps21
  go_wp2_with fail
  go_ret
  exact ⟨none, 0, rfl, Below.refl _ _⟩
end Go.Proofs.YtmigninibdecmaaGreat
namespace Go.Proofs.YtmigninibdecmaaGreat
open Go.RowKit


set_option maxRecDepth 100000 in
theorem sealed_eq {p r : List UInt8} (hp : p.length = 4) : sealed r = p ++ r ↔ val p = sum r := by
  unfold sealed
  rw [List.append_left_inj]
  constructor
  · intro h
    rw [← h, val_four (sum_lt r)]
  · intro h
    rw [← h, four_val hp]
end Go.Proofs.YtmigninibdecmaaGreat
namespace Go.Proofs.YtmigninibdecmaaGreat
open Go.RowKit
attribute [local go_sem] same_str

theorem lay_take (L : List (List UInt8)) (i : Nat) (h : i < L.length) : lay (L.take (i + 1)) = lay (L.take i) ++ recB L[i] := by
  rw [List.take_add_one, List.getElem?_eq_getElem h, lay_append]
  simp [lay]
theorem lay_bound (L : List (List UInt8)) (h : fits L) : (lay L).length ≤ L.length * 65545 := by
  induction L with
  | nil => simp [lay]
  | cons r L ih =>
    have h1 := ih (fun x hx => h x (by simp [hx]))
    have h2 : r.length ≤ 65532 := h r (by simp)
    rw [lay_cons, List.length_append, recB_len, List.length_cons]
    have := enc_len9 (n := r.length + 4) (by omega)
    omega
theorem data_strB (l : List UInt8) : (strB l).data.toList = l := by simp [strB]
theorem strB_size' (a : List UInt8) : (strB a).size = a.length := by simp [strB, ByteArray.size]

end Go.Proofs.YtmigninibdecmaaGreat
namespace Go.Proofs.YtmigninibdecmaaGreat
open Go.RowKit

theorem fits_step {rows : List Row} {i : Nat} (hgo : i < rows.length) (h : fits (texts (rows.take i))) (h1 : rows[i].l.length ≤ 65532) : fits (texts (rows.take (i + 1))) := by
  rw [List.take_add_one, List.getElem?_eq_getElem hgo]
  simp only [fits, texts, fitR, Option.toList_some, List.map_append, List.map_cons, List.map_nil, List.mem_append, List.mem_cons, List.not_mem_nil, or_false] at h ⊢
  rintro r (hr | rfl)
  · exact h r hr
  · exact h1
theorem texts_take (rows : List Row) (i : Nat) : texts (rows.take i) = (texts rows).take i := by simp [texts]

set_option maxHeartbeats 4000000 in
set_option maxRecDepth 100000 in
theorem bwrite_any (rows : List Row) (G : Nat → Prop) (v : Value) (w : World) (hv : RdRs w w.heap.size G v rows) (hl : rows.length ≤ 1000) (hr : ∀ r ∈ rows, r.l.length ≤ 140737488351232) :
    Calls Tryz.prog 115 #[v] w fun e w' => Below w.heap.size w w' ∧
      ((fits (texts rows) ∧ ∃ A c n, e = .returned (.tuple #[.slice A n c, .int .i64 0]) ∧ n = (lay (texts rows)).length ∧ OwnB w' w.heap.size (.slice A n c) (lay (texts rows))) ∨ (¬ fits (texts rows) ∧ e = .returned (.tuple #[.slice none 0 0, .int .i64 6]))) := by
  obtain ⟨A, c, rfl, hc, -⟩ := hv.1
  have HV := Lib.hid hv; clear hv
  have HR := Lib.hid hr; clear hr
  have hLl : (texts rows).length = rows.length := by simp [texts]
  have HLL := Lib.hid hLl; clear hLl
  go_enter Tryz.func115, Tryz.ntmps115
  go_wp2_with fail
  go_loopw [4, 11] (fun ov iv wr => ∃ (i : Nat) (A' : Option Addr) (c' n : Nat), i ≤ rows.length ∧ iv = .int .i64 (i : Int) ∧ ov = .slice A' n c' ∧ n = (lay ((texts rows).take i)).length ∧ OwnB wr w.heap.size (.slice A' n c') (lay ((texts rows).take i)) ∧ fits (texts (rows.take i)) ∧ Below w.heap.size w wr) (fun _ iv _ => rows.length - (intOf iv).toNat)
  case atStart => exact ⟨0, _, _, 0, Nat.zero_le _, rfl, rfl, rfl, Own.nil _ _, by simp [texts, fits], Below.refl _ _⟩
  case round =>
    obtain ⟨i, A', c', n, hi, rfl, rfl, hn, ho, hf, hb⟩ := hrel
    have hbs := hb.size
    by_cases hgo : i < rows.length
    · have h1 : (i : Int) < (rows.length : Int) := by omega
      have hbnd := lay_bound ((texts rows).take i) (by rw [← texts_take]; exact hf)
      rw [List.length_take, HLL.out] at hbnd
      have hnb : n ≤ 70000000 := by
        have : min i rows.length ≤ 1000 := by omega
        rw [hn]; omega
      have hrs := HV.out.mv (Mv.of_below hb) (Nat.le_refl _) (fun b h1 h2 => by omega)
      obtain ⟨⟨A0, c0, e0, -, hcell⟩, hrow⟩ := hrs
      injection e0 with e1 e2 e3
      subst e1 e3
      obtain ⟨b, o, rfl, hbl, -, q0⟩ := hcell i hgo
      have hrd := (hrow rows[i] (List.getElem_mem hgo)).rdB.mono hbs
      have hbig : rows[i].l.length ≤ 140737488351232 := HR.out _ (List.getElem_mem hgo)
      have hstep := fits_step hgo hf
      have hall : fits (texts rows) → rows[i].l.length ≤ 65532 := fun h => h _ (List.mem_map.2 ⟨rows[i], List.getElem_mem hgo, rfl⟩)
      have hnext : lay ((texts rows).take (i + 1)) = lay ((texts rows).take i) ++ encT (sealed rows[i].l) := by
        rw [lay_take _ _ (by rw [HLL.out]; exact hgo)]
        simp [texts, recB]
      have HNX := Lib.hid hnext
      have HST := Lib.hid hstep
      have HALL := Lib.hid hall
      clear hnext hcell hrow e2 hstep hall hf
      generalize rows[i] = r at q0 hrd hbig HNX HST HALL
      obtain ⟨ra, rc, rl⟩ := r
      simp only [Row.v] at q0 hrd hbig HNX HST HALL
      have HS := Lib.hid (seal_any rl _ wr hrd (by omega))
      have hsl : (sealed rl).length = rl.length + 4 := slen rl
      have HSL := Lib.hid hsl
      obtain ⟨X, hX⟩ : ∃ X, X = lay ((texts rows).take i) := ⟨_, rfl⟩
      rw [← hX] at ho hn HNX
      have HO := Lib.hid ho
      have HB := Lib.hid hb
      have HN := Lib.hid hn
      have HXX := Lib.hid hX
      clear ho hb hrd hbnd hn hX hsl
      go_wp2_with fail
      refine HS.out.mono ?_
      rintro e w1 ⟨rfl, hro, hb1⟩
      have hcv := run_convB hro.whole
      have HO1 := Lib.hid (HO.out.below hb1 (Nat.le_refl _))
      have HB1 := Lib.hid (HB.out.trans (hb1.mono hbs))
      have hbs1 := HB1.out.size
      have hput := putText_any [] (.slice none 0 0) (strB (sealed rl)) w1 (Rd.nil _ _) (by simp) (by rw [strB_size', HSL.out]; omega)
      have hpa : putTAns [] (strB (sealed rl)) = if rl.length ≤ 65532 then (encT (sealed rl), 0) else ([], 6) := by
        unfold putTAns
        rw [strB_size', HSL.out]
        by_cases h : rl.length ≤ 65532
        · rw [if_neg (by omega), if_pos h, data_strB]; rfl
        · rw [if_pos (by omega), if_neg h]
      rw [hpa] at hput
      have HP := Lib.hid hput
      clear hput hro hb1 hpa
      go_wp2_with fail
      refine HP.out.mono ?_
      rintro e w2 ⟨v2, rfl, hrd2, hb2⟩
      have HO2 := Lib.hid (HO1.out.below hb2 (Nat.le_refl _))
      have HB2 := Lib.hid (HB1.out.trans (hb2.mono hbs1))
      have hbs2 := HB2.out.size
      clear hcv HP HS hb2
      by_cases hfit : rl.length ≤ 65532
      · rw [if_pos hfit] at hrd2 ⊢
        have HRD2 := Lib.hid hrd2
        have HFT := Lib.hid (HST.out hfit)
        have hel : (encT (sealed rl)).length ≤ 65545 := by
          rw [encT, List.length_append, HSL.out]
          have := enc_len9 (n := rl.length + 4) (by omega)
          omega
        clear hrd2
        generalize encT (sealed rl) = E at HRD2 HNX hel
        obtain ⟨A9, c9, hv9, -, -⟩ := HRD2.out
        subst hv9
        have hXl : X.length = n := HN.out.symm
        go_wp2_with (at_builtin; go_must (refine wpList_addBG rfl _ _ rfl w.heap.size (.slice A' n c') X rfl HO2.out w2.heap.size _ E rfl HRD2.out (by omega) hbs2 ?_))
        intro A3 c3 w3 ho3 hg3
        have ho4 : OwnB w3 w.heap.size (.slice A3 (n + E.length) c3) (X ++ E) := by have h := ho3.out; simpa only [List.length_append, hXl] using h
        have HB3 := Lib.hid (HO2.out.grown HB2.out hg3.out (Nat.le_refl _) hbs2)
        clear ho3 hg3
        rw [← HNX.out] at ho4
        obtain ⟨n3, hn3⟩ : ∃ n3, n3 = n + E.length := ⟨_, rfl⟩
        rw [← hn3] at ho4 ⊢
        have HO3 := Lib.hid ho4
        have HN3 := Lib.hid (show n3 = (lay ((texts rows).take (i + 1))).length by rw [hn3, HNX.out, List.length_append, hXl])
        clear hn3 hXl ho4
        go_wp2_with fail
        go_roundw
        case rel => exact ⟨i + 1, A3, c3, n3, by omega, by go_num, rfl, HN3.out, HO3.out, HFT.out, HB3.out⟩
        case measure => simp [intOf]; omega
      · rw [if_neg hfit] at hrd2 ⊢
        have HNF := Lib.hid (show ¬ fits (texts rows) from fun h => hfit (HALL.out h))
        clear hrd2
        go_wp2_with fail
        go_ret2
        exact ⟨HB2.out, .inr ⟨HNF.out, rfl⟩⟩
    · have h1 : ¬ (i : Int) < (rows.length : Int) := by omega
      have hie : (texts rows).take i = texts rows := List.take_of_length_le (by rw [HLL.out]; omega)
      rw [hie] at hn ho
      rw [texts_take, hie] at hf
      have HO := Lib.hid ho
      have HB := Lib.hid hb
      have HN := Lib.hid hn
      have HF := Lib.hid hf
      clear hn ho hb hie hf
      go_wp2_with fail
      go_ret2
      exact ⟨HB.out, .inl ⟨HF.out, A', c', n, rfl, HN.out, HO.out⟩⟩
end Go.Proofs.YtmigninibdecmaaGreat
namespace Go.Proofs.YtmigninibdecmaaGreat
open Go.RowKit

theorem Tp.write_cases (t : Tp) (n : Nat) : ((t.write n).1 = 0 ∧ ((n : Int) ≤ t.room)) ∨ ((t.write n).1 ≠ 0 ∧ ((t.write n).1 = 10 ∨ (t.write n).1 = 11)) := by
  unfold Tp.write
  split
  · exact .inr ⟨by simp, .inr rfl⟩
  · split
    · exact .inr ⟨by simp, .inl rfl⟩
    · split
      · exact .inr ⟨by simp, .inr rfl⟩
      · split <;> exact .inl ⟨rfl, by omega⟩
theorem Tp.write_fits {t : Tp} {n m : Nat} (hn : (n : Int) ≤ t.room) (hm : (m : Int) ≤ t.room) : t.write n = t.write m := by
  unfold Tp.write
  rw [if_neg (show ¬ (n : Int) > t.room by omega), if_neg (show ¬ (m : Int) > t.room by omega)]

set_option maxHeartbeats 1000000 in
set_option maxRecDepth 100000 in
theorem add_any (base p : Nat) (ov : Option Nat) (t : Tp) (v : Value) (b : List UInt8) (w : World) (h : TapeAt w base p ov t) (hv : ∀ w1, Mv (TapeD p ov) w w1 → RdB w1 w1.heap.size v b) (hbl : b.length ≤ 140737488351232) :
    Calls Tryz.prog 90 #[.pointer (some ⟨p, 0, none⟩), v] w fun e w' => e = .returned (.int .i64 (t.add b).1) ∧ ∃ ov', Went w w' base p ov (t.add b).2 ov' := by
  have H0 := Lib.hid h
  obtain ⟨sure, loose, room, left, down⟩ := t
  obtain ⟨A0, c0', hb, ho, _, _, _, hk, _⟩ := h
  simp only at hb hk
  have c1 := hb.cell 1 _ rfl
  obtain ⟨k1, k2, k3⟩ := hk
  simp only at k1 k2 k3
  obtain ⟨A, c, rfl, _, _⟩ := (hv w (Mv.refl _ _)).at
  obtain ⟨L, hL⟩ : ∃ L, L = sure.length + loose.length := ⟨_, rfl⟩
  rw [← hL] at c1
  rw [← hL] at k3
  clear hb ho
  have HV := Lib.hid hv; clear hv
  have hbg := begin_any base p ov ⟨sure, loose, room, left, down⟩ (L + b.length) w H0.out
  have hca := Tp.write_cases ⟨sure, loose, room, left, down⟩ (L + b.length)
  have hkp := Tp.write_keeps ⟨sure, loose, room, left, down⟩ (L + b.length)
  have had : Tp.add ⟨sure, loose, room, left, down⟩ b = if (Tp.write ⟨sure, loose, room, left, down⟩ (L + b.length)).1 = 0 then (0, { (Tp.write ⟨sure, loose, room, left, down⟩ (L + b.length)).2 with loose := loose ++ b }) else Tp.write ⟨sure, loose, room, left, down⟩ (L + b.length) := by
    rw [hL]; rfl
  rw [had]; clear had
  generalize Tp.write ⟨sure, loose, room, left, down⟩ (L + b.length) = r at hbg hca hkp ⊢
  obtain ⟨e0, t1⟩ := r
  obtain ⟨sure1, loose1, room1, left1, down1⟩ := t1
  simp only at hbg hca hkp ⊢
  obtain ⟨rfl, rfl, rfl⟩ := hkp
  have hw : IntKind.i64.wrap ((L : Int) + (b.length : Int)) = ((L + b.length : Nat) : Int) := by rw [wrap_small _ (by omega) (by omega)]; omega
  have HG := Lib.hid hbg; clear hbg
  have HLL := Lib.hid hL; clear hL
  rcases hca with ⟨rfl, hroom⟩ | ⟨hne, hwh⟩
  · go_enter Tryz.func90, Tryz.ntmps90
    go_wp2_with fail
    refine HG.out.mono ?_
    rintro e w1 ⟨rfl, hwent⟩
    have HRB := Lib.hid (HV.out w1 hwent.moved)
    have HM1 := Lib.hid hwent.moved
    obtain ⟨A1, c1', hb1, ho1, hv1, hp1, hs1, hk1, hl1⟩ := hwent.now
    have HW := Lib.hid hwent; clear hwent
    simp only at hb1 ho1 hv1 hk1 hl1
    rw [← HLL.out] at hb1 ho1 hv1
    have q1 := hb1.cell 1 _ rfl
    have qf := hb1.frozen 1
    have hlt1 := hb1.size
    have hLl : (sure1 ++ loose1).length = L := by rw [HLL.out, List.length_append]
    have hap : Value.ownBlock (.slice A1 L c1') ≠ some p := ho1.apart hb1 (by decide)
    have HO1 := Lib.hid ho1; clear ho1
    have HB1 := Lib.hid hb1; clear hb1
    have HV1 := Lib.hid hv1; clear hv1
    have HK1 := Lib.hid hk1; clear hk1
    have HAP := Lib.hid hap; clear hap
    have hlen : (sure1 ++ loose1).length + b.length ≤ 225179981368000 := by omega
    clear hw hLl
    go_wp2_with (at_builtin; go_must (refine wpList_addH rfl _ _ rfl base _ (sure1 ++ loose1) rfl HO1.out w1.heap.size _ b rfl HRB.out hlen hs1 ?_))
    intro A2 c2 w2 ho2 hg2 hn2
    obtain ⟨R, hRR⟩ : ∃ R, R = sure1 ++ loose1 ++ b := ⟨_, rfl⟩
    have hRs : sure1.length + (loose1.length + b.length) = R.length := by rw [hRR]; simp only [List.length_append]; omega
    have ho2 : HoldB w2 base (.slice A2 R.length c2) R := by rw [hRR]; simpa using ho2.out
    have hn2 : NewRow w1 (Value.slice A1 L c1').ownBlock (Value.slice A2 R.length c2).ownBlock := by rw [hRR]; simpa using hn2.out
    rw [hRs]
    have HRR := Lib.hid hRR.symm; clear hRR hRs
    have hlow : ∀ k, Value.ownBlock (.slice A1 L c1') = some k → base ≤ k := fun k hk => (HO1.out.low hk).1
    have hb2 : Whole w2 p 55 _ := HB1.out.grown hg2.out (fun e => HAP.out e.symm)
    have q2 := hb2.cell 1 _ rfl
    have qf2 := hb2.frozen 1
    have HB2 := Lib.hid hb2; clear hb2
    have HO2 := Lib.hid ho2
    have HG2 := Lib.hid hg2.out
    have HN2 := Lib.hid hn2
    clear ho2 hg2 hn2 q1 qf c1
    go_wp2_with fail
    go_ret
    have hlt2 : p < w2.heap.size := HB2.out.size
    have hR : R.length = sure1.length + (loose1 ++ b).length := by rw [← HRR.out]; simp only [List.length_append]; omega
    have hm12 : Mv (TapeD p ov) w1 w2 := (Mv.of_grown HG2.out).mono (fun i _ hi => .inr (by rw [hi, HV1.out]))
    have hm13 : Mv (TapeD p ov) w1 (w2.setCell ⟨p, 1, none⟩ (.slice A2 R.length c2)) := hm12.setCell (p := ⟨p, 1, none⟩) (fun _ => .inl rfl) _
    have hnr : NewRow w1 ov (Value.ownBlock (.slice A2 R.length c2)) := HV1.out ▸ HN2.out
    refine ⟨rfl, _, ⟨A2, c2, ?_, ?_, rfl, hp1, ?_, ?_, hl1⟩, HM1.out.trans hm13 (fun _ _ h => h), ?_⟩
    · have := HB2.out.put 1 (.slice A2 R.length c2)
      simp only [List.set] at this
      rw [hR] at this ⊢
      exact this
    · simp only
      rw [← hR, ← List.append_assoc, HRR.out]
      refine HO2.out.mv ((Mv.refl (fun j => j = p) w2).setCell (p := ⟨p, 1, none⟩) (fun _ => rfl) _) (fun g hg e => ?_)
      exact NewRow.out HN2.out hlt1 HAP.out (hg.trans (congrArg some e))
    · have := HG2.out.size
      simp only [World.size_setCell]
      omega
    · obtain ⟨m1, m2, m3⟩ := HK1.out
      have := HLL.out
      refine ⟨m1, m2, ?_⟩
      show ((sure1.length + (loose1 ++ b).length : Nat) : Int) ≤ room1
      rw [List.length_append]
      omega
    · simp only
      rw [← hR]
      exact fun g hg => (hnr g hg).imp id (fun h => Nat.le_trans HM1.out.size h)
  · rw [if_neg hne]
    go_enter Tryz.func90, Tryz.ntmps90
    go_wp2_with fail
    refine HG.out.mono ?_
    rintro e w1 ⟨rfl, hwent⟩
    have HW := Lib.hid hwent; clear hwent
    go_wp2_with fail
    go_ret
    exact ⟨rfl, ov, HW.out⟩
end Go.Proofs.YtmigninibdecmaaGreat
namespace Go.Proofs.YtmigninibdecmaaGreat
open Go.RowKit

set_option maxHeartbeats 1000000 in
set_option maxRecDepth 100000 in
theorem sync_any (base p : Nat) (ov : Option Nat) (t : Tp) (w : World) (h : TapeAt w base p ov t) :
    Calls Tryz.prog 91 #[.pointer (some ⟨p, 0, none⟩)] w fun e w' => e = .returned (.int .i64 t.sync.1) ∧ Went w w' base p ov t.sync.2 ov := by
  have H0 := Lib.hid h
  obtain ⟨sure, loose, room, left, down⟩ := t
  obtain ⟨A0, c0', hb, ho, _, _, _, hk, _⟩ := h
  simp only at hb hk
  have c1 := hb.cell 1 _ rfl
  obtain ⟨k1, k2, k3⟩ := hk
  simp only at k1 k2 k3
  obtain ⟨L, hL⟩ : ∃ L, L = sure.length + loose.length := ⟨_, rfl⟩
  rw [← hL] at c1
  rw [← hL] at k3
  clear hb ho
  have hbg := begin_any base p ov ⟨sure, loose, room, left, down⟩ L w H0.out
  rw [Tp.write_fits (t := ⟨sure, loose, room, left, down⟩) (n := L) (m := 0) k3 k1] at hbg
  have hca := Tp.write_cases ⟨sure, loose, room, left, down⟩ 0
  have hkp := Tp.write_keeps ⟨sure, loose, room, left, down⟩ 0
  have had : Tp.sync ⟨sure, loose, room, left, down⟩ = if (Tp.write ⟨sure, loose, room, left, down⟩ 0).1 = 0 then (0, { (Tp.write ⟨sure, loose, room, left, down⟩ 0).2 with sure := sure ++ loose, loose := [] }) else Tp.write ⟨sure, loose, room, left, down⟩ 0 := rfl
  rw [had]; clear had
  generalize Tp.write ⟨sure, loose, room, left, down⟩ 0 = r at hbg hca hkp ⊢
  obtain ⟨e0, t1⟩ := r
  obtain ⟨sure1, loose1, room1, left1, down1⟩ := t1
  simp only at hbg hca hkp ⊢
  obtain ⟨rfl, rfl, rfl⟩ := hkp
  have HG := Lib.hid hbg; clear hbg
  have HLL := Lib.hid hL; clear hL
  rcases hca with ⟨rfl, hroom⟩ | ⟨hne, hwh⟩
  · go_enter Tryz.func91, Tryz.ntmps91
    go_wp2_with fail
    refine HG.out.mono ?_
    rintro e w1 ⟨rfl, hwent⟩
    have HM1 := Lib.hid hwent.moved
    obtain ⟨A1, c1', hb1, ho1, hv1, hp1, hs1, hk1, hl1⟩ := hwent.now
    clear hwent
    simp only at hb1 ho1 hv1 hk1 hl1
    rw [← HLL.out] at hb1 ho1 hv1
    have q1 := hb1.cell 1 _ rfl
    have q2 := hb1.cell 2 _ rfl
    have qf := hb1.frozen 2
    have hlt1 := hb1.size
    have hap : Value.ownBlock (.slice A1 L c1') ≠ some p := ho1.apart hb1 (by decide)
    have HO1 := Lib.hid ho1; clear ho1
    have HB1 := Lib.hid hb1; clear hb1
    have HV1 := Lib.hid hv1; clear hv1
    have HK1 := Lib.hid hk1; clear hk1
    have HAP := Lib.hid hap; clear hap
    clear c1
    go_wp2_with fail
    go_ret
    have hS : (sure1 ++ loose1).length = L := by rw [HLL.out, List.length_append]
    refine ⟨rfl, ⟨A1, c1', ?_, ?_, ?_, hp1, ?_, ?_, hl1⟩, HM1.out.trans ((Mv.refl (TapeD p ov) w1).setCell (p := ⟨p, 2, none⟩) (fun _ => .inl rfl) _) (fun _ _ h => h), NewRow.refl _ _⟩
    · have := HB1.out.put 2 (.int .i64 (L : Int))
      simp only [List.set] at this
      simp only [hS, List.length_nil, Nat.add_zero]
      exact this
    · simp only [hS, List.length_nil, Nat.add_zero, List.append_nil]
      exact HO1.out.mv ((Mv.refl (fun j => j = p) w1).setCell (p := ⟨p, 2, none⟩) (fun _ => rfl) _) (fun g hg e => HAP.out (hg.trans (congrArg some e)))
    · simp only [hS, List.length_nil, Nat.add_zero]
      exact HV1.out
    · simpa using hs1
    · obtain ⟨m1, m2, m3⟩ := HK1.out
      refine ⟨m1, m2, ?_⟩
      show (((sure1 ++ loose1).length + 0 : Nat) : Int) ≤ room1
      rw [hS]
      omega
  · rw [if_neg hne]
    go_enter Tryz.func91, Tryz.ntmps91
    go_wp2_with fail
    refine HG.out.mono ?_
    rintro e w1 ⟨rfl, hwent⟩
    have HW := Lib.hid hwent; clear hwent
    go_wp2_with fail
    go_ret
    exact ⟨rfl, HW.out⟩

set_option maxHeartbeats 1000000 in
set_option maxRecDepth 100000 in
theorem repl_any (base p : Nat) (ov : Option Nat) (t : Tp) (v : Value) (b : List UInt8) (w : World) (h : TapeAt w base p ov t) (hv : ∀ w1, Mv (TapeD p ov) w w1 → RdB w1 w1.heap.size v b) (hbl : b.length ≤ 140737488351232) :
    Calls Tryz.prog 49 #[.pointer (some ⟨p, 0, none⟩), v] w fun e w' => e = .returned (.int .i64 (t.repl b).1) ∧ ∃ ov', Went w w' base p ov (t.repl b).2 ov' := by
  have H0 := Lib.hid h
  obtain ⟨sure, loose, room, left, down⟩ := t
  obtain ⟨A, c, rfl, _, _⟩ := (hv w (Mv.refl _ _)).at
  have HV := Lib.hid hv; clear hv
  have hbg := begin_any base p ov ⟨sure, loose, room, left, down⟩ b.length w H0.out
  have hca := Tp.write_cases ⟨sure, loose, room, left, down⟩ b.length
  have hkp := Tp.write_keeps ⟨sure, loose, room, left, down⟩ b.length
  have had : Tp.repl ⟨sure, loose, room, left, down⟩ b = if (Tp.write ⟨sure, loose, room, left, down⟩ b.length).1 = 0 then (0, { (Tp.write ⟨sure, loose, room, left, down⟩ b.length).2 with sure := b, loose := [] }) else Tp.write ⟨sure, loose, room, left, down⟩ b.length := rfl
  rw [had]; clear had h
  generalize Tp.write ⟨sure, loose, room, left, down⟩ b.length = r at hbg hca hkp ⊢
  obtain ⟨e0, t1⟩ := r
  obtain ⟨sure1, loose1, room1, left1, down1⟩ := t1
  simp only at hbg hca hkp ⊢
  obtain ⟨rfl, rfl, rfl⟩ := hkp
  have HG := Lib.hid hbg; clear hbg
  rcases hca with ⟨rfl, hroom⟩ | ⟨hne, hwh⟩
  · go_enter Tryz.func49, Tryz.ntmps49
    go_wp2_with fail
    refine HG.out.mono ?_
    rintro e w1 ⟨rfl, hwent⟩
    have HM1 := Lib.hid hwent.moved
    obtain ⟨A1, c1', hb1, ho1, hv1, hp1, hs1, hk1, hl1⟩ := hwent.now
    simp only at hb1 ho1 hv1 hk1 hl1
    have hlt1 := hb1.size
    have hfr := fresh_any b _ w1 (HV.out w1 hwent.moved) hbl
    have HFR := Lib.hid hfr; clear hfr hwent
    have HB1 := Lib.hid hb1; clear hb1 ho1
    have HK1 := Lib.hid hk1; clear hk1 hv1
    go_wp2_with fail
    refine HFR.out.mono ?_
    rintro e w2 ⟨A2, c2, rfl, ho2, hbw⟩
    have hb2 := HB1.out.below hbw hlt1
    have q1 := hb2.cell 1 _ rfl
    have q2 := hb2.cell 2 _ rfl
    have qf1 := hb2.frozen 1
    have qf2 := hb2.frozen 2
    have hlt2 := hb2.size
    have hap : Value.ownBlock (.slice A2 b.length c2) ≠ some p := fun e => by have := (ho2.low e).1; omega
    have hnr : NewRow w1 ov (Value.ownBlock (.slice A2 b.length c2)) := fun g hg => .inr (ho2.low hg).1
    have HB2 := Lib.hid hb2; clear hb2
    have HO2 := Lib.hid (HoldB.ofOwn (ho2.lower hs1)); clear ho2
    have HAP := Lib.hid hap; clear hap
    have HNR := Lib.hid hnr; clear hnr
    have HBW := Lib.hid hbw; clear hbw
    go_wp2_with fail
    go_ret
    refine ⟨rfl, _, ⟨A2, c2, ?_, ?_, rfl, hp1, ?_, ?_, hl1⟩, HM1.out.trans (((Mv.of_new HBW.out (TapeD p ov)).setCell (p := ⟨p, 1, none⟩) (fun _ => .inl rfl) _).setCell (p := ⟨p, 2, none⟩) (fun _ => .inl rfl) _) (fun _ _ h => h), ?_⟩
    · have := (HB2.out.put 1 (.slice A2 b.length c2)).put 2 (.int .i64 (b.length : Int))
      simp only [List.set] at this
      simp only [List.length_nil, Nat.add_zero]
      exact this
    · simp only [List.length_nil, Nat.add_zero, List.append_nil]
      exact HO2.out.mv (((Mv.refl (fun j => j = p) w2).setCell (p := ⟨p, 1, none⟩) (fun _ => rfl) _).setCell (p := ⟨p, 2, none⟩) (fun _ => rfl) _) (fun g hg e => HAP.out (hg.trans (congrArg some e)))
    · have := HBW.out.size
      simp only [World.size_setCell]
      omega
    · obtain ⟨m1, m2, m3⟩ := HK1.out
      refine ⟨m1, m2, ?_⟩
      show ((b.length + 0 : Nat) : Int) ≤ room1
      omega
    · simp only [List.length_nil, Nat.add_zero]
      exact fun g hg => (HNR.out g hg).imp id (fun h => Nat.le_trans HM1.out.size h)
  · rw [if_neg hne]
    go_enter Tryz.func49, Tryz.ntmps49
    go_wp2_with fail
    refine HG.out.mono ?_
    rintro e w1 ⟨rfl, hwent⟩
    have HW := Lib.hid hwent; clear hwent
    go_wp2_with fail
    go_ret
    exact ⟨rfl, ov, HW.out⟩
end Go.Proofs.YtmigninibdecmaaGreat
namespace Go.Proofs.YtmigninibdecmaaGreat
open Go.RowKit

set_option maxHeartbeats 1000000 in
set_option maxRecDepth 100000 in
theorem lay1_any (ge gb q : Nat) (x : Int) (old : Value) (u : FrameMode) (w : World) (he : w.cell? ⟨ge, 0, none⟩ = some (.int .i64 x)) (hb : w.cell? ⟨gb, 0, none⟩ = some (.pointer (some ⟨q, 0, none⟩))) (hq : w.cell? ⟨q, 2, none⟩ = some old) (hf : w.frozen? ⟨q, 2, none⟩ = false) :
    CallsD Tryz.prog 114 #[.pointer (some ⟨ge, 0, none⟩), .pointer (some ⟨gb, 0, none⟩)] u w fun e u' w' => u' = u ∧ (e = .returned (.tuple #[]) ∧ w' = w.setCell ⟨q, 2, none⟩ (.bool (decide (x = 11)))) := by
  go_enter_d Tryz.func114, Tryz.ntmps114
  by_cases hx : x = 11
  · subst hx
    go_wp2
    go_end0
    exact ⟨rfl, rfl⟩
  · have hx2 : (x == 11) = false := by simpa using hx
    rw [decide_eq_false hx]
    go_wp2
    go_end0
    exact ⟨rfl, rfl⟩

/-- two writes, one behind the other -/
theorem Went.trans {w w1 w2 : World} {base p : Nat} {ov ov1 ov2 : Option Nat} {t1 t2 : Tp} (h : Went w w1 base p ov t1 ov1) (h2 : Went w1 w2 base p ov1 t2 ov2) : Went w w2 base p ov t2 ov2 := by
  refine ⟨h2.now, h.moved.trans h2.moved ?_, h.new.trans h2.new h.moved.size⟩
  rintro i hi (rfl | hd)
  · exact .inl rfl
  · rcases h.new i hd.symm with h3 | h3
    · exact .inr h3.symm
    · omega
/-- bytes behind the others, that last -/
def Tp.addS (t : Tp) (l : List UInt8) : Int × Tp := if (t.add l).1 ≠ 0 then t.add l else (t.add l).2.sync

set_option maxHeartbeats 2000000 in
set_option maxRecDepth 100000 in
theorem addF_any (base q p gb : Nat) (ov : Option Nat) (t : Tp) (l : List UInt8) (v : Value) (cq : List Value) (w : World) (h : TapeAt w base p ov t) (hq : Whole w q 102 (.pointer (some ⟨p, 0, none⟩) :: cq)) (hb : Whole w gb 56 [.pointer (some ⟨q, 0, none⟩)])
    (hv : ∀ w1, Mv (TapeD p ov) w w1 → RdB w1 w1.heap.size v l) (hl : l.length ≤ 140737488351232) :
    Calls Tryz.prog 89 #[v, .pointer (some ⟨gb, 0, none⟩)] w fun e w' => e = .returned (.int .i64 (t.addS l).1) ∧ ∃ ov', Went w w' base p ov (t.addS l).2 ov' := by
  have c0 := hq.cell 0 _ rfl
  have b0 := hb.cell 0 _ rfl
  obtain ⟨q1, q2⟩ := h.apart hq (by decide) (by decide)
  obtain ⟨b1, b2⟩ := h.apart hb (by decide) (by decide)
  have hadd := add_any base p ov t v l w h hv hl
  obtain ⟨R, hR⟩ : ∃ R, R = t.addS l := ⟨_, rfl⟩
  rw [← hR]
  unfold Tp.addS at hR
  obtain ⟨⟨x, t1⟩, ht1⟩ : ∃ X, X = t.add l := ⟨_, rfl⟩
  rw [← ht1] at hR hadd
  simp only at hR hadd
  have HR := Lib.hid hR
  have HA := Lib.hid hadd
  have HQ := Lib.hid hq
  have HB := Lib.hid hb
  clear hR hadd hq hb ht1 hv h
  go_enter Tryz.func89, Tryz.ntmps89
  go_wp2_with fail
  refine HA.out.mono ?_
  rintro e w1 ⟨rfl, ov1, hw⟩
  have hDq : ∀ g, g ≠ p → ov ≠ some g → ¬ TapeD p ov g := by
    rintro g a1 a2 (a | a)
    · exact a1 a
    · exact a2 a.symm
  have c0' := (hw.moved.whole HQ.out (hDq q q1 q2)).cell 0 _ rfl
  have b0' := (hw.moved.whole HB.out (hDq gb b1 b2)).cell 0 _ rfl
  have HW := Lib.hid hw
  clear hw c0 b0 hDq
  by_cases hx : x = 0
  · subst hx
    have hr := HR.out
    rw [if_neg (by simp)] at hr
    have HS := Lib.hid (sync_any base p ov1 t1 w1 HW.out.now)
    have HR2 := Lib.hid hr
    clear hr
    go_wp2_with fail
    refine HS.out.mono ?_
    rintro e w2 ⟨rfl, hw2⟩
    have HW2 := Lib.hid (HW.out.trans hw2)
    clear hw2
    go_wp2_with fail
    go_ret
    exact ⟨by rw [HR2.out]; rfl, ov1, by rw [HR2.out]; exact HW2.out⟩
  · have hr := HR.out
    rw [if_pos hx] at hr
    have HR2 := Lib.hid hr
    have hx2 : (x != 0) = true := by simpa using hx
    clear hr
    go_wp2_with fail
    go_ret
    exact ⟨by rw [HR2.out]; rfl, ov1, by rw [HR2.out]; exact HW.out⟩

set_option maxHeartbeats 2000000 in
set_option maxRecDepth 100000 in
theorem resetF_any (base q p gb : Nat) (ov : Option Nat) (t : Tp) (l : List UInt8) (v : Value) (cq : List Value) (w : World) (h : TapeAt w base p ov t) (hq : Whole w q 102 (.pointer (some ⟨p, 0, none⟩) :: cq)) (hb : Whole w gb 56 [.pointer (some ⟨q, 0, none⟩)])
    (hv : ∀ w1, Mv (TapeD p ov) w w1 → RdB w1 w1.heap.size v l) (hl : l.length ≤ 140737488351232) :
    Calls Tryz.prog 99 #[v, .pointer (some ⟨gb, 0, none⟩)] w fun e w' => e = .returned (.int .i64 (t.repl l).1) ∧ ∃ ov', Went w w' base p ov (t.repl l).2 ov' := by
  have c0 := hq.cell 0 _ rfl
  have b0 := hb.cell 0 _ rfl
  have HA := Lib.hid (repl_any base p ov t v l w h hv hl)
  clear hq hb hv h
  go_enter Tryz.func99, Tryz.ntmps99
  go_wp2_with fail
  refine HA.out.mono ?_
  rintro e w1 ⟨rfl, ov1, hw⟩
  have HW := Lib.hid hw
  clear hw
  go_wp2_with fail
  go_ret
  exact ⟨rfl, ov1, HW.out⟩
end Go.Proofs.YtmigninibdecmaaGreat

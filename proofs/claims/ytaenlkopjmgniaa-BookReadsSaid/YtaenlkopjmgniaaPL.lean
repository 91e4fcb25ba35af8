/- What the program's lay leaves: the deferred note, the two ways of writing. -/
import Derived.Test.YtaenlkopjmgniaaPB
import Derived.Test.YtaenlkopjmgniaaPWr
import Derived.Test.YtaenlkopjmgniaaPW
import Derived.Defers
namespace Go.Proofs.Ytaenlkopjmgniaa
open Go.RowKit

set_option maxHeartbeats 1000000 in
set_option maxRecDepth 100000 in
theorem lay1_any (ge gb q : Nat) (x : Int) (old : Value) (u : FrameMode) (w : World) (he : w.cell? ⟨ge, 0, none⟩ = some (.int .i64 x)) (hb : w.cell? ⟨gb, 0, none⟩ = some (.pointer (some ⟨q, 0, none⟩))) (hq : w.cell? ⟨q, 2, none⟩ = some old) (hf : w.frozen? ⟨q, 2, none⟩ = false) :
    CallsD Try.prog 36 #[.pointer (some ⟨ge, 0, none⟩), .pointer (some ⟨gb, 0, none⟩)] u w fun e u' w' => u' = u ∧ (e = .returned (.tuple #[]) ∧ w' = w.setCell ⟨q, 2, none⟩ (.bool (decide (x = 11)))) := by
  go_enter_d Try.func36, Try.ntmps36
  by_cases hx : x = 11
  · subst hx
    go_wp2
    go_end0
    exact ⟨rfl, rfl⟩
  · have hx2 : (x == 11) = false := by simpa using hx
    rw [decide_eq_false hx]
    go_wp2
    go_end0
    exact ⟨rfl, rfl⟩

/-- two writes, one behind the other -/
theorem Went.trans {w w1 w2 : World} {base p : Nat} {ov ov1 ov2 : Option Nat} {t1 t2 : Tp} (h : Went w w1 base p ov t1 ov1) (h2 : Went w1 w2 base p ov1 t2 ov2) : Went w w2 base p ov t2 ov2 := by
  refine ⟨h2.now, h.moved.trans h2.moved ?_, h.new.trans h2.new h.moved.size⟩
  rintro i hi (rfl | hd)
  · exact .inl rfl
  · rcases h.new i hd.symm with h3 | h3
    · exact .inr h3.symm
    · omega
/-- bytes behind the others, that last -/
def Tp.addS (t : Tp) (l : List UInt8) : Int × Tp := if (t.add l).1 ≠ 0 then t.add l else (t.add l).2.sync

set_option maxHeartbeats 2000000 in
set_option maxRecDepth 100000 in
theorem addF_any (base q p gb : Nat) (ov : Option Nat) (t : Tp) (l : List UInt8) (v : Value) (cq : List Value) (w : World) (h : TapeAt w base p ov t) (hq : Whole w q 53 (.pointer (some ⟨p, 0, none⟩) :: cq)) (hb : Whole w gb 27 [.pointer (some ⟨q, 0, none⟩)])
    (hv : ∀ w1, Mv (TapeD p ov) w w1 → RdB w1 w1.heap.size v l) (hl : l.length ≤ 140737488351232) :
    Calls Try.prog 26 #[v, .pointer (some ⟨gb, 0, none⟩)] w fun e w' => e = .returned (.int .i64 (t.addS l).1) ∧ ∃ ov', Went w w' base p ov (t.addS l).2 ov' := by
  have c0 := hq.cell 0 _ rfl
  have b0 := hb.cell 0 _ rfl
  obtain ⟨q1, q2⟩ := h.apart hq (by decide) (by decide)
  obtain ⟨b1, b2⟩ := h.apart hb (by decide) (by decide)
  have hadd := add_any base p ov t v l w h hv hl
  obtain ⟨R, hR⟩ : ∃ R, R = t.addS l := ⟨_, rfl⟩
  rw [← hR]
  unfold Tp.addS at hR
  obtain ⟨⟨x, t1⟩, ht1⟩ : ∃ X, X = t.add l := ⟨_, rfl⟩
  rw [← ht1] at hR hadd
  simp only at hR hadd
  have HR := Lib.hid hR
  have HA := Lib.hid hadd
  have HQ := Lib.hid hq
  have HB := Lib.hid hb
  clear hR hadd hq hb ht1 hv h
  go_enter Try.func26, Try.ntmps26
  go_wp2_with fail
  refine HA.out.mono ?_
  rintro e w1 ⟨rfl, ov1, hw⟩
  have hDq : ∀ g, g ≠ p → ov ≠ some g → ¬ TapeD p ov g := by
    rintro g a1 a2 (a | a)
    · exact a1 a
    · exact a2 a.symm
  have c0' := (hw.moved.whole HQ.out (hDq q q1 q2)).cell 0 _ rfl
  have b0' := (hw.moved.whole HB.out (hDq gb b1 b2)).cell 0 _ rfl
  have HW := Lib.hid hw
  clear hw c0 b0 hDq
  by_cases hx : x = 0
  · subst hx
    have hr := HR.out
    rw [if_neg (by simp)] at hr
    have HS := Lib.hid (sync_any base p ov1 t1 w1 HW.out.now)
    have HR2 := Lib.hid hr
    clear hr
    go_wp2_with fail
    refine HS.out.mono ?_
    rintro e w2 ⟨rfl, hw2⟩
    have HW2 := Lib.hid (HW.out.trans hw2)
    clear hw2
    go_wp2_with fail
    go_ret
    exact ⟨by rw [HR2.out]; rfl, ov1, by rw [HR2.out]; exact HW2.out⟩
  · have hr := HR.out
    rw [if_pos hx] at hr
    have HR2 := Lib.hid hr
    have hx2 : (x != 0) = true := by simpa using hx
    clear hr
    go_wp2_with fail
    go_ret
    exact ⟨by rw [HR2.out]; rfl, ov1, by rw [HR2.out]; exact HW.out⟩

set_option maxHeartbeats 2000000 in
set_option maxRecDepth 100000 in
theorem resetF_any (base q p gb : Nat) (ov : Option Nat) (t : Tp) (l : List UInt8) (v : Value) (cq : List Value) (w : World) (h : TapeAt w base p ov t) (hq : Whole w q 53 (.pointer (some ⟨p, 0, none⟩) :: cq)) (hb : Whole w gb 27 [.pointer (some ⟨q, 0, none⟩)])
    (hv : ∀ w1, Mv (TapeD p ov) w w1 → RdB w1 w1.heap.size v l) (hl : l.length ≤ 140737488351232) :
    Calls Try.prog 24 #[v, .pointer (some ⟨gb, 0, none⟩)] w fun e w' => e = .returned (.int .i64 (t.repl l).1) ∧ ∃ ov', Went w w' base p ov (t.repl l).2 ov' := by
  have c0 := hq.cell 0 _ rfl
  have b0 := hb.cell 0 _ rfl
  have HA := Lib.hid (repl_any base p ov t v l w h hv hl)
  clear hq hb hv h
  go_enter Try.func24, Try.ntmps24
  go_wp2_with fail
  refine HA.out.mono ?_
  rintro e w1 ⟨rfl, ov1, hw⟩
  have HW := Lib.hid hw
  clear hw
  go_wp2_with fail
  go_ret
  exact ⟨rfl, ov1, HW.out⟩
end Go.Proofs.Ytaenlkopjmgniaa

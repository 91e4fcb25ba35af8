/- The simplest facts, which each statement of the clock layer asks first. -/
import Derived.Test.YtcigodaacdfagaaClk
namespace Go.Proofs.Ytcigodaacdfagaa
open Go.RowKit

theorem awk_set1 : Ck.new.set 3 5 = (0, ⟨0, [⟨3, 5⟩]⟩) := by rfl
theorem awk_set2 : (Ck.mk 0 [⟨3, 5⟩]).set 1 5 = (0, ⟨0, [⟨1, 5⟩, ⟨3, 5⟩]⟩) := by rfl
theorem awk_pass : (Ck.mk 0 [⟨1, 5⟩, ⟨3, 5⟩]).pass 5 = (([1, 3], 0), ⟨5, []⟩) := by rfl
/-- what a call leaves of the clock's -/
theorem mv_below {base q : Nat} {G : Nat → Prop} {c : Ck} {w w' : World} (h : CkAt w base q G c) (hm : Mv G w w') : Below base w w' := hm.below h.low.1 fun i hi => (h.low.2 i hi).1
set_option maxRecDepth 100000 in
theorem RdG.atI {w : World} {B : Nat} {G : Nat → Prop} {v : Value} {l : List Int} (h : RdG encI 1 w B G v l) : ∃ A c, v = .slice A l.length c ∧ l.length ≤ c ∧ ∀ i (_ : i < l.length), ∃ b o, A = some ⟨b, o, none⟩ ∧ b < B ∧ ¬ G b ∧ w.cell? ⟨b, o + i, none⟩ = some (.int .i64 l[i]) := by
  obtain ⟨A, c, hv, hc, hi⟩ := h
  refine ⟨A, c, hv, hc, fun i hs => ?_⟩
  obtain ⟨b, o, hA, hB, hg, h1⟩ := hi i hs
  have := h1 0 _ rfl
  simp only [Nat.mul_one, Nat.add_zero] at this
  exact ⟨b, o, hA, hB, hg, this⟩

/-- a number of two bytes -/
def encU (n : Nat) : List Value := [.int .u16 (n : Int)]
theorem RdU.at {w : World} {B : Nat} {v : Value} {l : List Nat} (h : Rd encU 1 w B v l) : ∃ A c, v = .slice A l.length c ∧ l.length ≤ c ∧ ∀ i (_ : i < l.length), ∃ b o, A = some ⟨b, o, none⟩ ∧ b < B ∧ w.cell? ⟨b, o + i, none⟩ = some (.int .u16 (l[i] : Int)) := by
  obtain ⟨A, c, hv, hc, hi⟩ := h
  refine ⟨A, c, hv, hc, fun i hs => ?_⟩
  obtain ⟨b, o, hA, hB, h1⟩ := hi i hs
  have := h1 0 _ rfl
  simp only [Nat.mul_one, Nat.add_zero] at this
  exact ⟨b, o, hA, hB, this⟩

set_option maxHeartbeats 4000000 in
set_option maxRecDepth 100000 in
theorem awake_any (w : World) : Calls Try.prog 8 #[] w fun e w' => e = .returned (.bool true) ∧ Below w.heap.size w w' := by
  have HN := Lib.hid (cnew_any w)
  go_enter Try.func8, Try.ntmps8
  go_wp2_with fail
  refine HN.out.mono ?_
  rintro e w1 ⟨q, G, rfl, hk, hb⟩
  have hs := cset_any w.heap.size q G Ck.new 3 5 w1 hk (by unfold I64; omega) (by unfold I64; omega)
  rw [awk_set1] at hs
  have HS := Lib.hid hs
  have HB := Lib.hid hb
  have HK := Lib.hid hk
  clear hk hb hs HN
  go_wp2_with fail
  refine HS.out.mono ?_
  rintro e w2 ⟨rfl, G2, hk2, hG2, hm2⟩
  have hs := cset_any w.heap.size q G2 _ 1 5 w2 hk2 (by unfold I64; omega) (by unfold I64; omega)
  rw [awk_set2] at hs
  have HS2 := Lib.hid hs
  have HB2 := Lib.hid (HB.out.trans (mv_below HK.out hm2))
  have HK2 := Lib.hid hk2
  clear hk2 hG2 hm2 hs HS HB HK
  go_wp2_with fail
  refine HS2.out.mono ?_
  rintro e w3 ⟨rfl, G3, hk3, hG3, hm3⟩
  have hs := cpass_any w.heap.size q G3 _ 5 w3 hk3 (by unfold I64; omega)
  rw [awk_pass] at hs
  have HS3 := Lib.hid hs
  have HB3 := Lib.hid (HB2.out.trans (mv_below HK2.out hm3))
  have HK3 := Lib.hid hk3
  clear hk3 hG3 hm3 hs HS2 HB2 HK2
  go_wp2_with fail
  refine HS3.out.mono ?_
  rintro e w4 ⟨A, cap, rfl, G4, hk4, hG4, hm4, hr4⟩
  have HB4 := Lib.hid (HB3.out.trans (mv_below HK3.out hm4))
  have HNW := Lib.hid (cnow_any w.heap.size q G4 _ w4 hk4)
  obtain ⟨A', c', e, hc, hi⟩ := hr4.atI
  injection e with e1 _ e3
  subst e1 e3
  obtain ⟨b, o, rfl, hb, hg, k0⟩ := hi 0 (by decide)
  simp only [Nat.add_zero, List.getElem_cons_zero] at k0
  simp only [List.length_cons, List.length_nil, Nat.zero_add, Nat.reduceAdd] at hc
  clear hk4 hG4 hm4 hr4 hi HS3 HB3 HK3
  go_wp2_with fail
  refine HNW.out.mono ?_
  rintro e w5 ⟨rfl, hb5⟩
  have HB5 := Lib.hid (HB4.out.trans (hb5.mono HB4.out.size))
  clear hb5 HNW
  go_wp2_with fail
  go_ret
  exact ⟨rfl, HB5.out⟩
end Go.Proofs.Ytcigodaacdfagaa

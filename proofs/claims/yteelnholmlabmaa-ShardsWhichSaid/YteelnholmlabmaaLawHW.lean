/- ShardsWhich's walk. -/
import Derived.Test.YteelnholmlabmaaHAwk
namespace Go.Proofs.Yteelnholmlabmaa
open Go.RowKit

set_option maxHeartbeats 4000000 in
set_option maxRecDepth 100000 in
theorem shardsWhich_walk (b : List K) (k : K) (vb : Value) (w : World) (hb : RdK w w.heap.size vb b) (hbl : b.length ≤ 140737488351232) (hk : k.size < 4611686018427387904) :
    Calls Try.prog 3 #[vb, .string k] w fun e w' => e = .returned (.bool true) ∧ Below w.heap.size w w' := by
  have HP := Lib.hid (pwhich_any b k vb w hb hbl hk)
  have HS := Lib.hid (fun W (h : Below w.heap.size w W) => rsoundB_any b vb W ((hb.below h (Nat.le_refl _)).mono h.size))
  have HW := Lib.hid (fun W (h : Below w.heap.size w W) => rwhichB_any b k vb W ((hb.below h (Nat.le_refl _)).mono h.size) hbl)
  have HA := Lib.hid awake_any
  obtain ⟨Ab, cb, rfl, _⟩ := hb.at
  clear hb
  by_cases hok : okB b
  · rw [if_pos hok, if_pos hok] at HP
    rw [decide_eq_true hok] at HS
    clear hok
    generalize whichB b k = n at HP HW
    go_enter Try.func3, Try.ntmps3
    go_wp2_with fail
    refine HP.out.mono ?_
    rintro e w1 ⟨rfl, hb1⟩
    have h2 := HS.out w1 hb1
    have H2 := Lib.hid h2
    have HB1 := Lib.hid hb1
    clear h2 hb1
    go_wp2_with fail
    refine H2.out.mono ?_
    rintro e w2 ⟨rfl, hb2⟩
    have HB2 := Lib.hid (HB1.out.trans (hb2.mono HB1.out.size))
    clear hb2
    go_wp2_with fail
    refine (HA.out w2).mono ?_
    rintro e w3 ⟨rfl, hb3⟩
    have hb3' := HB2.out.trans (hb3.mono HB2.out.size)
    have H4 := Lib.hid (HW.out w3 hb3')
    have HB3 := Lib.hid hb3'
    clear hb3 hb3'
    go_wp2_with fail
    refine H4.out.mono ?_
    rintro e w4 ⟨rfl, hb4⟩
    have HB4 := Lib.hid (HB3.out.trans (hb4.mono HB3.out.size))
    clear hb4
    go_wp2_with fail
    go_ret
    exact ⟨by first | rfl | trivial, HB4.out⟩
  · rw [if_neg hok, if_neg hok] at HP
    rw [decide_eq_false hok] at HS
    clear hok HW
    go_enter Try.func3, Try.ntmps3
    go_wp2_with fail
    refine HP.out.mono ?_
    rintro e w1 ⟨rfl, hb1⟩
    have H2 := Lib.hid (HS.out w1 hb1)
    have HB1 := Lib.hid hb1
    clear hb1
    go_wp2_with fail
    refine H2.out.mono ?_
    rintro e w2 ⟨rfl, hb2⟩
    have HB2 := Lib.hid (HB1.out.trans (hb2.mono HB1.out.size))
    clear hb2
    go_wp2_with fail
    refine (HA.out w2).mono ?_
    rintro e w3 ⟨rfl, hb3⟩
    have HB3 := Lib.hid (HB2.out.trans (hb3.mono HB2.out.size))
    clear hb3
    go_wp2_with fail
    go_ret
    exact ⟨by first | rfl | trivial, HB3.out⟩
end Go.Proofs.Yteelnholmlabmaa

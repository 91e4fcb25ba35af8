/- ShardsOne's walk. -/
import Derived.Test.YteelnholmlabmaaHAwk
namespace Go.Proofs.Yteelnholmlabmaa
open Go.RowKit
attribute [local go_sem] less_eq same_eq le_eq ge_eq gt_eq

set_option maxHeartbeats 4000000 in
set_option maxRecDepth 100000 in
theorem shardsOne_walk (b : List K) (k : K) (vb : Value) (w : World) (hb : RdK w w.heap.size vb b) (hbl : b.length ≤ 140737488351232) (hk : k.size < 4611686018427387904) :
    Calls Try.prog 7 #[vb, .string k] w fun e w' => e = .returned (.bool true) ∧ Below w.heap.size w w' := by
  have HP := Lib.hid (pwhich_any b k vb w hb hbl hk)
  have HW := Lib.hid (fun (m : Nat) (hm : m ≤ b.length) W (h : Below w.heap.size w W) => ppiece_any b m vb W ((hb.below h (Nat.le_refl _)).mono h.size) hbl (by omega))
  have HA := Lib.hid awake_any
  obtain ⟨Ab, cb, rfl, _⟩ := hb.at
  clear hb
  by_cases hok : okB b
  case neg =>
    rw [if_neg hok, if_neg hok] at HP
    clear hok HW
    go_enter Try.func7, Try.ntmps7
    go_wp2_with fail
    refine HP.out.mono ?_
    rintro e w1 ⟨rfl, hb1⟩
    have HB1 := Lib.hid hb1; clear hb1
    go_wp2_with fail
    refine (HA.out w1).mono ?_
    rintro e w2 ⟨rfl, hb2⟩
    have HB2 := Lib.hid (HB1.out.trans (hb2.mono HB1.out.size)); clear hb2
    go_wp2_with fail
    refine (HA.out w2).mono ?_
    rintro e w3 ⟨rfl, hb3⟩
    have HB3 := Lib.hid (HB2.out.trans (hb3.mono HB2.out.size)); clear hb3
    go_wp2_with fail
    go_ret
    exact ⟨by first | rfl | trivial, HB3.out⟩
  rw [if_pos hok, if_pos hok] at HP
  by_cases hk16 : k.size ≤ 16
  case neg =>
    have hk17 : (16 : Int) < (k.size : Int) := by omega
    clear hok HW
    generalize whichB b k = n at HP
    go_enter Try.func7, Try.ntmps7
    go_wp2_with fail
    refine HP.out.mono ?_
    rintro e w1 ⟨rfl, hb1⟩
    have HB1 := Lib.hid hb1; clear hb1
    go_wp2_with fail
    refine (HA.out w1).mono ?_
    rintro e w2 ⟨rfl, hb2⟩
    have HB2 := Lib.hid (HB1.out.trans (hb2.mono HB1.out.size)); clear hb2
    go_wp2_with fail
    refine (HA.out w2).mono ?_
    rintro e w3 ⟨rfl, hb3⟩
    have HB3 := Lib.hid (HB2.out.trans (hb3.mono HB2.out.size)); clear hb3
    go_wp2_with fail
    go_ret
    exact ⟨by first | rfl | trivial, HB3.out⟩
  have hk17 : ¬ (16 : Int) < (k.size : Int) := by omega
  have hpw : ∀ m (hm : m ≤ b.length) W (h : Below w.heap.size w W), Calls Try.prog 14 #[.slice Ab b.length cb, .int .i64 (m : Int)] W fun e w' => ∃ s1 s2 : K, e = .returned (.tuple #[.agg #[.string s1, .string s2], .int .i64 0]) ∧ hasB (s1, s2) k = decide (m = whichB b k) ∧ Below W.heap.size W w' := fun m hm W h => by
    have h1 := HW.out m hm W h
    rw [if_pos ⟨hok, by omega, by omega⟩, if_pos ⟨hok, by omega, by omega⟩, if_pos hok, if_pos ⟨by omega, by omega⟩, Int.toNat_natCast] at h1
    refine h1.mono fun e w' ⟨he, hb'⟩ => ⟨_, _, he, ?_, hb'⟩
    rw [Bool.eq_iff_iff, decide_eq_true_iff, ← pieceB_has hok hk16 hm]
    unfold hasB has
    simp
  have HPW := Lib.hid hpw; clear hpw HW
  have hwl := whichB_le b k
  generalize whichB b k = n at HP HPW hwl
  have hb7 := hok.1
  clear hok
  go_enter Try.func7, Try.ntmps7
  go_wp2_with fail
  refine HP.out.mono ?_
  rintro e w1 ⟨rfl, hb1⟩
  have HB1 := Lib.hid hb1; clear hb1
  go_wp2_with fail
  refine (HA.out w1).mono ?_
  rintro e w2 ⟨rfl, hb2⟩
  have HB2 := Lib.hid (HB1.out.trans (hb2.mono HB1.out.size)); clear hb2
  go_wp2_with fail
  go_loopw [7] (fun iv wr => ∃ i : Nat, i ≤ b.length + 1 ∧ iv = .int .i64 i ∧ Hid (Below w.heap.size w wr)) (fun iv _ => b.length + 1 - (intOf iv).toNat)
  case atStart => exact ⟨0, Nat.zero_le _, rfl, HB2⟩
  case round =>
    obtain ⟨i, hil, rfl, HBW⟩ := hrel
    have hws := HBW.out.size
    by_cases hlt : i ≤ b.length
    · have hle : (i : Int) ≤ (b.length : Int) := by omega
      have H3 := Lib.hid (HPW.out i hlt wr HBW.out)
      go_wp2_with fail
      refine H3.out.mono ?_
      rintro e w3 ⟨s1, s2, rfl, hhas, hb3⟩
      obtain ⟨w4, hw4⟩ : ∃ w4, w4 = w3.alloc (.cells #[.string s1, .string s2] 31) := ⟨_, rfl⟩
      have hs3 := hb3.size
      have hB4 : Below w.heap.size w w4 := by rw [hw4]; exact (HBW.out.trans (hb3.mono hws)).alloc (by omega) _
      have hh := rhas_any (s1, s2) k w4
      have hhas2 : (decide (s1 ≤ k) && decide (k < s2)) = decide (i = n) := hhas
      simp only at hh
      rw [hhas2] at hh
      have H4 := Lib.hid hh
      have HB4 := Lib.hid hB4
      have HW4 := Lib.hid hw4
      clear hh hB4 hw4 hb3 hhas hhas2
      by_cases hin : i = n
      · have hd : decide (i = n) = true := decide_eq_true hin
        have hin2 : ((i : Int) == (n : Int)) = true := by simp; omega
        rw [hd] at H4
        clear hd hin
        go_wp2_with fail
        rw [← HW4.out]
        refine H4.out.mono ?_
        rintro e w5 ⟨rfl, hb5⟩
        have HB5 := Lib.hid (HB4.out.trans (hb5.mono HB4.out.size)); clear hb5
        go_wp2_with fail
        go_roundw
        case rel => exact ⟨i + 1, by omega, by go_num, HB5⟩
        case measure => simp [intOf]; omega
      · have hd : decide (i = n) = false := decide_eq_false hin
        have hin2 : ((i : Int) == (n : Int)) = false := by simp; omega
        rw [hd] at H4
        clear hd hin
        go_wp2_with fail
        rw [← HW4.out]
        refine H4.out.mono ?_
        rintro e w5 ⟨rfl, hb5⟩
        have HB5 := Lib.hid (HB4.out.trans (hb5.mono HB4.out.size)); clear hb5
        go_wp2_with fail
        go_roundw
        case rel => exact ⟨i + 1, by omega, by go_num, HB5⟩
        case measure => simp [intOf]; omega
    · obtain rfl : i = b.length + 1 := by omega
      have hle2 : (((b.length + 1 : Nat) : Int) ≤ (b.length : Int)) = False := by simp; omega
      go_wp2_with fail
      go_ret
      exact ⟨by first | rfl | trivial, HBW.out⟩
end Go.Proofs.Yteelnholmlabmaa

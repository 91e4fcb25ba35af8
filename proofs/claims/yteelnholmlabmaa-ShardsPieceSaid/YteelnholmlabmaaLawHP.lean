/- ShardsPiece's walk. -/
import Derived.Test.YteelnholmlabmaaHAwk
namespace Go.Proofs.Yteelnholmlabmaa
open Go.RowKit

set_option maxHeartbeats 4000000 in
set_option maxRecDepth 100000 in
theorem shardsPiece_walk (b : List K) (n : Int) (vb : Value) (w : World) (hb : RdK w w.heap.size vb b) (hbl : b.length ≤ 140737488351232) (hn : -9223372036854775808 ≤ n ∧ n < 9223372036854775808) :
    Calls Try.prog 4 #[vb, .int .i64 n] w fun e w' => e = .returned (.bool true) ∧ Below w.heap.size w w' := by
  have HP := Lib.hid (ppiece_any b n vb w hb hbl hn)
  have HS := Lib.hid (fun W (h : Below w.heap.size w W) => rsoundB_any b vb W ((hb.below h (Nat.le_refl _)).mono h.size))
  have HW := Lib.hid (fun (m : Nat) (hm : m ≤ b.length) W (h : Below w.heap.size w W) => rpieceB_any b m vb W ((hb.below h (Nat.le_refl _)).mono h.size) hm hbl)
  have HA := Lib.hid awake_any
  obtain ⟨Ab, cb, rfl, _⟩ := hb.at
  clear hb
  have heq0 := fun (a c : K) W => eql_span a c a c W
  simp only [decide_true, Bool.and_self] at heq0
  have HEQ := Lib.hid heq0; clear heq0
  have hcase : (okB b ∧ 0 ≤ n ∧ n ≤ b.length) ∨ (∃ q : Int, (q = 1 ∧ okB b ∧ ¬ (0 ≤ n ∧ n ≤ b.length)) ∨ (q = 2 ∧ ¬ okB b)) := by
    by_cases h1 : okB b
    · by_cases h2 : 0 ≤ n ∧ n ≤ b.length
      · exact .inl ⟨h1, h2⟩
      · exact .inr ⟨1, .inl ⟨rfl, h1, h2⟩⟩
    · exact .inr ⟨2, .inr ⟨rfl, h1⟩⟩
  rcases hcase with ⟨hok, h0, h1⟩ | ⟨q, hq⟩
  · rw [if_pos ⟨hok, h0, h1⟩, if_pos ⟨hok, h0, h1⟩, if_pos hok, if_pos ⟨h0, h1⟩] at HP
    rw [decide_eq_true hok] at HS
    obtain ⟨m, rfl⟩ : ∃ m : Nat, n = (m : Int) := ⟨n.toNat, by omega⟩
    rw [Int.toNat_natCast] at HP
    have HWM := Lib.hid (HW.out m (by omega))
    clear hok HW hn
    have hlt0 : ¬ ((m : Int) < 0) := by omega
    have hgt0 : ¬ ((b.length : Int) < (m : Int)) := by omega
    have hgt1 : decide ((b.length : Int) < (m : Int)) = false := decide_eq_false hgt0
    generalize pieceB b m = s at HP HWM
    obtain ⟨s1, s2⟩ := s
    simp only at HP HWM
    have HE := Lib.hid (HEQ.out s1 s2)
    clear HEQ
    go_enter Try.func4, Try.ntmps4
    go_wp2_with fail
    refine HP.out.mono ?_
    rintro e w1 ⟨rfl, hb1⟩
    have hs1 := hb1.size
    obtain ⟨w2, hw2⟩ : ∃ w2, w2 = w1.alloc (.cells #[.string s1, .string s2] 31) := ⟨_, rfl⟩
    have hx2 : Whole w2 w1.heap.size 31 [.string s1, .string s2] := by rw [hw2]; exact Whole.fresh w1 _ [_, _]
    have hb2 : Below w.heap.size w w2 := by rw [hw2]; exact hb1.alloc hs1 _
    have H2 := Lib.hid (HS.out w2 hb2)
    have HX2 := Lib.hid hx2
    have HB2 := Lib.hid hb2
    have HW2 := Lib.hid hw2
    obtain ⟨X, hX⟩ : ∃ X, X = w1.heap.size := ⟨_, rfl⟩
    have HXX := Lib.hid hX
    clear hb1 hx2 hb2 hw2 hX hs1
    go_wp2_with fail
    rw [← HW2.out, ← HXX.out]
    rw [← HXX.out] at HX2
    clear HW2 HXX
    refine H2.out.mono ?_
    rintro e w3 ⟨rfl, hb3⟩
    have HX3 := Lib.hid (HX2.out.below hb3 HX2.out.size)
    have HB3 := Lib.hid (HB2.out.trans (hb3.mono HB2.out.size))
    clear hb3 HX2 HB2 H2
    go_wp2_with fail
    have hxd : Whole w3.drew X 31 [.string s1, .string s2] := HX3.out.drew
    have hbd : Below w.heap.size w w3.drew := HB3.out.drew
    refine wp_region_planB [(false, 0), (true, 1), (true, 2), (true, 3), (true, 4), (true, 5), (true, 6), (true, 7), (true, 8), (false, 9), (true, 10), (true, 11), (true, 12)] (by kernel_rfl) (by kernel_rfl) (fun _ _ d _ _ h => by cases d <;> exact h) ?_
    refine PlanB.step rfl rfl (fun Kk hK => ?_)
    go_simp
    refine (HA.out _).mono ?_
    rintro e w4 ⟨rfl, hb4⟩
    refine hK.out _ _ hb4 ?_
    clear hK Kk
    (try simp only [Act.put, List.setIfInBounds_toArray, List.set_cons_zero, List.set_cons_succ])
    have hx4 := hxd.below hb4 hxd.size
    have hb5 := hbd.trans (hb4.mono hbd.size)
    iterate 8 (refine PlanB.take (v := ?_) rfl rfl ?_ ?_; rotate_left; (focus (intro W hW; have m := hx4.below hW hx4.size; have m0 := m.cell 0 _ rfl; have m1 := m.cell 1 _ rfl; go_simp; (try with_reducible rfl); done)); (try simp only [Act.put, List.setIfInBounds_toArray, List.set_cons_zero, List.set_cons_succ]))
    refine PlanB.step rfl rfl (fun Kk hK => ?_)
    go_simp
    refine (HWM.out w4 hb5).mono ?_
    rintro e w5 ⟨rfl, hb6⟩
    refine hK.out _ _ hb6 ?_
    clear hK Kk
    (try simp only [Act.put, List.setIfInBounds_toArray, List.set_cons_zero, List.set_cons_succ])
    have HB7 := Lib.hid (hb5.trans (hb6.mono hb5.size))
    iterate 3 (refine PlanB.take (v := ?_) rfl rfl ?_ ?_; rotate_left; (focus (intro W hW; have he := HE.out W; go_simp; (try with_reducible rfl); done)); (try simp only [Act.put, List.setIfInBounds_toArray, List.set_cons_zero, List.set_cons_succ]))
    simp only [PlanB]
    clear hx4 hb5 hb4 hb6 hxd hbd
    go_wp2_with fail
    go_ret
    exact ⟨by first | rfl | trivial, HB7.out⟩
  · have hno : ¬ (okB b ∧ 0 ≤ n ∧ n ≤ b.length) := by
      rcases hq with ⟨_, _, h⟩ | ⟨_, h⟩
      · exact fun h2 => h h2.2
      · exact fun h2 => h h2.1
    rw [if_neg hno, if_neg hno] at HP
    have HE := Lib.hid (HEQ.out ⟨#[]⟩ ⟨#[]⟩)
    clear HEQ HW
    rcases hq with ⟨rfl, hok, hr⟩ | ⟨rfl, hok⟩
    · rw [if_pos hok, if_neg hr] at HP
      rw [decide_eq_true hok] at HS
      have hr2 : n < 0 ∨ (¬ n < 0 ∧ (b.length : Int) < n) := by omega
      clear hok hno hr
      go_enter Try.func4, Try.ntmps4
      go_wp2_with fail
      refine HP.out.mono ?_
      rintro e w1 ⟨rfl, hb1⟩
      have hs1 := hb1.size
      obtain ⟨w2, hw2⟩ : ∃ w2, w2 = w1.alloc (.cells #[.string ⟨#[]⟩, .string ⟨#[]⟩] 31) := ⟨_, rfl⟩
      have hx2 : Whole w2 w1.heap.size 31 [.string ⟨#[]⟩, .string ⟨#[]⟩] := by rw [hw2]; exact Whole.fresh w1 _ [_, _]
      have hb2 : Below w.heap.size w w2 := by rw [hw2]; exact hb1.alloc hs1 _
      have H2 := Lib.hid (HS.out w2 hb2)
      have HX2 := Lib.hid hx2
      have HB2 := Lib.hid hb2
      have HW2 := Lib.hid hw2
      obtain ⟨X, hX⟩ : ∃ X, X = w1.heap.size := ⟨_, rfl⟩
      have HXX := Lib.hid hX
      clear hb1 hx2 hb2 hw2 hX hs1
      go_wp2_with fail
      rw [← HW2.out, ← HXX.out]
      rw [← HXX.out] at HX2
      clear HW2 HXX
      refine H2.out.mono ?_
      rintro e w3 ⟨rfl, hb3⟩
      have HX3 := Lib.hid (HX2.out.below hb3 HX2.out.size)
      have HB3 := Lib.hid (HB2.out.trans (hb3.mono HB2.out.size))
      clear hb3 HX2 HB2 H2
      rcases hr2 with hr2 | ⟨hr2, hr3⟩
      all_goals
        go_wp2_with fail
        refine (HA.out w3).mono ?_
        rintro e w4 ⟨rfl, hb4⟩
        have m := HX3.out.below hb4 HX3.out.size
        have m0 := m.cell 0 _ rfl
        have m1 := m.cell 1 _ rfl
        have he := HE.out w4
        have HB4 := Lib.hid (HB3.out.trans (hb4.mono HB3.out.size))
        clear hb4 m
        go_wp2_with fail
        go_ret
        exact ⟨by first | rfl | trivial, HB4.out⟩
    · rw [if_neg hok] at HP
      rw [decide_eq_false hok] at HS
      clear hok hno
      go_enter Try.func4, Try.ntmps4
      go_wp2_with fail
      refine HP.out.mono ?_
      rintro e w1 ⟨rfl, hb1⟩
      have hs1 := hb1.size
      obtain ⟨w2, hw2⟩ : ∃ w2, w2 = w1.alloc (.cells #[.string ⟨#[]⟩, .string ⟨#[]⟩] 31) := ⟨_, rfl⟩
      have hx2 : Whole w2 w1.heap.size 31 [.string ⟨#[]⟩, .string ⟨#[]⟩] := by rw [hw2]; exact Whole.fresh w1 _ [_, _]
      have hb2 : Below w.heap.size w w2 := by rw [hw2]; exact hb1.alloc hs1 _
      have H2 := Lib.hid (HS.out w2 hb2)
      have HX2 := Lib.hid hx2
      have HB2 := Lib.hid hb2
      have HW2 := Lib.hid hw2
      obtain ⟨X, hX⟩ : ∃ X, X = w1.heap.size := ⟨_, rfl⟩
      have HXX := Lib.hid hX
      clear hb1 hx2 hb2 hw2 hX hs1
      go_wp2_with fail
      rw [← HW2.out, ← HXX.out]
      rw [← HXX.out] at HX2
      clear HW2 HXX
      refine H2.out.mono ?_
      rintro e w3 ⟨rfl, hb3⟩
      have HX3 := Lib.hid (HX2.out.below hb3 HX2.out.size)
      have HB3 := Lib.hid (HB2.out.trans (hb3.mono HB2.out.size))
      clear hb3 HX2 HB2 H2
      go_wp2_with fail
      refine (HA.out w3).mono ?_
      rintro e w4 ⟨rfl, hb4⟩
      have m := HX3.out.below hb4 HX3.out.size
      have m0 := m.cell 0 _ rfl
      have m1 := m.cell 1 _ rfl
      have he := HE.out w4
      have HB4 := Lib.hid (HB3.out.trans (hb4.mono HB3.out.size))
      clear hb4 m
      go_wp2_with fail
      go_ret
      exact ⟨by first | rfl | trivial, HB4.out⟩
end Go.Proofs.Yteelnholmlabmaa

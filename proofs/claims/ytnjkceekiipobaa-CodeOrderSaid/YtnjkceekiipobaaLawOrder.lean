/- The walk of the law CodeOrder. -/
import Derived.Test.YtnjkceekiipobaaAwk
namespace Go.Proofs.Ytnjkceekiipobaa
open Go.RowKit
attribute [local go_sem] same_str

set_option maxHeartbeats 4000000 in
set_option maxRecDepth 100000 in
theorem codeOrder_walk (a b : Int) (ha : -9223372036854775808 ≤ a ∧ a < 9223372036854775808) (hb : -9223372036854775808 ≤ b ∧ b < 9223372036854775808) (w : World) :
    Calls Try.prog 9 #[.int .i64 a, .int .i64 b] w fun e w' => e = .returned (.bool true) ∧ Below w.heap.size w w' := by
  have h1 := put_any [] (.slice none 0 0) a w ha.2 (Rd.nil _ _) (by simp)
  have h2 := fun W => put_any [] (.slice none 0 0) b W hb.2 (Rd.nil _ _) (by simp)
  by_cases hna : a < 0
  · rw [putAns, if_pos hna] at h1
    generalize putAns [] b = y at h2
    obtain ⟨y1, y2⟩ := y
    have H1 := Lib.hid h1; clear h1
    have H2 := Lib.hid h2; clear h2
    go_enter Try.func9, Try.ntmps9
    go_wp2_with fail
    refine H1.out.mono ?_
    rintro e w1 ⟨v1, rfl, hr1, hb1⟩
    have HW1 := Lib.hid hb1
    have HR1 := Lib.hid hr1
    clear hb1 hr1
    go_wp2_with fail
    refine (H2.out w1).mono ?_
    rintro e w2 ⟨v2, rfl, hr2, hb2⟩
    have HW2 := Lib.hid (HW1.out.trans (hb2.mono HW1.out.size))
    have HR12 := Lib.hid (HR1.out.next hb2)
    have HR2 := Lib.hid hr2
    clear hb2 hr2 HR1 HW1
    go_wp2_with fail
    refine (awake_any _).mono ?_
    rintro e w3 ⟨rfl, hb3⟩
    have HW3 := Lib.hid (HW2.out.trans (hb3.mono HW2.out.size))
    clear hb3
    go_wp2_with fail
    refine (awake_any _).mono ?_
    rintro e w4 ⟨rfl, hb4⟩
    have HW4 := Lib.hid (HW3.out.trans (hb4.mono HW3.out.size))
    clear hb4
    go_wp2_with fail
    go_ret
    exact ⟨rfl, HW4.out⟩
  by_cases hnb : b < 0
  · rw [putAns, if_neg hna, List.nil_append] at h1
    simp only [putAns, if_pos hnb] at h2
    have H1 := Lib.hid h1; clear h1
    have H2 := Lib.hid h2; clear h2
    go_enter Try.func9, Try.ntmps9
    go_wp2_with fail
    refine H1.out.mono ?_
    rintro e w1 ⟨v1, rfl, hr1, hb1⟩
    have HW1 := Lib.hid hb1
    have HR1 := Lib.hid hr1
    clear hb1 hr1
    go_wp2_with fail
    refine (H2.out w1).mono ?_
    rintro e w2 ⟨v2, rfl, hr2, hb2⟩
    have HW2 := Lib.hid (HW1.out.trans (hb2.mono HW1.out.size))
    have HR12 := Lib.hid (HR1.out.next hb2)
    have HR2 := Lib.hid hr2
    clear hb2 hr2 HR1 HW1
    go_wp2_with fail
    refine (awake_any _).mono ?_
    rintro e w3 ⟨rfl, hb3⟩
    have HW3 := Lib.hid (HW2.out.trans (hb3.mono HW2.out.size))
    clear hb3
    go_wp2_with fail
    refine (awake_any _).mono ?_
    rintro e w4 ⟨rfl, hb4⟩
    have HW4 := Lib.hid (HW3.out.trans (hb4.mono HW3.out.size))
    clear hb4
    go_wp2_with fail
    go_ret
    exact ⟨rfl, HW4.out⟩
  rw [putAns, if_neg hna, List.nil_append] at h1
  simp only [putAns, if_neg hnb, List.nil_append] at h2
  obtain ⟨n, rfl⟩ : ∃ n : Nat, a = (n : Int) := ⟨a.toNat, by omega⟩
  obtain ⟨m, rfl⟩ : ∃ m : Nat, b = (m : Int) := ⟨b.toNat, by omega⟩
  rw [Int.toNat_natCast] at h1
  simp only [Int.toNat_natCast] at h2
  have hp := enc_pos n
  have h9 := enc_len9 (n := n) (by omega)
  have hmono := enc_mono n m
  have hinj : enc n = enc m → n = m := enc_inj (by omega)
  by_cases heq : n = m
  · subst heq
    clear hmono hinj
    generalize enc n = x at h1 h2 hp h9
    have hp1 : (1 : Int) ≤ (x.length : Int) := by omega
    have hp9 : (x.length : Int) ≤ 9 := by omega
    have H1 := Lib.hid h1; clear h1
    have H2 := Lib.hid h2; clear h2
    go_enter Try.func9, Try.ntmps9
    go_wp2_with fail
    refine H1.out.mono ?_
    rintro e w1 ⟨v1, rfl, hr1, hb1⟩
    have HW1 := Lib.hid hb1
    have HR1 := Lib.hid hr1
    clear hb1 hr1
    go_wp2_with fail
    refine (H2.out w1).mono ?_
    rintro e w2 ⟨v2, rfl, hr2, hb2⟩
    have HW2 := Lib.hid (HW1.out.trans (hb2.mono HW1.out.size))
    have HR12 := Lib.hid (HR1.out.next hb2)
    have HR2 := Lib.hid hr2
    clear hb2 hr2 HR1 HW1
    go_wp2_with fail
    refine (awake_any _).mono ?_
    rintro e w3 ⟨rfl, hb3⟩
    have HW3 := Lib.hid (HW2.out.trans (hb3.mono HW2.out.size))
    have hr13 := HR12.out.next hb3
    have hr23 := HR2.out.next hb3
    clear hb3
    have hc1 := run_convB hr13
    have hc2 := run_convB hr23
    obtain ⟨A5, c5, hv5, _, _⟩ := RdB.at hr13
    obtain ⟨A6, c6, hv6, _, _⟩ := RdB.at hr23
    subst hv5 hv6
    clear hr13 hr23 HR12 HR2
    go_wp2_with fail
    go_ret
    exact ⟨by first | (simp; done) | (simp; omega), HW3.out⟩
  · have hne : ¬ (enc n = enc m) := fun h => heq (hinj h)
    clear hinj
    generalize enc m = y at h2 hne hmono
    generalize enc n = x at h1 hp h9 hne hmono
    have hp1 : (1 : Int) ≤ (x.length : Int) := by omega
    have hp9 : (x.length : Int) ≤ 9 := by omega
    have hnm : ¬ ((n : Int) = (m : Int)) := by omega
    have H1 := Lib.hid h1; clear h1
    have H2 := Lib.hid h2; clear h2
    by_cases hgt : n > m
    · have hg1 : (m : Int) < (n : Int) := by omega
      clear hmono
      go_enter Try.func9, Try.ntmps9
      go_wp2_with fail
      refine H1.out.mono ?_
      rintro e w1 ⟨v1, rfl, hr1, hb1⟩
      have HW1 := Lib.hid hb1
      have HR1 := Lib.hid hr1
      clear hb1 hr1
      go_wp2_with fail
      refine (H2.out w1).mono ?_
      rintro e w2 ⟨v2, rfl, hr2, hb2⟩
      have HW2 := Lib.hid (HW1.out.trans (hb2.mono HW1.out.size))
      have HR12 := Lib.hid (HR1.out.next hb2)
      have HR2 := Lib.hid hr2
      clear hb2 hr2 HR1 HW1
      go_wp2_with fail
      refine (awake_any _).mono ?_
      rintro e w3 ⟨rfl, hb3⟩
      have HW3 := Lib.hid (HW2.out.trans (hb3.mono HW2.out.size))
      have hr13 := HR12.out.next hb3
      have hr23 := HR2.out.next hb3
      clear hb3
      have hc1 := run_convB hr13
      have hc2 := run_convB hr23
      obtain ⟨A5, c5, hv5, _, _⟩ := RdB.at hr13
      obtain ⟨A6, c6, hv6, _, _⟩ := RdB.at hr23
      subst hv5 hv6
      clear hr13 hr23 HR12 HR2
      go_wp2_with fail
      go_ret
      exact ⟨by first | (simp; done) | (simp; omega), HW3.out⟩
    · have hg1 : ¬ (m : Int) < (n : Int) := by omega
      have hml := hmono (by omega)
      have hg2 : (x.length : Int) ≤ (y.length : Int) := by omega
      clear hmono hml
      go_enter Try.func9, Try.ntmps9
      go_wp2_with fail
      refine H1.out.mono ?_
      rintro e w1 ⟨v1, rfl, hr1, hb1⟩
      have HW1 := Lib.hid hb1
      have HR1 := Lib.hid hr1
      clear hb1 hr1
      go_wp2_with fail
      refine (H2.out w1).mono ?_
      rintro e w2 ⟨v2, rfl, hr2, hb2⟩
      have HW2 := Lib.hid (HW1.out.trans (hb2.mono HW1.out.size))
      have HR12 := Lib.hid (HR1.out.next hb2)
      have HR2 := Lib.hid hr2
      clear hb2 hr2 HR1 HW1
      go_wp2_with fail
      refine (awake_any _).mono ?_
      rintro e w3 ⟨rfl, hb3⟩
      have HW3 := Lib.hid (HW2.out.trans (hb3.mono HW2.out.size))
      have hr13 := HR12.out.next hb3
      have hr23 := HR2.out.next hb3
      clear hb3
      have hc1 := run_convB hr13
      have hc2 := run_convB hr23
      obtain ⟨A5, c5, hv5, _, _⟩ := RdB.at hr13
      obtain ⟨A6, c6, hv6, _, _⟩ := RdB.at hr23
      subst hv5 hv6
      clear hr13 hr23 HR12 HR2
      go_wp2_with fail
      go_ret
      exact ⟨by first | (simp; done) | (simp; omega), HW3.out⟩
end Go.Proofs.Ytnjkceekiipobaa

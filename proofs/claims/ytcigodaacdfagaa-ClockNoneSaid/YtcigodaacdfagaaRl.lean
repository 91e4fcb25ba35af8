/- The reference's clock: Stop, Set. -/
import Derived.Test.YtcigodaacdfagaaRk
namespace Go.Proofs.Ytcigodaacdfagaa
open Go.RowKit

set_option maxHeartbeats 8000000 in
set_option maxRecDepth 100000 in
theorem rstop_any (base r : Nat) (G : Nat → Prop) (c : Ck) (bell : Int) (w : World) (h : RkAt w base r G c) :
    Calls Try.prog 12 #[.pointer (some ⟨r, 0, none⟩), .int .i64 bell] w fun e w' => e = .returned (.int .i64 (c.stop bell).1) ∧ RkWent w w' base r G (c.stop bell).2 := by
  obtain ⟨R, hR⟩ : ∃ R, R = c.stop bell := ⟨_, rfl⟩
  rw [← hR]
  unfold Ck.stop at hR
  have H := Lib.hid h
  have HW := Lib.hid (rwithout_any base r G c bell w h)
  by_cases hb : bell < 0 ∨ 4095 < bell
  · rw [if_pos hb] at hR
    have HR := Lib.hid hR
    clear hR h
    rcases (show bell < 0 ∨ (¬ bell < 0 ∧ 4095 < bell) by omega) with h1 | ⟨h1, h2⟩
    all_goals
      clear hb
      go_enter Try.func12, Try.ntmps12
      go_wp2_with fail
      go_ret
      rw [HR.out]
      exact ⟨rfl, RkWent.of H.out (Below.refl _ _)⟩
  · rw [if_neg hb] at hR
    have h1 : ¬ bell < 0 := by omega
    have h2 : ¬ 4095 < bell := by omega
    have hok := h.ok.stop bell
    unfold Ck.stop at hok
    rw [if_neg hb] at hok
    have hlen := h.ok.len
    have hle := (wo_sub bell c.l).length_le
    obtain ⟨A0, cap0, hb0, _⟩ := h.blk
    have HB0 := Lib.hid hb0
    obtain ⟨K, hK⟩ : ∃ K, K = wo bell c.l := ⟨_, rfl⟩
    rw [← hK] at HW hR hle hok
    have HR := Lib.hid hR
    have HOK := Lib.hid hok
    obtain ⟨N, hN⟩ : ∃ N, N = c.l.length := ⟨_, rfl⟩
    rw [← hN] at HB0 HR hlen hle HOK
    have HN := Lib.hid hN
    have HK := Lib.hid hK
    clear hR hok hb h hb0 hK hN
    go_enter Try.func12, Try.ntmps12
    go_wp2_with fail
    refine HW.out.mono ?_
    rintro e w1 ⟨g, cap, rfl, ho, hb1⟩
    have hr1 := HB0.out.below hb1 HB0.out.size
    have c1 := hr1.cell 1 _ rfl
    have f1 := hr1.frozen 1
    have HO := Lib.hid ho
    have HB1 := Lib.hid hb1
    clear ho hb1 hr1 HW
    by_cases he : K.length = N
    · have hr := HR.out
      rw [if_pos he] at hr
      have HR2 := Lib.hid hr
      clear hr HR HOK
      subst he
      go_wp2_with fail
      go_ret
      rw [HR2.out]
      exact ⟨rfl, RkWent.of H.out HB1.out⟩
    · have he1 : ¬ ((K.length : Int) = (N : Int)) := by omega
      have hr := HR.out
      rw [if_neg he] at hr
      have HR2 := Lib.hid hr
      have hok := HOK.out
      rw [if_neg he] at hok
      have HOK2 := Lib.hid hok
      clear hr he hok HR HOK
      go_wp2_with fail
      go_ret
      rw [HR2.out]
      exact ⟨rfl, H.out.relist HB1.out rfl HO.out HOK2.out⟩
end Go.Proofs.Ytcigodaacdfagaa

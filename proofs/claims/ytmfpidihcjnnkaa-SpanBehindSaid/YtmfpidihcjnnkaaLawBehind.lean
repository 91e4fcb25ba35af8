/- The walk of the law SpanBehind. -/
import Derived.Test.YtmfpidihcjnnkaaAwake
namespace Go.Proofs.Ytmfpidihcjnnkaa
open Go.RowKit
attribute [local go_sem] less_eq same_eq le_eq ge_eq gt_eq

theorem low_spec (s : ByteArray) : ∀ n m, low s n = m + 1 → m < n ∧ ∃ h : m < s.size, s[m] ≠ 255
  | 0, m, h => by simp [low] at h
  | n + 1, m, h => by
    rw [low] at h
    by_cases hn : n < s.size
    · rw [dif_pos hn] at h
      by_cases hc : s[n] = 255
      · rw [if_pos hc] at h
        have := low_spec s n m h
        exact ⟨by omega, this.2⟩
      · rw [if_neg hc] at h
        obtain rfl : n = m := by omega
        exact ⟨by omega, hn, hc⟩
    · rw [dif_neg hn] at h
      have := low_spec s n m h
      exact ⟨by omega, this.2⟩
theorem lists_less : ∀ (p t : List UInt8) (c d : UInt8), c < d → p ++ c :: t < p ++ [d]
  | [], _, _, _, h => List.Lex.rel h
  | _ :: p, t, c, d, h => List.Lex.cons (lists_less p t c d h)
theorem above_gt (s r : K) (m : Nat) (h : low s s.size = m + 1) : s ++ r < above s (m + 1) := by
  obtain ⟨_, hm, hc⟩ := low_spec s _ _ h
  show (s ++ r : K).data.toList < (above s (m + 1)).data.toList
  have hlt : s[m] < s[m] + 1 := by
    have h1 := s[m].toNat_lt
    have h2 : s[m].toNat ≠ 255 := fun e => hc (UInt8.toNat_inj.1 (by simpa using e))
    rw [UInt8.lt_iff_toNat_lt, UInt8.toNat_add]
    simp
    omega
  have e1 : (above s (m + 1)).data.toList = s.data.toList.take m ++ [s[m] + 1] := by
    unfold above
    rw [Nat.add_sub_cancel, getElem!_pos s m hm]
    simp
  have hm' : m < s.data.toList.length := by simpa using hm
  have e2 : (s ++ r : K).data.toList = s.data.toList.take m ++ s[m] :: (s.data.toList.drop (m + 1) ++ r.data.toList) := by
    have h3 : s.data.toList = s.data.toList.take m ++ s[m] :: s.data.toList.drop (m + 1) := by
      conv => lhs; rw [← List.take_append_drop m s.data.toList, List.drop_eq_getElem_cons hm']
      rfl
    simp only [ByteArray.data_append, Array.toList_append]
    conv => lhs; rw [h3]
    rw [List.append_assoc, List.cons_append]
  rw [e1, e2]
  exact lists_less _ _ _ _ hlt

set_option maxHeartbeats 1000000 in
set_option maxRecDepth 100000 in
theorem spanBehind_walk (s r : K) (w : World) (hs : s.size < 4611686018427387904) (hr : r.size < 4611686018427387904) : Calls Try.prog 5 #[.string s, .string r] w fun e w' => e = .returned (.bool true) ∧ Below w.heap.size w w' := by
  have h1 := fun W => behind_any s W (by omega)
  have h2 := fun W => rbehind_any s W (by omega)
  unfold behindAns at h1
  rcases Nat.eq_zero_or_pos (low s s.size) with h0 | h0
  · simp only [h0, if_true] at h1 h2
    have H1 := Lib.hid h1; clear h1
    have H2 := Lib.hid h2; clear h2
    clear h0
    go_enter Try.func5, Try.ntmps5
    go_wp2_with fail
    refine (H1.out _).mono ?_
    rintro e w1 ⟨rfl, hb1⟩
    have HB1 := Lib.hid hb1; clear hb1
    go_wp2_with fail
    refine (H2.out _).mono ?_
    rintro e w2 ⟨rfl, hb2⟩
    have HB2 := Lib.hid hb2; clear hb2
    go_wp2_with fail
    refine (awake_any _).mono ?_
    rintro e w3 ⟨rfl, hb3⟩
    have HB3 := Lib.hid hb3; clear hb3
    go_wp2_with fail
    go_ret
    exact ⟨rfl, HB1.out.trans ((HB2.out.mono HB1.out.size).trans (HB3.out.mono (Nat.le_trans HB1.out.size HB2.out.size)))⟩
  · obtain ⟨m, hm⟩ : ∃ m, low s s.size = m + 1 := ⟨low s s.size - 1, by omega⟩
    have g1 := above_gt s r m hm
    have g2 : s < above s (m + 1) := by
      have h := above_gt s ⟨#[]⟩ m hm
      rwa [show s ++ (⟨#[]⟩ : K) = s from by apply key_ext; simp] at h
    simp only [hm, if_neg (Nat.succ_ne_zero m)] at h1 h2
    generalize above s (m + 1) = b at h1 h2 g1 g2
    have H1 := Lib.hid h1; clear h1
    have H2 := Lib.hid h2; clear h2
    clear h0 hm
    go_enter Try.func5, Try.ntmps5
    go_wp2_with fail
    refine (H1.out _).mono ?_
    rintro e w1 ⟨rfl, hb1⟩
    have HB1 := Lib.hid hb1; clear hb1
    go_wp2_with fail
    refine (H2.out _).mono ?_
    rintro e w2 ⟨rfl, hb2⟩
    have HB2 := Lib.hid hb2; clear hb2
    go_wp2_with fail
    refine (awake_any _).mono ?_
    rintro e w3 ⟨rfl, hb3⟩
    have HB3 := Lib.hid hb3; clear hb3
    go_wp2_with fail
    go_ret
    exact ⟨rfl, HB1.out.trans ((HB2.out.mono HB1.out.size).trans (HB3.out.mono (Nat.le_trans HB1.out.size HB2.out.size)))⟩
end Go.Proofs.Ytmfpidihcjnnkaa

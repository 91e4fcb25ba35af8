/- The walk of the law CodeBack. -/
import Derived.Test.YtnjkceekiipobaaAwk
namespace Go.Proofs.Ytnjkceekiipobaa
open Go.RowKit
attribute [local go_sem] same_str

theorem textAns_encT {s : List UInt8} (hs : s.length ≤ 65536) (t : List UInt8) : textAns (encT s ++ t) = (s, (encT s).length, 0) := by
  have hn := numAns_enc (n := s.length) (by omega) (s ++ t)
  unfold textAns
  rw [show encT s ++ t = enc s.length ++ (s ++ t) by rw [encT, List.append_assoc], hn, if_neg (by simp), if_neg (by simp; omega), if_neg (by simp)]
  simp [encT]
theorem textAns_cut {s : List UInt8} (hs : s.length ≤ 65536) {k : Nat} (hk : k < (encT s).length) : textAns ((encT s).take k) = ([], 0, 3) := by
  unfold textAns
  by_cases h : k < (enc s.length).length
  · have hn := numAns_cut (n := s.length) (by omega) h
    rw [show (encT s).take k = (enc s.length).take k by rw [encT, List.take_append_of_le_length (by omega)], hn, if_pos (by simp)]
  · obtain ⟨j, rfl⟩ : ∃ j, k = (enc s.length).length + j := ⟨k - (enc s.length).length, by omega⟩
    have hj : j < s.length := by rw [encT, List.length_append] at hk; omega
    have hn := numAns_enc (n := s.length) (by omega) (s.take j)
    rw [show (encT s).take ((enc s.length).length + j) = enc s.length ++ s.take j by rw [encT, List.take_length_add_append], hn, if_neg (by simp), if_neg (by simp; omega), if_pos (by simp; omega)]

set_option maxHeartbeats 8000000 in
set_option maxRecDepth 100000 in
theorem codeBack_walk (n : Int) (hn : -9223372036854775808 ≤ n ∧ n < 9223372036854775808) (s : ByteArray) (hs : s.size ≤ 140737488351232) (t : List UInt8) (vt : Value) (cut : Nat) (hcu : cut < 65536) (w : World) (hvt : RdB w w.heap.size vt t) (hlt : t.length ≤ 140737488351232) :
    Calls Try.prog 6 #[.int .i64 n, .string s, vt, .int .u16 (cut : Int)] w fun e w' => e = .returned (.bool true) ∧ Below w.heap.size w w' := by
  obtain ⟨A0, c0, rfl, hc0, _⟩ := hvt.at
  have HB := Lib.hid hvt; clear hvt
  have h1 := put_any [] (.slice none 0 0) n w hn.2 (Rd.nil _ _) (by simp)
  have h2 := fun W => putText_any [] (.slice none 0 0) s W (Rd.nil _ _) (by simp) hs
  by_cases hneg : n < 0
  · rw [putAns, if_pos hneg] at h1
    have H1 := Lib.hid h1; clear h1
    by_cases hbig : s.size > 65536
    · have h2b := h2
      rw [putTAns, if_pos hbig] at h2b
      have H2 := Lib.hid h2b; clear h2 h2b
      go_enter Try.func6, Try.ntmps6
      go_wp2_with fail
      refine H1.out.mono ?_
      rintro e w1 ⟨v1, rfl, hr1, hb1⟩
      have HW1 := Lib.hid hb1
      have HR1 := Lib.hid hr1
      clear hb1 hr1
      go_wp2_with fail
      refine (awake_any _).mono ?_
      rintro e w2 ⟨rfl, hb2⟩
      have HW2 := Lib.hid (HW1.out.trans (hb2.mono HW1.out.size))
      have HR2 := Lib.hid (HR1.out.next hb2)
      clear hb2 HR1 HW1
      obtain ⟨A1, c1, hv1, hc1, _⟩ := RdB.at HR2.out
      subst hv1
      go_wp2_with fail
      have HW6 := Lib.hid HW2.out
      refine (H2.out _).mono ?_
      rintro e w7 ⟨v7, rfl, hr7, hb7⟩
      have HW7 := Lib.hid (HW6.out.trans (hb7.mono HW6.out.size))
      clear hb7 hr7
      go_wp2_with fail
      refine (awake_any _).mono ?_
      rintro e w8 ⟨rfl, hb8⟩
      have HW8 := Lib.hid (HW7.out.trans (hb8.mono HW7.out.size))
      clear hb8
      go_wp2_with fail
      go_ret
      exact ⟨rfl, HW8.out⟩
    · have h2b := h2
      rw [putTAns, if_neg hbig, List.nil_append] at h2b
      have hel := enc_len9 (n := s.data.toList.length) (by rw [data_len]; omega)
      have hep := enc_pos s.data.toList.length
      have hzl : (encT s.data.toList).length = (enc s.data.toList.length).length + s.size := by rw [encT, List.length_append, data_len]
      have htx := fun W v (h : RdB W W.heap.size v (encT s.data.toList ++ t)) => text_any (encT s.data.toList ++ t) v W h (by rw [List.length_append]; omega)
      rw [textAns_encT (by rw [data_len]; omega) t] at htx
      obtain ⟨m, hmd⟩ : ∃ m, m = cut % (encT s.data.toList).length := ⟨_, rfl⟩
      have hm : m < (encT s.data.toList).length := by rw [hmd]; exact Nat.mod_lt _ (by omega)
      have htc := fun W v (h : RdB W W.heap.size v ((encT s.data.toList).take m)) => text_any ((encT s.data.toList).take m) v W h (by rw [List.length_take]; omega)
      rw [textAns_cut (by rw [data_len]; omega) hm] at htc
      simp only [textVal] at htx htc
      have hremt : (cut : Int).tmod ((encT s.data.toList).length : Int) = (m : Int) := by rw [Int.tmod_eq_emod_of_nonneg (by omega), hmd]; simp
      have hstr : strB s.data.toList = s := rfl
      rw [hstr] at htx
      clear hmd hel hstr
      generalize encT s.data.toList = z at h2b hzl htx hm htc hremt
      have hzs : 1 ≤ z.length ∧ z.length ≤ 65545 := by have := enc_len9 (n := s.data.toList.length) (by rw [data_len]; omega); omega
      have hzs1 := hzs.1
      have hzs2 := hzs.2
      clear hzs hzl hep
      have hmz : m ≤ z.length := by omega
      have hmi : (m : Int) ≤ (z.length : Int) := by omega
      have hzi : ¬ ((z.length : Int) = 0) := by omega
      have H2 := Lib.hid h2b; clear h2 h2b
      have HTEXT := Lib.hid htx; clear htx
      have HTCUT := Lib.hid htc; clear htc
      go_enter Try.func6, Try.ntmps6
      go_wp2_with fail
      refine H1.out.mono ?_
      rintro e w1 ⟨v1, rfl, hr1, hb1⟩
      have HW1 := Lib.hid hb1
      have HR1 := Lib.hid hr1
      clear hb1 hr1
      go_wp2_with fail
      refine (awake_any _).mono ?_
      rintro e w2 ⟨rfl, hb2⟩
      have HW2 := Lib.hid (HW1.out.trans (hb2.mono HW1.out.size))
      have HR2 := Lib.hid (HR1.out.next hb2)
      clear hb2 HR1 HW1
      obtain ⟨A1, c1, hv1, hc1, _⟩ := RdB.at HR2.out
      subst hv1
      go_wp2_with fail
      have HW6 := Lib.hid HW2.out
      refine (H2.out _).mono ?_
      rintro e w7 ⟨v7, rfl, hr7, hb7⟩
      have HW7 := Lib.hid (HW6.out.trans (hb7.mono HW6.out.size))
      have HR7 := Lib.hid hr7
      clear hb7 hr7
      obtain ⟨A7, c7, hv7, hc7, _⟩ := RdB.at HR7.out
      subst hv7
      go_wp2_with (at_builtin; go_must (refine wpList_addB rfl _ _ rfl w7.heap.size (.slice (some ⟨w7.heap.size, 0, none⟩) 0 0) [] rfl ?bp1 w7.heap.size (.slice A7 z.length c7) z rfl ?bp2 (by simp; omega) (by simp) w7.heap.size w7 ?bp3 (Nat.le_refl _) ?bp4))
      case bp1 => exact Own.empty _ _ (Nat.le_refl _)
      case bp2 => exact HR7.out.below ((Below.refl _ w7).alloc (Nat.le_refl _) _) (Nat.le_refl _)
      case bp3 => exact (Below.refl _ w7).alloc (Nat.le_refl _) _
      intro A8 c8 w8 ho8 hb8 hz8
      go_wp2_with (at_builtin; go_must (refine wpList_addB rfl _ _ rfl w7.heap.size (.slice A8 z.length c8) z rfl ?bp5 w7.heap.size (.slice A0 t.length c0) t rfl ?bp6 (by omega) hz8.out w7.heap.size w7 hb8.out (Nat.le_refl _) ?bp7))
      case bp5 => simpa using ho8.out
      case bp6 => exact (HB.out.next HW7.out).below hb8.out (Nat.le_refl _)
      intro A9 c9 w9 ho9 hb9 hz9
      have HTX := Lib.hid (HTEXT.out w9 _ ho9.out.rdB)
      (try simp only [List.length_append] at HTX)
      go_wp2_with fail
      refine HTX.out.mono ?_
      rintro e w10 ⟨rfl, hb10⟩
      have hb70 : Below w7.heap.size w7 w10 := hb9.out.trans (hb10.mono hz9.out)
      have HW10 := Lib.hid (HW7.out.trans (hb70.mono HW7.out.size))
      have HR10 := Lib.hid (Rd.take (HR7.out.next hb70) m hmz)
      clear hb10 hb70
      go_wp2_with fail
      refine (HTCUT.out w10 _ HR10.out).mono ?_
      rintro e w11 ⟨rfl, hb11⟩
      have HW11 := Lib.hid (HW10.out.trans (hb11.mono HW10.out.size))
      clear hb11
      go_wp2_with fail
      refine (awake_any _).mono ?_
      rintro e w12 ⟨rfl, hb12⟩
      have HW12 := Lib.hid (HW11.out.trans (hb12.mono HW11.out.size))
      clear hb12
      go_wp2_with fail
      go_ret
      exact ⟨by first | rfl | simp, HW12.out⟩
  · rw [putAns, if_neg hneg, List.nil_append] at h1
    obtain ⟨nn, rfl⟩ : ∃ nn : Nat, n = (nn : Int) := ⟨n.toNat, by omega⟩
    rw [Int.toNat_natCast] at h1
    have hy1 := enc_pos nn
    have hy9 := enc_len9 (n := nn) (by omega)
    have hnum := fun W v (h : RdB W W.heap.size v (enc nn ++ t)) => num_any (enc nn ++ t) v W h (by simp; omega)
    rw [numAns_enc (n := nn) (by omega) t] at hnum
    obtain ⟨k, hkd⟩ : ∃ k, k = cut % (enc nn).length := ⟨_, rfl⟩
    have hk : k < (enc nn).length := by rw [hkd]; exact Nat.mod_lt _ (by omega)
    have hcut := fun W v (h : RdB W W.heap.size v ((enc nn).take k)) => num_any ((enc nn).take k) v W h (by simp; omega)
    rw [numAns_cut (n := nn) (by omega) hk] at hcut
    simp only [numVal] at hnum hcut
    have hrem : (cut : Int).tmod ((enc nn).length : Int) = (k : Int) := by rw [Int.tmod_eq_emod_of_nonneg (by omega), hkd]; simp
    clear hkd
    generalize enc nn = y at h1 hy1 hy9 hnum hk hcut hrem
    have hky : k ≤ y.length := by omega
    have hki : (k : Int) ≤ (y.length : Int) := by omega
    have hyi : ¬ ((y.length : Int) = 0) := by omega
    have hyi2 : (1 : Int) ≤ (y.length : Int) := by omega
    have H1 := Lib.hid h1; clear h1
    have HNUM := Lib.hid hnum; clear hnum
    have HCUT := Lib.hid hcut; clear hcut
    by_cases hbig : s.size > 65536
    · have h2b := h2
      rw [putTAns, if_pos hbig] at h2b
      have H2 := Lib.hid h2b; clear h2 h2b
      go_enter Try.func6, Try.ntmps6
      go_wp2_with fail
      refine H1.out.mono ?_
      rintro e w1 ⟨v1, rfl, hr1, hb1⟩
      have HW1 := Lib.hid hb1
      have HR1 := Lib.hid hr1
      clear hb1 hr1
      go_wp2_with fail
      refine (awake_any _).mono ?_
      rintro e w2 ⟨rfl, hb2⟩
      have HW2 := Lib.hid (HW1.out.trans (hb2.mono HW1.out.size))
      have HR2 := Lib.hid (HR1.out.next hb2)
      clear hb2 HR1 HW1
      obtain ⟨A1, c1, hv1, hc1, _⟩ := RdB.at HR2.out
      subst hv1
      go_wp2_with (at_builtin; go_must (refine wpList_addB rfl _ _ rfl w2.heap.size (.slice (some ⟨w2.heap.size, 0, none⟩) 0 0) [] rfl ?aq1 w2.heap.size (.slice A1 y.length c1) y rfl ?aq2 (by simp; omega) (by simp) w2.heap.size w2 ?aq3 (Nat.le_refl _) ?aq4))
      case aq1 => exact Own.empty _ _ (Nat.le_refl _)
      case aq2 => exact HR2.out.below ((Below.refl _ w2).alloc (Nat.le_refl _) _) (Nat.le_refl _)
      case aq3 => exact (Below.refl _ w2).alloc (Nat.le_refl _) _
      intro A3 c3 w3 ho3 hb3 hz3
      go_wp2_with (at_builtin; go_must (refine wpList_addB rfl _ _ rfl w2.heap.size (.slice A3 y.length c3) y rfl ?aq5 w2.heap.size (.slice A0 t.length c0) t rfl ?aq6 (by omega) hz3.out w2.heap.size w2 hb3.out (Nat.le_refl _) ?aq7))
      case aq5 => simpa using ho3.out
      case aq6 => exact (HB.out.next HW2.out).below hb3.out (Nat.le_refl _)
      intro A4 c4 w4 ho4 hb4 hz4
      have HNM := Lib.hid (HNUM.out w4 _ ho4.out.rdB)
      (try simp only [List.length_append] at HNM)
      go_wp2_with fail
      refine HNM.out.mono ?_
      rintro e w5 ⟨rfl, hb5⟩
      have hb25 : Below w2.heap.size w2 w5 := hb4.out.trans (hb5.mono hz4.out)
      have HW5 := Lib.hid (HW2.out.trans (hb25.mono HW2.out.size))
      have HR5 := Lib.hid (Rd.take (HR2.out.next hb25) k hky)
      clear hb5 hb25
      go_wp2_with fail
      refine (HCUT.out w5 _ HR5.out).mono ?_
      rintro e w6 ⟨rfl, hb6⟩
      have HW6 := Lib.hid (HW5.out.trans (hb6.mono HW5.out.size))
      clear hb6 HW5 HNM HR5
      go_wp2_with fail
      refine (H2.out _).mono ?_
      rintro e w7 ⟨v7, rfl, hr7, hb7⟩
      have HW7 := Lib.hid (HW6.out.trans (hb7.mono HW6.out.size))
      clear hb7 hr7
      go_wp2_with fail
      refine (awake_any _).mono ?_
      rintro e w8 ⟨rfl, hb8⟩
      have HW8 := Lib.hid (HW7.out.trans (hb8.mono HW7.out.size))
      clear hb8
      go_wp2_with fail
      go_ret
      exact ⟨rfl, HW8.out⟩
    · have h2b := h2
      rw [putTAns, if_neg hbig, List.nil_append] at h2b
      have hel := enc_len9 (n := s.data.toList.length) (by rw [data_len]; omega)
      have hep := enc_pos s.data.toList.length
      have hzl : (encT s.data.toList).length = (enc s.data.toList.length).length + s.size := by rw [encT, List.length_append, data_len]
      have htx := fun W v (h : RdB W W.heap.size v (encT s.data.toList ++ t)) => text_any (encT s.data.toList ++ t) v W h (by rw [List.length_append]; omega)
      rw [textAns_encT (by rw [data_len]; omega) t] at htx
      obtain ⟨m, hmd⟩ : ∃ m, m = cut % (encT s.data.toList).length := ⟨_, rfl⟩
      have hm : m < (encT s.data.toList).length := by rw [hmd]; exact Nat.mod_lt _ (by omega)
      have htc := fun W v (h : RdB W W.heap.size v ((encT s.data.toList).take m)) => text_any ((encT s.data.toList).take m) v W h (by rw [List.length_take]; omega)
      rw [textAns_cut (by rw [data_len]; omega) hm] at htc
      simp only [textVal] at htx htc
      have hremt : (cut : Int).tmod ((encT s.data.toList).length : Int) = (m : Int) := by rw [Int.tmod_eq_emod_of_nonneg (by omega), hmd]; simp
      have hstr : strB s.data.toList = s := rfl
      rw [hstr] at htx
      clear hmd hel hstr
      generalize encT s.data.toList = z at h2b hzl htx hm htc hremt
      have hzs : 1 ≤ z.length ∧ z.length ≤ 65545 := by have := enc_len9 (n := s.data.toList.length) (by rw [data_len]; omega); omega
      have hzs1 := hzs.1
      have hzs2 := hzs.2
      clear hzs hzl hep
      have hmz : m ≤ z.length := by omega
      have hmi : (m : Int) ≤ (z.length : Int) := by omega
      have hzi : ¬ ((z.length : Int) = 0) := by omega
      have H2 := Lib.hid h2b; clear h2 h2b
      have HTEXT := Lib.hid htx; clear htx
      have HTCUT := Lib.hid htc; clear htc
      go_enter Try.func6, Try.ntmps6
      go_wp2_with fail
      refine H1.out.mono ?_
      rintro e w1 ⟨v1, rfl, hr1, hb1⟩
      have HW1 := Lib.hid hb1
      have HR1 := Lib.hid hr1
      clear hb1 hr1
      go_wp2_with fail
      refine (awake_any _).mono ?_
      rintro e w2 ⟨rfl, hb2⟩
      have HW2 := Lib.hid (HW1.out.trans (hb2.mono HW1.out.size))
      have HR2 := Lib.hid (HR1.out.next hb2)
      clear hb2 HR1 HW1
      obtain ⟨A1, c1, hv1, hc1, _⟩ := RdB.at HR2.out
      subst hv1
      go_wp2_with (at_builtin; go_must (refine wpList_addB rfl _ _ rfl w2.heap.size (.slice (some ⟨w2.heap.size, 0, none⟩) 0 0) [] rfl ?ar1 w2.heap.size (.slice A1 y.length c1) y rfl ?ar2 (by simp; omega) (by simp) w2.heap.size w2 ?ar3 (Nat.le_refl _) ?ar4))
      case ar1 => exact Own.empty _ _ (Nat.le_refl _)
      case ar2 => exact HR2.out.below ((Below.refl _ w2).alloc (Nat.le_refl _) _) (Nat.le_refl _)
      case ar3 => exact (Below.refl _ w2).alloc (Nat.le_refl _) _
      intro A3 c3 w3 ho3 hb3 hz3
      go_wp2_with (at_builtin; go_must (refine wpList_addB rfl _ _ rfl w2.heap.size (.slice A3 y.length c3) y rfl ?ar5 w2.heap.size (.slice A0 t.length c0) t rfl ?ar6 (by omega) hz3.out w2.heap.size w2 hb3.out (Nat.le_refl _) ?ar7))
      case ar5 => simpa using ho3.out
      case ar6 => exact (HB.out.next HW2.out).below hb3.out (Nat.le_refl _)
      intro A4 c4 w4 ho4 hb4 hz4
      have HNM := Lib.hid (HNUM.out w4 _ ho4.out.rdB)
      (try simp only [List.length_append] at HNM)
      go_wp2_with fail
      refine HNM.out.mono ?_
      rintro e w5 ⟨rfl, hb5⟩
      have hb25 : Below w2.heap.size w2 w5 := hb4.out.trans (hb5.mono hz4.out)
      have HW5 := Lib.hid (HW2.out.trans (hb25.mono HW2.out.size))
      have HR5 := Lib.hid (Rd.take (HR2.out.next hb25) k hky)
      clear hb5 hb25
      go_wp2_with fail
      refine (HCUT.out w5 _ HR5.out).mono ?_
      rintro e w6 ⟨rfl, hb6⟩
      have HW6 := Lib.hid (HW5.out.trans (hb6.mono HW5.out.size))
      clear hb6 HW5 HNM HR5
      go_wp2_with fail
      refine (H2.out _).mono ?_
      rintro e w7 ⟨v7, rfl, hr7, hb7⟩
      have HW7 := Lib.hid (HW6.out.trans (hb7.mono HW6.out.size))
      have HR7 := Lib.hid hr7
      clear hb7 hr7
      obtain ⟨A7, c7, hv7, hc7, _⟩ := RdB.at HR7.out
      subst hv7
      go_wp2_with (at_builtin; go_must (refine wpList_addB rfl _ _ rfl w7.heap.size (.slice (some ⟨w7.heap.size, 0, none⟩) 0 0) [] rfl ?br1 w7.heap.size (.slice A7 z.length c7) z rfl ?br2 (by simp; omega) (by simp) w7.heap.size w7 ?br3 (Nat.le_refl _) ?br4))
      case br1 => exact Own.empty _ _ (Nat.le_refl _)
      case br2 => exact HR7.out.below ((Below.refl _ w7).alloc (Nat.le_refl _) _) (Nat.le_refl _)
      case br3 => exact (Below.refl _ w7).alloc (Nat.le_refl _) _
      intro A8 c8 w8 ho8 hb8 hz8
      go_wp2_with (at_builtin; go_must (refine wpList_addB rfl _ _ rfl w7.heap.size (.slice A8 z.length c8) z rfl ?br5 w7.heap.size (.slice A0 t.length c0) t rfl ?br6 (by omega) hz8.out w7.heap.size w7 hb8.out (Nat.le_refl _) ?br7))
      case br5 => simpa using ho8.out
      case br6 => exact (HB.out.next HW7.out).below hb8.out (Nat.le_refl _)
      intro A9 c9 w9 ho9 hb9 hz9
      have HTX := Lib.hid (HTEXT.out w9 _ ho9.out.rdB)
      (try simp only [List.length_append] at HTX)
      go_wp2_with fail
      refine HTX.out.mono ?_
      rintro e w10 ⟨rfl, hb10⟩
      have hb70 : Below w7.heap.size w7 w10 := hb9.out.trans (hb10.mono hz9.out)
      have HW10 := Lib.hid (HW7.out.trans (hb70.mono HW7.out.size))
      have HR10 := Lib.hid (Rd.take (HR7.out.next hb70) m hmz)
      clear hb10 hb70
      go_wp2_with fail
      refine (HTCUT.out w10 _ HR10.out).mono ?_
      rintro e w11 ⟨rfl, hb11⟩
      have HW11 := Lib.hid (HW10.out.trans (hb11.mono HW10.out.size))
      clear hb11
      go_wp2_with fail
      refine (awake_any _).mono ?_
      rintro e w12 ⟨rfl, hb12⟩
      have HW12 := Lib.hid (HW11.out.trans (hb12.mono HW11.out.size))
      clear hb12
      go_wp2_with fail
      go_ret
      exact ⟨by first | rfl | simp, HW12.out⟩
end Go.Proofs.Ytnjkceekiipobaa

/- The frame layer's writer: spans. -/
import Derived.Test.YtiijcikdlemndaaFWr
namespace Go.Proofs.Ytiijcikdlemndaa
open Go.RowKit
attribute [local go_sem] less_eq same_eq le_eq ge_eq gt_eq

theorem spanB_len (s : K × K) (h : s.1.size ≤ 65536 ∧ s.2.size ≤ 65536) : (spanB s).length ≤ 131090 := by
  have h1 := encT_len s.1 h.1
  have h2 := encT_len s.2 h.2
  rw [spanB, List.length_append]; omega
theorem txts_two (x y : K) : txts [x, y] = spanB (x, y) := by simp [txts, spanB]
theorem encs_one (n : Int) : encs [n] = enc n.toNat := by simp [encs]

set_option maxHeartbeats 2000000 in
set_option maxRecDepth 100000 in
theorem fspans_any (l : List (K × K)) (hs : ∀ s ∈ l, s.1.size ≤ 65536 ∧ s.2.size ≤ 65536) (hl : l.length ≤ 4096) (v : Value) (base p : Nat) (m : List UInt8) (w : World) (hw : FW w base p m) (hv : Rd cellsS 2 w base v l) (hm : m.length ≤ 100000000000000) :
    Calls Try.prog 47 #[.pointer (some ⟨p, 0, none⟩), v] w fun x w' => x = .returned (.pointer (some ⟨p, 0, none⟩)) ∧ FW w' base p (m ++ listB spanB l) ∧ Below base w w' ∧ Keeps w w' := by
  obtain ⟨A, c, rfl, hc, hi⟩ := RdP.at hv
  have hn := fnums_any [(l.length : Int)] (by simp; omega) (by simp) (.slice (some ⟨w.heap.size, 0, none⟩) 1 1) base p m (w.alloc (.cells #[.int .i64 (l.length : Int)] 3)) (hw.more ((Below.refl _ _).alloc (Nat.le_refl _) _) (Nat.le_refl _)) (by rw [World.size_alloc]; exact RdI.one w _) (by omega)
  rw [encs_one, Int.toNat_natCast] at hn
  have hR : m ++ listB spanB l = (m ++ enc l.length) ++ l.flatMap spanB := by simp [listB]
  rw [hR]
  have hel := enc_len9 (n := l.length) (by omega)
  have hsz := hw.size
  have HB0 := Lib.hid (show Below base w (w.alloc (.cells #[.int .i64 (l.length : Int)] 3)) from (Below.refl _ _).alloc hsz _)
  have hml : (m ++ enc l.length).length ≤ m.length + 9 := by rw [List.length_append]; omega
  generalize m ++ enc l.length = m1 at hn hml ⊢
  have HN := Lib.hid hn; clear hn hw hR hel hv
  have HI := Lib.hid hi; clear hi
  have HS := Lib.hid hs; clear hs
  go_enter Try.func47, Try.ntmps47
  go_wp2_with fail
  refine HN.out.mono ?_
  rintro e w1 ⟨rfl, hf1, hb1, hk1⟩
  have HF1 := Lib.hid hf1; clear hf1
  have HB1 := Lib.hid (HB0.out.trans hb1); clear hb1
  have HK1 := Lib.hid ((Keeps.alloc _ _).trans hk1); clear hk1
  go_wp2_with fail
  go_loopw [14] (fun iv wr => ∃ (i : Nat) (m' : List UInt8), i ≤ l.length ∧ iv = .int .i64 i ∧ FW wr base p m' ∧ m' = m1 ++ (l.take i).flatMap spanB ∧ m'.length ≤ m1.length + i * 131090 ∧ Below base w wr ∧ Keeps w wr) (fun iv _ => l.length - (intOf iv).toNat)
  case atStart => exact ⟨0, m1, Nat.zero_le _, rfl, HF1.out, by simp, by omega, HB1.out, HK1.out⟩
  case round =>
    obtain ⟨i, m', hi, rfl, hf, hme, hmln, hbw, hk⟩ := hrel
    have hsz2 := hf.size
    have HF := Lib.hid hf; clear hf
    have HME := Lib.hid hme; clear hme
    have HBW := Lib.hid hbw; clear hbw
    have HK := Lib.hid hk; clear hk
    by_cases hlt : i < l.length
    · obtain ⟨b, o, rfl, hbB, k0, k1⟩ := HI.out i hlt
      have hks := HS.out l[i] (List.getElem_mem hlt)
      rw [← HBW.out.cell (p := ⟨b, _, none⟩) hbB] at k0 k1
      have hnew : m' ++ spanB l[i] = m1 ++ (l.take (i + 1)).flatMap spanB := by
        rw [HME.out, List.take_add_one, List.getElem?_eq_getElem hlt, List.flatMap_append, List.append_assoc]; simp
      have hlen := spanB_len l[i] hks
      generalize l[i] = z at k0 k1 hks hnew hlen
      obtain ⟨x, y⟩ := z
      simp only at k0 k1 hks
      have ht := ftexts_any [x, y] (by simp; exact hks) 2 rfl (by omega) (wr.heap.size + 1) base p m' ((wr.alloc (.cells #[.string x, .string y] 83)).alloc (.cells #[.string x, .string y] 9))
        (HF.out.more ((((Below.refl _ _).alloc (Nat.le_refl _) _)).alloc (by simp) _) (Nat.le_refl _)) (by have h := Whole.fresh (wr.alloc (.cells #[.string x, .string y] 83)) 9 [.string x, .string y]; rw [World.size_alloc] at h; exact h) (by omega)
      rw [txts_two] at ht
      generalize spanB (x, y) = R at ht hnew hlen
      have HT := Lib.hid ht; clear ht
      have HNEW := Lib.hid hnew; clear hnew hks
      have HB2 := Lib.hid (show Below base w ((wr.alloc (.cells #[.string x, .string y] 83)).alloc (.cells #[.string x, .string y] 9)) from (HBW.out.alloc hsz2 _).alloc (by rw [World.size_alloc]; omega) _)
      have HK2 := Lib.hid (show Keeps w ((wr.alloc (.cells #[.string x, .string y] 83)).alloc (.cells #[.string x, .string y] 9)) from (HK.out.trans (Keeps.alloc _ _)).trans (Keeps.alloc _ _))
      go_wp2_with fail
      refine HT.out.mono ?_
      rintro e w2 ⟨rfl, hf2, hb2, hk2⟩
      have HF2 := Lib.hid hf2
      have HB3 := Lib.hid (HB2.out.trans hb2)
      have HK3 := Lib.hid (HK2.out.trans hk2)
      clear hf2 hb2 hk2 k0 k1
      go_wp2_with fail
      go_roundw
      case rel => exact ⟨i + 1, m' ++ R, by omega, by go_num, HF2.out, HNEW.out, by rw [List.length_append]; omega, HB3.out, HK3.out⟩
      case measure => simp [intOf]; omega
    · obtain rfl : i = l.length := by omega
      have hf := HF.out
      rw [HME.out, List.take_length] at hf
      have HF3 := Lib.hid hf; clear hf
      go_wp2_with fail
      go_ret
      exact ⟨rfl, HF3.out, HBW.out, HK.out⟩
end Go.Proofs.Ytiijcikdlemndaa

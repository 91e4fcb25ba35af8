/- The walk of the law CodeSplits. -/
import Derived.Test.YtnjkceekiipobaaAwk
namespace Go.Proofs.Ytnjkceekiipobaa
open Go.RowKit
attribute [local go_sem] same_str

theorem encs_cons (n : Int) (r : List Int) : encs (n :: r) = enc n.toNat ++ encs r := rfl
/-- numbers that were laid are split again -/
theorem splitGo_encs : ∀ (l acc : List Int), (∀ n ∈ l, 0 ≤ n ∧ n < 9223372036854775808) → splitGo l.length (encs l) acc = (acc ++ l, 0)
  | [], acc, _ => by simp [splitGo, encs]
  | n :: r, acc, h => by
    have hn := h n (by simp)
    have ha := numAns_enc (n := n.toNat) (by omega) (encs r)
    rw [List.length_cons, splitGo, encs_cons, ha, if_neg (by simp)]
    simp only [List.drop_left]
    rw [splitGo_encs r _ (fun m hm => h m (by simp [hm])), show ((n.toNat : Nat) : Int) = n by omega]
    simp
/-- the other way round -/
theorem splitGo_back : ∀ (k : Nat) (l : List UInt8) (acc y : List Int), splitGo k l acc = (y, 0) → ∃ z, y = acc ++ z ∧ z.length = k ∧ l = encs z ∧ ∀ n ∈ z, 0 ≤ n ∧ n < 9223372036854775808
  | 0, l, acc, y, h => by
    rw [splitGo] at h
    split at h
    · simp at h
    · simp only [Prod.mk.injEq, and_true] at h
      refine ⟨[], by simp [h], rfl, ?_, by simp⟩
      have : l = [] := List.eq_nil_of_length_eq_zero (by omega)
      rw [this]; rfl
  | k + 1, l, acc, y, h => by
    rw [splitGo] at h
    have honce := fun (m u : Nat) (h : numAns l = (m, u, 0)) => numAns_once h
    generalize numAns l = x at h honce
    obtain ⟨n, u, e⟩ := x
    simp only at h
    by_cases he : e = 0
    · subst he
      rw [if_neg (by simp)] at h
      obtain ⟨hu, hu9, _, s, rfl⟩ := honce n u rfl
      rw [hu, List.drop_left] at h
      obtain ⟨z, h1, h2, h3, h4⟩ := splitGo_back k s _ y h
      refine ⟨(n : Int) :: z, by rw [h1]; simp, by simp [h2], by rw [encs_cons, h3]; simp, fun m hm => ?_⟩
      rcases List.mem_cons.1 hm with rfl | hm
      · have := enc_lt (n := n) (by omega); omega
      · exact h4 m hm
    · rw [if_pos he] at h
      simp only [Prod.mk.injEq] at h
      exact absurd h.2 he
theorem numsAns_ok {l : List Int} (h : (numsAns l).2 = 0) (hr : ∀ n ∈ l, n < 9223372036854775808) : numsAns l = (encs l, 0) ∧ splitAns (encs l) (l.length : Int) = (l, 0) ∧ l.length ≤ 4096 := by
  unfold numsAns at h ⊢
  split at h
  · simp at h
  · rename_i hl
    split at h
    · simp at h
    · rename_i ha
      rw [if_neg hl, if_neg ha]
      refine ⟨rfl, ?_, by omega⟩
      rw [splitAns, if_neg (by omega), Int.toNat_natCast, splitGo_encs l [] fun n hn => ⟨?_, hr n hn⟩]
      · simp
      · simp only [List.any_eq_true, decide_eq_true_eq, not_exists, not_and] at ha
        have := ha n hn; omega
theorem splitAns_ok {b : List UInt8} {k : Nat} {y : List Int} (hk : k ≤ 255) (h : splitAns b (k : Int) = (y, 0)) : numsAns y = (b, 0) ∧ y.length = k ∧ ∀ n ∈ y, n < 9223372036854775808 := by
  rw [splitAns, if_neg (by omega), Int.toNat_natCast] at h
  obtain ⟨z, h1, h2, h3, h4⟩ := splitGo_back k b [] y h
  rw [List.nil_append] at h1
  subst h1
  refine ⟨?_, h2, fun n hn => (h4 n hn).2⟩
  rw [numsAns, if_neg (by omega), if_neg, h3]
  simp only [List.any_eq_true, decide_eq_true_eq, not_exists, not_and]
  intro n hn
  have := (h4 n hn).1; omega

set_option maxHeartbeats 4000000 in
set_option maxRecDepth 100000 in
theorem codeSplits_walk (l : List Int) (hr : ∀ n ∈ l, n < 9223372036854775808) (b : List UInt8) (vl vb : Value) (k : Nat) (hk : k ≤ 255) (w : World) (hvl : RdI w w.heap.size vl l) (hvb : RdB w w.heap.size vb b)
    (hll : l.length ≤ 17592186043904) (hlb : b.length ≤ 140737488351232) :
    Calls Try.prog 8 #[vl, vb, .int .u8 (k : Int)] w fun e w' => e = .returned (.bool true) ∧ Below w.heap.size w w' := by
  obtain ⟨A, c, rfl, hc, _⟩ := hvl.at
  obtain ⟨A2, c2, rfl, hc2, _⟩ := hvb.at
  have HL := Lib.hid hvl; clear hvl
  have HB := Lib.hid hvb; clear hvb
  have h1 := fun W (h : RdI W W.heap.size (.slice A l.length c) l) => nums_any l hr _ W h (by omega)
  have h3 := fun W (h : RdB W W.heap.size (.slice A2 b.length c2) b) => split_any b _ (k : Int) W h (by omega)
  have hbk := fun y (h : splitAns b (k : Int) = (y, 0)) => splitAns_ok hk h
  have hok := fun h => numsAns_ok (l := l) h hr
  generalize splitAns b (k : Int) = y at h3 hbk
  obtain ⟨y, ey⟩ := y
  have hki : ((k : Nat) : Int) ≤ 255 := by omega
  have H3 := Lib.hid h3; clear h3
  by_cases he : (numsAns l).2 = 0
  · obtain ⟨hn, hsp, hl4⟩ := hok he
    rw [hn] at h1
    have hs := fun W v (h : RdB W W.heap.size v (encs l)) => split_any (encs l) v (l.length : Int) W h (by have := encs_len l hr; omega)
    rw [hsp] at hs
    generalize encs l = z at h1 hs
    have H1 := Lib.hid h1; clear h1
    have HS := Lib.hid hs; clear hs
    clear hok he hn hsp
    by_cases hey : ey = 0
    · subst hey
      obtain ⟨hny, hyl, hyr⟩ := hbk y rfl
      have hnm := fun W v (h : RdI W W.heap.size v y) => nums_any y hyr v W h (by omega)
      rw [hny] at hnm
      have HN := Lib.hid hnm; clear hnm hbk hny
      have HYL := Lib.hid hyl; clear hyl hyr
      go_enter Try.func8, Try.ntmps8
      go_wp2_with fail
      refine (H1.out w HL.out).mono ?_
      rintro e w1 ⟨v1, rfl, hr1, hb1⟩
      have HW1 := Lib.hid hb1
      have HR1 := Lib.hid hr1
      have HB1 := Lib.hid (HB.out.next hb1)
      have HL1 := Lib.hid (HL.out.next hb1)
      clear hb1 hr1 HB HL
      go_wp2_with fail
      refine (HS.out w1 v1 HR1.out).mono ?_
      rintro e w2 ⟨v2, rfl, hr2, hb2⟩
      have HW2 := Lib.hid (HW1.out.trans (hb2.mono HW1.out.size))
      have HB2 := Lib.hid (HB1.out.next hb2)
      have HL2 := Lib.hid (HL1.out.next hb2)
      have hin := ints_any l l v2 _ w2 hr2 HL2.out (by omega) (by omega)
      rw [decide_eq_true rfl] at hin
      have HI := Lib.hid hin
      clear hb2 hr2 hin HB1 HL1 HW1 HR1
      go_wp2_with fail
      refine HI.out.mono ?_
      rintro e w3 ⟨rfl, hb3⟩
      have HW3 := Lib.hid (HW2.out.trans (hb3.mono HW2.out.size))
      have HB3 := Lib.hid (HB2.out.next hb3)
      clear hb3 HB2 HL2 HW2 HI
      go_wp2_with fail
      refine (H3.out _ HB3.out).mono ?_
      rintro e w4 ⟨v4, rfl, hr4, hb4⟩
      have HW4 := Lib.hid (HW3.out.trans (hb4.mono HW3.out.size))
      have HB4 := Lib.hid (HB3.out.next hb4)
      have HR4 := Lib.hid hr4
      clear hb4 hr4 HB3 HW3
      go_wp2_with fail
      refine (HN.out w4 v4 HR4.out).mono ?_
      rintro e w5 ⟨v5, rfl, hr5, hb5⟩
      have HW5 := Lib.hid (HW4.out.trans (hb5.mono HW4.out.size))
      have HB5 := Lib.hid (HB4.out.next hb5)
      have HR5 := Lib.hid hr5
      clear hb5 hr5 HB4 HW4
      go_wp2_with fail
      refine (awake_any _).mono ?_
      rintro e w6 ⟨rfl, hb6⟩
      have HW6 := Lib.hid (HW5.out.trans (hb6.mono HW5.out.size))
      have hc1 := run_convB (HR5.out.next hb6)
      have hc2 := run_convB (HB5.out.next hb6)
      obtain ⟨A7, c7, hv7, _, _⟩ := RdI.at HR4.out
      subst hv7
      clear hb6
      rw [HYL.out]
      go_wp2_with fail
      go_ret
      exact ⟨by simp, HW6.out⟩
    · clear hbk
      go_enter Try.func8, Try.ntmps8
      go_wp2_with fail
      refine (H1.out w HL.out).mono ?_
      rintro e w1 ⟨v1, rfl, hr1, hb1⟩
      have HW1 := Lib.hid hb1
      have HR1 := Lib.hid hr1
      have HB1 := Lib.hid (HB.out.next hb1)
      have HL1 := Lib.hid (HL.out.next hb1)
      clear hb1 hr1 HB HL
      go_wp2_with fail
      refine (HS.out w1 v1 HR1.out).mono ?_
      rintro e w2 ⟨v2, rfl, hr2, hb2⟩
      have HW2 := Lib.hid (HW1.out.trans (hb2.mono HW1.out.size))
      have HB2 := Lib.hid (HB1.out.next hb2)
      have HL2 := Lib.hid (HL1.out.next hb2)
      have hin := ints_any l l v2 _ w2 hr2 HL2.out (by omega) (by omega)
      rw [decide_eq_true rfl] at hin
      have HI := Lib.hid hin
      clear hb2 hr2 hin HB1 HL1 HW1 HR1
      go_wp2_with fail
      refine HI.out.mono ?_
      rintro e w3 ⟨rfl, hb3⟩
      have HW3 := Lib.hid (HW2.out.trans (hb3.mono HW2.out.size))
      have HB3 := Lib.hid (HB2.out.next hb3)
      clear hb3 HB2 HL2 HW2 HI
      go_wp2_with fail
      refine (H3.out _ HB3.out).mono ?_
      rintro e w4 ⟨v4, rfl, hr4, hb4⟩
      have HW4 := Lib.hid (HW3.out.trans (hb4.mono HW3.out.size))
      clear hb4 hr4
      go_wp2_with fail
      refine (awake_any _).mono ?_
      rintro e w5 ⟨rfl, hb5⟩
      have HW5 := Lib.hid (HW4.out.trans (hb5.mono HW4.out.size))
      clear hb5
      go_wp2_with fail
      go_ret
      exact ⟨rfl, HW5.out⟩
  · clear hok
    generalize numsAns l = z at h1 he
    obtain ⟨z, ez⟩ := z
    simp only at he
    have H1 := Lib.hid h1; clear h1
    by_cases hey : ey = 0
    · subst hey
      obtain ⟨hny, hyl, hyr⟩ := hbk y rfl
      have hnm := fun W v (h : RdI W W.heap.size v y) => nums_any y hyr v W h (by omega)
      rw [hny] at hnm
      have HN := Lib.hid hnm; clear hnm hbk hny
      have HYL := Lib.hid hyl; clear hyl hyr
      go_enter Try.func8, Try.ntmps8
      go_wp2_with fail
      refine (H1.out w HL.out).mono ?_
      rintro e w1 ⟨v1, rfl, hr1, hb1⟩
      have HW3 := Lib.hid hb1
      have HB3 := Lib.hid (HB.out.next hb1)
      clear hb1 hr1
      go_wp2_with fail
      refine (H3.out _ HB3.out).mono ?_
      rintro e w4 ⟨v4, rfl, hr4, hb4⟩
      have HW4 := Lib.hid (HW3.out.trans (hb4.mono HW3.out.size))
      have HB4 := Lib.hid (HB3.out.next hb4)
      have HR4 := Lib.hid hr4
      clear hb4 hr4 HB3 HW3
      go_wp2_with fail
      refine (HN.out w4 v4 HR4.out).mono ?_
      rintro e w5 ⟨v5, rfl, hr5, hb5⟩
      have HW5 := Lib.hid (HW4.out.trans (hb5.mono HW4.out.size))
      have HB5 := Lib.hid (HB4.out.next hb5)
      have HR5 := Lib.hid hr5
      clear hb5 hr5 HB4 HW4
      go_wp2_with fail
      refine (awake_any _).mono ?_
      rintro e w6 ⟨rfl, hb6⟩
      have HW6 := Lib.hid (HW5.out.trans (hb6.mono HW5.out.size))
      have hc1 := run_convB (HR5.out.next hb6)
      have hc2 := run_convB (HB5.out.next hb6)
      obtain ⟨A7, c7, hv7, _, _⟩ := RdI.at HR4.out
      subst hv7
      clear hb6
      rw [HYL.out]
      go_wp2_with fail
      go_ret
      exact ⟨by simp, HW6.out⟩
    · clear hbk
      go_enter Try.func8, Try.ntmps8
      go_wp2_with fail
      refine (H1.out w HL.out).mono ?_
      rintro e w1 ⟨v1, rfl, hr1, hb1⟩
      have HW3 := Lib.hid hb1
      have HB3 := Lib.hid (HB.out.next hb1)
      clear hb1 hr1
      go_wp2_with fail
      refine (H3.out _ HB3.out).mono ?_
      rintro e w4 ⟨v4, rfl, hr4, hb4⟩
      have HW4 := Lib.hid (HW3.out.trans (hb4.mono HW3.out.size))
      clear hb4 hr4
      go_wp2_with fail
      refine (awake_any _).mono ?_
      rintro e w5 ⟨rfl, hb5⟩
      have HW5 := Lib.hid (HW4.out.trans (hb5.mono HW4.out.size))
      clear hb5
      go_wp2_with fail
      go_ret
      exact ⟨rfl, HW5.out⟩
end Go.Proofs.Ytnjkceekiipobaa

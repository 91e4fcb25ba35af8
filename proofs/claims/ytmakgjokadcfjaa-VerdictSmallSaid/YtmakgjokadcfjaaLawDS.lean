/- VerdictSmall's walk. -/
import Derived.Test.YtmakgjokadcfjaaFag
import Derived.Test.YtmakgjokadcfjaaFac
import Derived.Test.YtmakgjokadcfjaaFaa
import Derived.StillTailTactics
namespace Go.Proofs.Ytmakgjokadcfjaa
open Go.RowKit
attribute [local go_sem] less_eq same_eq le_eq ge_eq gt_eq

set_option maxHeartbeats 4000000 in
set_option maxRecDepth 100000 in
theorem verdictSmall_walk (t : Txn) (hf : fitT t) (_hi : I64 t.read) (v1 v2 : Value) (n1 n2 : Nat) (hn1 : n1 < 256) (hn2 : n2 < 256) (w : World) (hp : RdP w w.heap.size v1 t.reads) (hc : RdC w w.heap.size v2 t.chgs) :
    Calls Try.prog 7 #[tval t v1 v2, .int .u8 (n1 : Int), .int .u8 (n2 : Int)] w fun e w' => e = .returned (.bool true) ∧ Below w.heap.size w w' := by
  have hP := fun W (h : Below w.heap.size w W) => pcheckT_any t hf v1 v2 W (hp.next h) (hc.next h)
  have hS := fun W (h : Below w.heap.size w W) => rsoundT_any t hf v1 v2 W (hp.next h) (hc.next h)
  obtain ⟨A1, c1, rfl, hc1, -⟩ := hp.at
  obtain ⟨A2, c2, rfl, hc2, -⟩ := hc.at
  obtain ⟨k1, hk1⟩ : ∃ k1, k1 = n1 % (t.reads.length + 1) := ⟨_, rfl⟩
  obtain ⟨k2, hk2⟩ : ∃ k2, k2 = n2 % (t.chgs.length + 1) := ⟨_, rfl⟩
  have hl1 : k1 ≤ t.reads.length := by have := Nat.mod_lt n1 (show t.reads.length + 1 > 0 by omega); omega
  have hl2 : k2 ≤ t.chgs.length := by have := Nat.mod_lt n2 (show t.chgs.length + 1 > 0 by omega); omega
  have hQ := fun W (h : Below w.heap.size w W) => pcheckT_any ⟨t.read, t.reads.take k1, t.chgs.take k2⟩ ⟨by have := hf.1; simp only [List.length_take]; omega, fun s hs => hf.2.1 s (List.mem_of_mem_take hs), by have := hf.2.2.1; simp only [List.length_take]; omega, fun c hc => hf.2.2.2 c (List.mem_of_mem_take hc)⟩ (.slice A1 k1 c1) (.slice A2 k2 c2) W (Rd.next (Rd.take hp k1 hl1) h) (Rd.next (Rd.take hc k2 hl2) h)
  have hsd : checkT t = 0 → decide (soundT t) = true := fun e => decide_eq_true (checkT_sound e)
  have hpt := fun e => checkT_part (t := t) e k1 k2
  have hf1 := hf.1
  have hf2 := hf.2.2.1
  generalize checkT ⟨t.read, t.reads.take k1, t.chgs.take k2⟩ = E2 at hQ hpt
  generalize decide (soundT t) = D at hS hsd
  generalize checkT t = E at hP hsd hpt
  have hm1 : (n1 : Int).tmod ((t.reads.length : Int) + 1) = (k1 : Int) := by rw [Int.tmod_eq_emod_of_nonneg (by omega), hk1]; push_cast; rfl
  have hm2 : (n2 : Int).tmod ((t.chgs.length : Int) + 1) = (k2 : Int) := by rw [Int.tmod_eq_emod_of_nonneg (by omega), hk2]; push_cast; rfl
  have hw1 : IntKind.i64.wrap ((t.reads.length : Int) + 1) = (t.reads.length : Int) + 1 := by rw [IntKind.wrap_i64]; omega
  have hw2 : IntKind.i64.wrap ((t.chgs.length : Int) + 1) = (t.chgs.length : Int) + 1 := by rw [IntKind.wrap_i64]; omega
  have hz1 : ¬ (t.reads.length : Int) + 1 = 0 := by omega
  have hz2 : ¬ (t.chgs.length : Int) + 1 = 0 := by omega
  have hkc1 : (k1 : Int) ≤ (c1 : Int) := by omega
  have hkc2 : (k2 : Int) ≤ (c2 : Int) := by omega
  have hkn1 : IntKind.i64.wrap (n1 : Int) = (n1 : Int) := by rw [IntKind.wrap_i64]; omega
  have hkn2 : IntKind.i64.wrap (n2 : Int) = (n2 : Int) := by rw [IntKind.wrap_i64]; omega
  have hkw1 : IntKind.i64.wrap (k1 : Int) = (k1 : Int) := by rw [IntKind.wrap_i64]; omega
  have hkw2 : IntKind.i64.wrap (k2 : Int) = (k2 : Int) := by rw [IntKind.wrap_i64]; omega
  clear hk1 hk2 hp hc hf
  obtain ⟨read, reads, chgs⟩ := t
  unfold tval at hP hS hQ ⊢
  simp only at *
  generalize reads.length = len1 at *
  generalize chgs.length = len2 at *
  have HP := Lib.hid hP
  have HS := Lib.hid hS
  have HQ := Lib.hid hQ
  have HSD := Lib.hid hsd
  have HPT := Lib.hid hpt
  have HM := Lib.hid (And.intro (And.intro hm1 hm2) (And.intro (And.intro hw1 hw2) (And.intro (And.intro hz1 hz2) (And.intro (And.intro hkc1 hkc2) (And.intro (And.intro hkn1 hkn2) (And.intro hkw1 hkw2))))))
  obtain ⟨w1, hw1'⟩ : ∃ w1, w1 = w.alloc (.cells #[.int .i64 read, .slice A1 len1 c1, .slice A2 len2 c2] 34) := ⟨_, rfl⟩
  have HX := Lib.hid (show Whole w1 w.heap.size 34 [.int .i64 read, .slice A1 len1 c1, .slice A2 len2 c2] from by rw [hw1']; exact Whole.fresh w _ [_, _, _])
  have HB1 := Lib.hid (show Below w.heap.size w w1 from by rw [hw1']; exact (Below.refl _ w).alloc (Nat.le_refl _) _)
  clear hP hS hQ hsd hpt hm1 hm2 hw1 hw2 hz1 hz2 hkc1 hkc2 hkn1 hkn2 hkw1 hkw2
  go_enter Try.func7, Try.ntmps7
  go_wp2_with fail
  rw [← hw1']
  clear hw1'
  refine (awakeD_any w1).mono ?_
  rintro e w2 ⟨rfl, hb2⟩
  have hx2 := HX.out.below hb2 HX.out.size
  have x0 := hx2.cell 0 _ rfl
  have x1 := hx2.cell 1 _ rfl
  have x2 := hx2.cell 2 _ rfl
  have HX2 := Lib.hid hx2
  have HB2 := Lib.hid (HB1.out.trans (hb2.mono HB1.out.size))
  clear hx2 hb2
  go_wp2_with fail
  refine (HP.out w2 HB2.out).mono ?_
  rintro e w3 ⟨rfl, hb3⟩
  have HX3 := Lib.hid (HX2.out.below hb3 HX2.out.size)
  have HB3 := Lib.hid (HB2.out.trans (hb3.mono HB2.out.size))
  clear hb3 x0 x1 x2
  by_cases he : E = 0
  case neg =>
    have heb : (E == 0) = false := by simpa using he
    go_wp2_with fail
    refine (awakeD_any w3).mono ?_
    rintro e w4 ⟨rfl, hb4⟩
    have HB4 := Lib.hid (HB3.out.trans (hb4.mono HB3.out.size))
    clear hb4
    go_wp2_with fail
    go_ret
    exact ⟨rfl, HB4.out⟩
  have hD := HSD.out he
  have hE2 := HPT.out he
  subst hD he hE2
  have x0 := HX3.out.cell 0 _ rfl
  have x1 := HX3.out.cell 1 _ rfl
  have x2 := HX3.out.cell 2 _ rfl
  obtain ⟨w4, hw4⟩ : ∃ w4, w4 = w3.alloc (.cells #[.int .i64 read, .slice A1 len1 c1, .slice A2 len2 c2] 34) := ⟨_, rfl⟩
  obtain ⟨u, hu⟩ : ∃ u, u = w3.heap.size := ⟨_, rfl⟩
  have HU4 := Lib.hid (show Whole w4 u 34 [.int .i64 read, .slice A1 len1 c1, .slice A2 len2 c2] from by rw [hw4, hu]; exact Whole.fresh w3 _ [_, _, _])
  have HX4 := Lib.hid (show Whole w4 w.heap.size 34 [.int .i64 read, .slice A1 len1 c1, .slice A2 len2 c2] from by rw [hw4]; exact HX3.out.alloc _)
  have HB4 := Lib.hid (show Below w.heap.size w w4 from by rw [hw4]; exact HB3.out.alloc HB3.out.size _)
  have HUX := Lib.hid (show w.heap.size < u from by rw [hu]; exact HX3.out.size)
  go_wp2_with fail
  rw [← hw4, ← hu]
  clear hw4 hu x0 x1 x2
  obtain ⟨⟨hm1, hm2⟩, ⟨hw1, hw2⟩, ⟨hz1, hz2⟩, ⟨hkc1, hkc2⟩, ⟨hkn1, hkn2⟩, hkw1, hkw2⟩ := HM.out
  have u1 := HU4.out.cell 1 _ rfl
  have u2 := HU4.out.cell 2 _ rfl
  have g1 := HU4.out.frozen 1
  go_still_tail 11, (by kernel_rfl)
  change wpList _ _ _ _ _ w4.drew
  have HU5 := Lib.hid HU4.out.drew
  have HX5 := Lib.hid HX4.out.drew
  have HB5 := Lib.hid HB4.out.drew
  clear u1 u2 g1
  generalize w4.drew = w5 at *
  have u1 := HU5.out.cell 1 _ rfl
  have g1 := HU5.out.frozen 1
  go_wp2_with fail
  obtain ⟨w6, hw6⟩ : ∃ w6, w6 = w5.setCell ⟨u, 1, none⟩ (.slice A1 k1 c1) := ⟨_, rfl⟩
  have HU6 := Lib.hid (show Whole w6 u 34 [.int .i64 read, .slice A1 k1 c1, .slice A2 len2 c2] from by rw [hw6]; exact HU5.out.put 1 _)
  have HX6 := Lib.hid (show Whole w6 w.heap.size 34 [.int .i64 read, .slice A1 len1 c1, .slice A2 len2 c2] from by rw [hw6]; exact HX5.out.away (p := ⟨u, 1, none⟩) (Nat.ne_of_lt HUX.out) _)
  have HB6 := Lib.hid (show Below w.heap.size w w6 from by rw [hw6]; exact HB5.out.setCell (Nat.le_of_lt HUX.out) _)
  rw [← hw6]
  clear hw6 u1 g1
  have u2 := HU6.out.cell 2 _ rfl
  have g2 := HU6.out.frozen 2
  go_still_tail 11, (by kernel_rfl)
  change wpList _ _ _ _ _ w6.drew
  have HU7 := Lib.hid HU6.out.drew
  have HX7 := Lib.hid HX6.out.drew
  have HB7 := Lib.hid HB6.out.drew
  clear u2 g2
  generalize w6.drew = w7 at *
  have u2 := HU7.out.cell 2 _ rfl
  have g2 := HU7.out.frozen 2
  have x0 := HX7.out.cell 0 _ rfl
  have x1 := HX7.out.cell 1 _ rfl
  have x2 := HX7.out.cell 2 _ rfl
  have hn1 : ¬ w.heap.size = u := Nat.ne_of_lt HUX.out
  have hn2 : ¬ u = w.heap.size := fun e => hn1 e.symm
  go_wp2_with fail
  obtain ⟨w8, hw8⟩ : ∃ w8, w8 = w7.setCell ⟨u, 2, none⟩ (.slice A2 k2 c2) := ⟨_, rfl⟩
  have HU8 := Lib.hid (show Whole w8 u 34 [.int .i64 read, .slice A1 k1 c1, .slice A2 k2 c2] from by rw [hw8]; exact HU7.out.put 2 _)
  have HB8 := Lib.hid (show Below w.heap.size w w8 from by rw [hw8]; exact HB7.out.setCell (Nat.le_of_lt HUX.out) _)
  rw [← hw8]
  clear hw8 u2 g2 x0 x1 x2 hn1 hn2
  refine (HS.out w8 HB8.out).mono ?_
  rintro e w9 ⟨rfl, hb9⟩
  have HU9 := Lib.hid (HU8.out.below hb9 HU8.out.size)
  have HB9 := Lib.hid (HB8.out.trans (hb9.mono HB8.out.size))
  clear hb9
  have u0 := HU9.out.cell 0 _ rfl
  have u1 := HU9.out.cell 1 _ rfl
  have u2 := HU9.out.cell 2 _ rfl
  go_wp2_with fail
  refine (HQ.out w9 HB9.out).mono ?_
  rintro e w10 ⟨rfl, hb10⟩
  have HB10 := Lib.hid (HB9.out.trans (hb10.mono HB9.out.size))
  clear hb10 u0 u1 u2
  go_wp2_with fail
  go_ret
  exact ⟨rfl, HB10.out⟩
end Go.Proofs.Ytmakgjokadcfjaa

/- MarksLate's walk. -/
import Derived.Test.YtcmpbhcldaogiaaFah
namespace Go.Proofs.Ytcmpbhcldaogiaa
open Go.RowKit

theorem late_pure {fl rd : Nat} {s : K × K} {c : Chg} (h1 : soundT ⟨(rd : Int), [s], []⟩) (h2 : soundT ⟨(rd : Int), [], [c]⟩) :
    jerr (mnew (fl : Int)) ((fl : Int) + 1) [⟨(rd : Int), [s], []⟩, ⟨(rd : Int), [], [c]⟩] = 0 ∧ jout (mnew (fl : Int)) ((fl : Int) + 1) [⟨(rd : Int), [s], []⟩, ⟨(rd : Int), [], [c]⟩] = [if rd < fl then 3 else 1, 1] := by
  have hfl : (mnew (fl : Int)).floor = (fl : Int) := by unfold mnew; simp only; rw [if_neg (by omega)]
  have he : jerr (mnew (fl : Int)) ((fl : Int) + 1) [⟨(rd : Int), [s], []⟩, ⟨(rd : Int), [], [c]⟩] = 0 := by
    unfold jerr
    rw [hfl, if_neg (by simp [mnew]; omega), if_neg]
    rintro (h | ⟨u, hu, hn⟩)
    · simp at h
    · simp only [List.mem_cons, List.not_mem_nil, or_false] at hu
      rcases hu with rfl | rfl
      · exact hn h1
      · exact hn h2
  refine ⟨he, ?_⟩
  unfold jout
  rw [if_pos he]
  simp only [judgeL]
  rw [verd_blind (t := ⟨(rd : Int), [], [c]⟩) rfl]
  congr 1
  by_cases h : rd < fl
  · rw [if_pos h]
    unfold verd
    rw [if_pos ⟨by simp, by rw [hfl]; simp only; omega⟩]
  · rw [if_neg h]
    exact verd_fine (.inr (by rw [hfl]; simp only; omega)) (fun k => .inl (by rw [hfl]; simp only [mnew]; omega))
set_option maxHeartbeats 16000000 in
set_option maxRecDepth 100000 in
theorem marksLate_walk (fl rd : Nat) (hfl : fl < 65536) (hrd : rd < 65536) (s : K × K) (c : Chg) (hs1 : s.1.size < 4611686018427387904 ∧ s.2.size < 4611686018427387904) (hc1 : smallC c) (w : World) :
    Calls Try.prog 3 #[.int .u16 (fl : Int), .int .u16 (rd : Int), .agg #[.string s.1, .string s.2], cval c] w fun e w' => e = .returned (.bool true) ∧ Below w.heap.size w w' := by
  obtain ⟨sf, st⟩ := s
  obtain ⟨ck, cx, cy⟩ := c
  unfold cval
  simp only at hs1 ⊢
  have HSS := Lib.hid hs1
  have HCS := Lib.hid hc1
  clear hs1 hc1
  obtain ⟨w0, hw0⟩ : ∃ w0, (w.alloc (.cells #[.string sf, .string st] 24)).alloc (.cells #[.int .i64 ck, .string cx, .string cy] 26) = w0 := ⟨_, rfl⟩
  have hS : Whole w0 w.heap.size 24 [.string sf, .string st] := by rw [← hw0]; exact (Whole.fresh w _ [_, _]).alloc _
  have hC : Whole w0 (w.heap.size + 1) 26 [.int .i64 ck, .string cx, .string cy] := by
    rw [← hw0]
    have := Whole.fresh (w.alloc (.cells #[.string sf, .string st] 24)) 26 [.int .i64 ck, .string cx, .string cy]
    simp only [World.size_alloc] at this
    exact this
  have hb0 : Below w.heap.size w w0 := by rw [← hw0]; exact ((Below.refl _ w).alloc (Nat.le_refl _) _).alloc (by simp) _
  have HN := Lib.hid (mknew_any (fl : Int) (by unfold I64; omega) w0)
  have HS := Lib.hid hS
  have HC := Lib.hid hC
  have HB0 := Lib.hid hb0
  have HW0 := Lib.hid hw0
  have h7 : IntKind.i64.wrap (fl : Int) = (fl : Int) := by rw [IntKind.wrap_i64]; omega
  have h8 : IntKind.i64.wrap (rd : Int) = (rd : Int) := by rw [IntKind.wrap_i64]; omega
  have h9 : IntKind.i64.wrap ((fl : Int) + 1) = (fl : Int) + 1 := by rw [IntKind.wrap_i64]; omega
  clear hS hC hb0 hw0
  go_enter Try.func3, Try.ntmps3
  go_wp2_with fail
  rw [HW0.out]
  refine HN.out.mono ?_
  rintro e w1 ⟨q, G, rfl, hk1, hb1⟩
  have HS1 := Lib.hid (HS.out.below hb1 HS.out.size)
  have HC1 := Lib.hid (HC.out.below hb1 HC.out.size)
  have HB1 := Lib.hid (HB0.out.trans (hb1.mono HB0.out.size))
  have HK1 := Lib.hid hk1
  have s0 := HS1.out.cell 0 _ rfl
  have s1 := HS1.out.cell 1 _ rfl
  have hca := (HC1.out.alloc (.cells #[.string sf, .string st] 24)).alloc (.cells #[.int .i64 (rd : Int), .slice (some ⟨w1.heap.size, 0, none⟩) 1 1, .slice none 0 0] 32)
  have d0 := hca.cell 0 _ rfl
  have d1 := hca.cell 1 _ rfl
  have d2 := hca.cell 2 _ rfl
  obtain ⟨wb, hwb⟩ : ∃ wb, ((((w1.alloc (.cells #[.string sf, .string st] 24)).alloc (.cells #[.int .i64 (rd : Int), .slice (some ⟨w1.heap.size, 0, none⟩) 1 1, .slice none 0 0] 32)).alloc (.cells #[.int .i64 ck, .string cx, .string cy] 26)).alloc (.cells #[.int .i64 (rd : Int), .slice none 0 0, .slice (some ⟨w1.heap.size + 1 + 1, 0, none⟩) 1 1] 32)) = wb := ⟨_, rfl⟩
  have p1 := Whole.fresh w1 24 [.string sf, .string st]
  have p2 := Whole.fresh (w1.alloc (.cells #[.string sf, .string st] 24)) 32 [.int .i64 (rd : Int), .slice (some ⟨w1.heap.size, 0, none⟩) 1 1, .slice none 0 0]
  have p3 := Whole.fresh ((w1.alloc (.cells #[.string sf, .string st] 24)).alloc (.cells #[.int .i64 (rd : Int), .slice (some ⟨w1.heap.size, 0, none⟩) 1 1, .slice none 0 0] 32)) 26 [.int .i64 ck, .string cx, .string cy]
  have p4 := Whole.fresh (((w1.alloc (.cells #[.string sf, .string st] 24)).alloc (.cells #[.int .i64 (rd : Int), .slice (some ⟨w1.heap.size, 0, none⟩) 1 1, .slice none 0 0] 32)).alloc (.cells #[.int .i64 ck, .string cx, .string cy] 26)) 32 [.int .i64 (rd : Int), .slice none 0 0, .slice (some ⟨w1.heap.size + 1 + 1, 0, none⟩) 1 1]
  have r1 : Whole wb w1.heap.size 24 [.string sf, .string st] := by rw [← hwb]; exact ((p1.alloc _).alloc _).alloc _
  have r2 : Whole wb (w1.heap.size + 1) 32 [.int .i64 (rd : Int), .slice (some ⟨w1.heap.size, 0, none⟩) 1 1, .slice none 0 0] := by rw [← hwb]; have := (p2.alloc (.cells #[.int .i64 ck, .string cx, .string cy] 26)).alloc (.cells #[.int .i64 (rd : Int), .slice none 0 0, .slice (some ⟨w1.heap.size + 1 + 1, 0, none⟩) 1 1] 32); simp only [World.size_alloc] at this; exact this
  have r3 : Whole wb (w1.heap.size + 1 + 1) 26 [.int .i64 ck, .string cx, .string cy] := by rw [← hwb]; have := p3.alloc (.cells #[.int .i64 (rd : Int), .slice none 0 0, .slice (some ⟨w1.heap.size + 1 + 1, 0, none⟩) 1 1] 32); simp only [World.size_alloc] at this; exact this
  have r4 : Whole wb (w1.heap.size + 1 + 1 + 1) 32 [.int .i64 (rd : Int), .slice none 0 0, .slice (some ⟨w1.heap.size + 1 + 1, 0, none⟩) 1 1] := by rw [← hwb]; have := p4; simp only [World.size_alloc] at this; exact this
  have hbb : Below w1.heap.size w1 wb := by rw [← hwb]; exact ((((Below.refl _ w1).alloc (Nat.le_refl _) _).alloc (by simp) _).alloc (by simp; omega) _).alloc (by simp; omega) _
  have R1 := Lib.hid r1
  have R2 := Lib.hid r2
  have R3 := Lib.hid r3
  have R4 := Lib.hid r4
  have HK2 := Lib.hid (hk1.new hbb)
  have HB2 := Lib.hid (HB1.out.trans (hbb.mono HB1.out.size))
  have HGN := Lib.hid (show ∀ i, w1.heap.size ≤ i → ¬ G i from fun i hi hg => by have := (hk1.low.2 i hg).2; omega)
  have HWB := Lib.hid hwb
  have HA := Lib.hid (awake_any wb)
  clear hk1 hb1 HN HS HC HW0 hca p1 p2 p3 p4 r1 r2 r3 r4 hbb hwb HK1 HB1
  go_wp2_with fail
  rw [HWB.out]
  refine HA.out.mono ?_
  rintro e w2 ⟨rfl, hb2⟩
  have HK3 := Lib.hid (HK2.out.new hb2)
  have HB3 := Lib.hid (HB2.out.trans (hb2.mono HB2.out.size))
  have R12 := Lib.hid (R1.out.below hb2 R1.out.size)
  have R22 := Lib.hid (R2.out.below hb2 R2.out.size)
  have R32 := Lib.hid (R3.out.below hb2 R3.out.size)
  have R42 := Lib.hid (R4.out.below hb2 R4.out.size)
  have g0 := R22.out.cell 0 _ rfl
  have g1 := R22.out.cell 1 _ rfl
  have g2 := R22.out.cell 2 _ rfl
  have hfit1 : fitT ⟨(rd : Int), [(sf, st)], []⟩ := ⟨by simp, fun s hs => by simp only [List.mem_cons, List.not_mem_nil, or_false] at hs; subst hs; exact HSS.out, by simp, by simp⟩
  have hfit2 : fitT ⟨(rd : Int), [], [⟨ck, cx, cy⟩]⟩ := ⟨by simp, by simp, by simp, fun c hc => by simp only [List.mem_cons, List.not_mem_nil, or_false] at hc; subst hc; exact HCS.out⟩
  have HF1 := Lib.hid hfit1
  have HF2 := Lib.hid hfit2
  have hrds : RdP w2 w2.heap.size (.slice (some ⟨w1.heap.size, 0, none⟩) 1 1) [(sf, st)] := (Whole.rdg (G := fun _ => False) cellsS_len (l := [(sf, st)]) R12.out (Nat.le_refl 1) R12.out.size (fun h => h)).rd
  have HSD1 := Lib.hid (rsoundT_any ⟨(rd : Int), [(sf, st)], []⟩ hfit1 (.slice (some ⟨w1.heap.size, 0, none⟩) 1 1) (.slice none 0 0) w2 hrds (Rd.nil _ _))
  unfold tval at HSD1
  clear hb2 hfit1 hfit2 hrds HA HK2 HB2 R1 R2 R3 R4 HWB s0 s1 d0 d1 d2
  by_cases hs1 : soundT ⟨(rd : Int), [(sf, st)], []⟩
  · have hsb1 := decide_eq_true hs1
    go_wp2_with fail
    refine HSD1.out.mono ?_
    rw [hsb1]
    rintro e w3 ⟨rfl, hb3⟩
    have HK4 := Lib.hid (HK3.out.new hb3)
    have HB4 := Lib.hid (HB3.out.trans (hb3.mono HB3.out.size))
    have Q1 := Lib.hid (R12.out.below hb3 R12.out.size)
    have Q2 := Lib.hid (R22.out.below hb3 R22.out.size)
    have Q3 := Lib.hid (R32.out.below hb3 R32.out.size)
    have Q4 := Lib.hid (R42.out.below hb3 R42.out.size)
    have hrdc : RdC w3 w3.heap.size (.slice (some ⟨w1.heap.size + 1 + 1, 0, none⟩) 1 1) [⟨ck, cx, cy⟩] := (Whole.rdg (G := fun _ => False) encC_len (l := [⟨ck, cx, cy⟩]) Q3.out (Nat.le_refl 1) Q3.out.size (fun h => h)).rd
    have HSD2 := Lib.hid (rsoundT_any ⟨(rd : Int), [], [⟨ck, cx, cy⟩]⟩ HF2.out (.slice none 0 0) (.slice (some ⟨w1.heap.size + 1 + 1, 0, none⟩) 1 1) w3 (Rd.nil _ _) hrdc)
    unfold tval at HSD2
    have g0' := Q4.out.cell 0 _ rfl
    have g1' := Q4.out.cell 1 _ rfl
    have g2' := Q4.out.cell 2 _ rfl
    clear hb3 hrdc HSD1 g0 g1 g2 HK3 HB3 R12 R22 R32 R42
    by_cases hs2 : soundT ⟨(rd : Int), [], [⟨ck, cx, cy⟩]⟩
    · have hsb2 := decide_eq_true hs2
      obtain ⟨hp1, hp2⟩ := late_pure (fl := fl) hs1 hs2
      have HP1 := Lib.hid hp1
      have HP2 := Lib.hid hp2
      clear hp1 hp2 hs1 hs2
      go_wp2_with fail
      refine HSD2.out.mono ?_
      rw [hsb2]
      rintro e w4 ⟨rfl, hb4⟩
      obtain ⟨wj, hwj⟩ : ∃ wj, w4.alloc (.cells #[.int .i64 (rd : Int), .slice (some ⟨w1.heap.size, 0, none⟩) 1 1, .slice none 0 0, .int .i64 (rd : Int), .slice none 0 0, .slice (some ⟨w1.heap.size + 1 + 1, 0, none⟩) 1 1] 32) = wj := ⟨_, rfl⟩
      have hbj : Below w3.heap.size w3 wj := by rw [← hwj]; exact hb4.alloc hb4.size _
      have hj : Whole wj w4.heap.size 32 [.int .i64 (rd : Int), .slice (some ⟨w1.heap.size, 0, none⟩) 1 1, .slice none 0 0, .int .i64 (rd : Int), .slice none 0 0, .slice (some ⟨w1.heap.size + 1 + 1, 0, none⟩) 1 1] := by rw [← hwj]; exact Whole.fresh w4 _ [_, _, _, _, _, _]
      have hj1 := Q1.out.below hbj Q1.out.size
      have hj3 := Q3.out.below hbj Q3.out.size
      have hzj : wj.heap.size = w4.heap.size + 1 := by rw [← hwj]; simp
      have hz4 := hb4.size
      have hzq := Q4.out.size
      have htwo := RdTx.two (G := G) (x := ⟨⟨(rd : Int), [(sf, st)], []⟩, .slice (some ⟨w1.heap.size, 0, none⟩) 1 1, .slice none 0 0⟩) (y := ⟨⟨(rd : Int), [], [⟨ck, cx, cy⟩]⟩, .slice none 0 0, .slice (some ⟨w1.heap.size + 1 + 1, 0, none⟩) 1 1⟩) hj
        ⟨Whole.rdg cellsS_len (l := [(sf, st)]) hj1 (Nat.le_refl 1) hj1.size (HGN.out _ (by omega)), RdG.none_ _ _ _ _ _⟩ ⟨RdG.none_ _ _ _ _ _, Whole.rdg encC_len (l := [⟨ck, cx, cy⟩]) hj3 (Nat.le_refl 1) hj3.size (HGN.out _ (by omega))⟩ (HGN.out _ (by omega))
      have HJ := Lib.hid (mkjudge_any _ q 0 G (mnew (fl : Int)) ((fl : Int) + 1) (by unfold I64; omega) _ _ wj (HK4.out.new hbj) htwo (fun x hx => by
        simp only [List.mem_cons, List.not_mem_nil, or_false] at hx
        rcases hx with rfl | rfl
        · exact HF1.out
        · exact HF2.out) (fun x hx => by
        simp only [List.mem_cons, List.not_mem_nil, or_false] at hx
        rcases hx with rfl | rfl <;> (unfold I64; simp only; omega)) (by omega))
      simp only [List.map_cons, List.map_nil] at HJ
      rw [HP1.out, HP2.out] at HJ
      have HKJ := Lib.hid (HK4.out.new hbj)
      have HBJ := Lib.hid (HB4.out.trans (hbj.mono HB4.out.size))
      have HWJ := Lib.hid hwj
      have k0 := (Q2.out.below hb4 Q2.out.size).cell 0 _ rfl
      have k1 := (Q2.out.below hb4 Q2.out.size).cell 1 _ rfl
      have k2 := (Q2.out.below hb4 Q2.out.size).cell 2 _ rfl
      have l0 := (Q4.out.below hb4 Q4.out.size).cell 0 _ rfl
      have l1 := (Q4.out.below hb4 Q4.out.size).cell 1 _ rfl
      have l2 := (Q4.out.below hb4 Q4.out.size).cell 2 _ rfl
      clear hb4 hbj hj hj1 hj3 hzj hz4 hzq htwo hwj HSD2 g0' g1' g2' HP1 HP2
      go_wp2_with fail
      rw [HWJ.out]
      refine HJ.out.mono ?_
      rintro e w6 ⟨A6, cap6, rfl, G6, hk6, hG6, hm6, hr6⟩
      have HB6 := Lib.hid (HBJ.out.trans (hm6.below HBJ.out.size (fun i hi => by have := (HKJ.out.low.2 i hi).1; have := HB0.out.size; omega)))
      obtain ⟨A', c', e, hc', hi⟩ := hr6.atI
      injection e with e1 _ e3
      subst e1 e3
      obtain ⟨b, o, rfl, hbb, _, r0⟩ := hi 0 (by simp)
      obtain ⟨b', o', e9, _, _, r1⟩ := hi 1 (by simp)
      injection e9 with e9
      injection e9 with e10 e11
      subst e10 e11
      simp only [Nat.add_zero, List.getElem_cons_zero] at r0
      simp only [List.getElem_cons_succ, List.getElem_cons_zero] at r1
      simp only [List.length_cons, List.length_nil, Nat.zero_add, Nat.reduceAdd] at hc'
      clear hk6 hG6 hm6 hr6 hi HJ k0 k1 k2 l0 l1 l2 HBJ HKJ HWJ
      by_cases hlt : rd < fl
      · rw [if_pos hlt] at r0
        have hli : (rd : Int) < (fl : Int) := by omega
        have hlb := decide_eq_true hli
        go_wp2_with fail
        go_ret
        exact ⟨rfl, HB6.out⟩
      · rw [if_neg hlt] at r0
        have hli : ¬ (rd : Int) < (fl : Int) := by omega
        have hlb := decide_eq_false hli
        go_wp2_with fail
        go_ret
        exact ⟨rfl, HB6.out⟩
    · have hsb2 := decide_eq_false hs2
      go_wp2_with fail
      refine HSD2.out.mono ?_
      rw [hsb2]
      rintro e w4 ⟨rfl, hb4⟩
      have HB5 := Lib.hid (HB4.out.trans (hb4.mono HB4.out.size))
      have HA2 := Lib.hid (awake_any w4)
      clear hb4 g0' g1' g2' HSD2
      go_wp2_with fail
      refine HA2.out.mono ?_
      rintro e w5 ⟨rfl, hb5⟩
      have HB6 := Lib.hid (HB5.out.trans (hb5.mono HB5.out.size))
      go_wp2_with fail
      go_ret
      exact ⟨rfl, HB6.out⟩
  · have hsb1 := decide_eq_false hs1
    go_wp2_with fail
    refine HSD1.out.mono ?_
    rw [hsb1]
    rintro e w3 ⟨rfl, hb3⟩
    have HB4 := Lib.hid (HB3.out.trans (hb3.mono HB3.out.size))
    have HA2 := Lib.hid (awake_any w3)
    clear hb3 g0 g1 g2 HSD1
    go_wp2_with fail
    refine HA2.out.mono ?_
    rintro e w4 ⟨rfl, hb4⟩
    have HB5 := Lib.hid (HB4.out.trans (hb4.mono HB4.out.size))
    go_wp2_with fail
    go_ret
    exact ⟨rfl, HB5.out⟩
end Go.Proofs.Ytcmpbhcldaogiaa

/- RefereeLate's walk. -/
import Derived.Test.YtgppgecglkellaaGreatFar
namespace Go.Proofs.YtgppgecglkellaaGreat
open Go.RowKit
attribute [local go_sem] less_eq same_eq le_eq ge_eq gt_eq

theorem rlate1 : (⟨1, 0, mnew 0, false, []⟩ : Rf).judge 1 0 1000 [] = ([], 0, ⟨1, 1000, ⟨900, 0, fun _ => 0⟩, true, []⟩) := by
  have he : jerr (mnew 0) 1000 [] = 0 := jerr_nil (by decide) (by decide)
  rw [Rf.judge_new (r := ⟨1, 0, mnew 0, false, []⟩) rfl (by simp) (by simp) rfl he]
  simp only
  rw [(jnil (mnew 0) 1000).1, (jnil (mnew 0) 1000).2]
  rfl
theorem rlate2 {rd : Nat} {s : K × K} (h : soundT ⟨(rd : Int), [s], []⟩) : ∃ r, (⟨1, 1000, ⟨900, 0, fun _ => 0⟩, true, []⟩ : Rf).judge 1 1000 1001 [⟨(rd : Int), [s], []⟩] = ([if rd < 900 then 3 else 1], 0, r) := by
  have he : jerr ⟨900, 0, fun _ => 0⟩ 1001 [⟨(rd : Int), [s], []⟩] = 0 := jerr_one (by simp) (by simp) h
  rw [Rf.judge_new (r := ⟨1, 1000, ⟨900, 0, fun _ => 0⟩, true, []⟩) rfl (by simp) (by simp) rfl he]
  obtain ⟨h1, _⟩ := jone he
  simp only
  rw [h1]
  have hv : verd ⟨900, 0, fun _ => 0⟩ ⟨(rd : Int), [s], []⟩ = if rd < 900 then 3 else 1 := by
    by_cases hr : rd < 900
    · rw [if_pos hr]
      unfold verd
      rw [if_pos ⟨by simp, by simp only; omega⟩]
    · rw [if_neg hr]
      exact verd_fine (.inr (by simp only; omega)) (fun k => .inl (by simp))
  rw [hv]
  exact ⟨_, rfl⟩

set_option maxHeartbeats 8000000 in
set_option maxRecDepth 100000 in
theorem refereeLate_walk (rd : Nat) (hrd : rd < 65536) (s : K × K) (hs1 : s.1.size < 4611686018427387904 ∧ s.2.size < 4611686018427387904) (w : World) :
    Calls Tryz.prog 5 #[.int .u16 (rd : Int), .agg #[.string s.1, .string s.2]] w fun e w' => e = .returned (.bool true) ∧ Below w.heap.size w w' := by
  obtain ⟨sf, st⟩ := s
  simp only at hs1 ⊢
  obtain ⟨w0, hw0⟩ : ∃ w0, w0 = w.alloc (.cells #[.string sf, .string st] 52) := ⟨_, rfl⟩
  have hb0 : Below w.heap.size w w0 := by rw [hw0]; exact (Below.refl _ w).alloc (Nat.le_refl _) _
  have hS0 : Whole w0 w.heap.size 52 [.string sf, .string st] := by rw [hw0]; exact Whole.fresh w _ [_, _]
  have HN := Lib.hid (rfnew_any w0)
  have HB0 := Lib.hid hb0
  have HW0 := Lib.hid hb0.size
  have HS0 := Lib.hid hS0
  have HSS := Lib.hid hs1
  have h8 : IntKind.i64.wrap (rd : Int) = (rd : Int) := by rw [IntKind.wrap_i64]; omega
  clear hb0 hS0 hs1
  go_enter Tryz.func5, Tryz.ntmps5
  go_wp2_with fail
  rw [← hw0]
  clear hw0
  refine HN.out.mono ?_
  rintro e w1 ⟨q, G, rfl, hr1, hb1⟩
  have hS1 := HS0.out.below hb1 HS0.out.size
  have s0 := hS1.cell 0 _ rfl
  have s1 := hS1.cell 1 _ rfl
  obtain ⟨w2, hw2⟩ : ∃ w2, w2 = (w1.alloc (.cells #[.string sf, .string st] 52)).alloc (.cells #[.int .i64 (rd : Int), .slice (some ⟨w1.heap.size, 0, none⟩) 1 1, .slice none 0 0] 47) := ⟨_, rfl⟩
  have hb2 : Below w1.heap.size w1 w2 := by rw [hw2]; exact ((Below.refl _ w1).alloc (Nat.le_refl _) _).alloc (by simp) _
  have hA2 : Whole w2 w1.heap.size 52 [.string sf, .string st] := by rw [hw2]; exact (Whole.fresh w1 _ [_, _]).alloc _
  have hT2 : Whole w2 (w1.heap.size + 1) 47 [.int .i64 (rd : Int), .slice (some ⟨w1.heap.size, 0, none⟩) 1 1, .slice none 0 0] := by
    rw [hw2]
    have := Whole.fresh (w1.alloc (.cells #[.string sf, .string st] 52)) 47 [.int .i64 (rd : Int), .slice (some ⟨w1.heap.size, 0, none⟩) 1 1, .slice none 0 0]
    rw [World.size_alloc] at this
    exact this
  obtain ⟨g1, hg1⟩ : ∃ g, g = w1.heap.size := ⟨_, rfl⟩
  obtain ⟨g2, hg2⟩ : ∃ g, g = w1.heap.size + 1 := ⟨_, rfl⟩
  have HGN := Lib.hid (show ¬ G g1 ∧ ¬ G g2 from ⟨fun h => by have := (hr1.low.2 _ h).2; omega, fun h => by have := (hr1.low.2 _ h).2; omega⟩)
  have HR2 := Lib.hid (hr1.new hb2)
  have HB2 := Lib.hid (HB0.out.trans ((hb1.trans (hb2.mono hb1.size)).mono HB0.out.size))
  have HA2 := Lib.hid hA2
  have HT2 := Lib.hid hT2
  have HA := Lib.hid (rfawake_any w2)
  clear hS1 hr1 hb1 hb2 hA2 hT2 HN HS0 HB0
  go_wp2_with fail
  rw [← hw2]
  clear hw2 s0 s1
  refine HA.out.mono ?_
  rintro e w3 ⟨rfl, hb3⟩
  have hr3 := HR2.out.new hb3
  have hA3 := HA2.out.below hb3 HA2.out.size
  have hT3 := HT2.out.below hb3 HT2.out.size
  rw [← hg1] at hA3
  rw [← hg2, ← hg1] at hT3
  have HB3 := Lib.hid (HB2.out.trans (hb3.mono HB2.out.size))
  have hrd3 : RdP w3 w3.heap.size (.slice (some ⟨g1, 0, none⟩) 1 1) [(sf, st)] := (Whole.rdg (G := fun _ => False) cellsS_len (l := [(sf, st)]) hA3 (Nat.le_refl 1) hA3.size (fun h => h)).rd
  have hfit : fitT ⟨(rd : Int), [(sf, st)], []⟩ := ⟨by simp, fun s hs => by rw [List.mem_singleton.1 hs]; exact HSS.out, by simp, by simp⟩
  have hsnd := rsoundT_any ⟨(rd : Int), [(sf, st)], []⟩ hfit (.slice (some ⟨g1, 0, none⟩) 1 1) (.slice none 0 0) w3 hrd3 (Rd.nil _ _)
  unfold tval at hsnd
  simp only at hsnd
  have x0 := hT3.cell 0 _ rfl
  have x1 := hT3.cell 1 _ rfl
  have x2 := hT3.cell 2 _ rfl
  have HSN := Lib.hid hsnd
  have HR3 := Lib.hid hr3
  have HA3 := Lib.hid hA3
  have HT3 := Lib.hid hT3
  have HF := Lib.hid hfit
  clear hsnd hr3 hA3 hT3 hb3 hrd3 hfit HA HR2 HA2 HT2 HB2
  have HG1 := Lib.hid hg1
  have HG2 := Lib.hid hg2
  rw [← hg2]
  clear hg1 hg2
  go_wp2_with fail
  refine HSN.out.mono ?_
  rintro e w4 ⟨rfl, hb4⟩
  have HR4 := Lib.hid (HR3.out.new hb4)
  have HA4 := Lib.hid (HA3.out.below hb4 HA3.out.size)
  have HT4 := Lib.hid (HT3.out.below hb4 HT3.out.size)
  have HB4 := Lib.hid (HB3.out.trans (hb4.mono HB3.out.size))
  clear hb4 x0 x1 x2 HSN HR3 HA3 HT3 HB3
  by_cases hso : soundT ⟨(rd : Int), [(sf, st)], []⟩
  case neg =>
    rw [decide_eq_false hso]
    have HA := Lib.hid (rfawake_any w4)
    clear hso
    go_wp2_with fail
    refine HA.out.mono ?_
    rintro e w5 ⟨rfl, hb5⟩
    have HB5 := Lib.hid (HB4.out.trans (hb5.mono HB4.out.size))
    clear hb5
    go_wp2_with fail
    go_ret
    exact ⟨rfl, HB5.out⟩
  rw [decide_eq_true hso]
  obtain ⟨R2, hR2⟩ := rlate2 hso
  have hbg := rfbegin_any w0.heap.size q 0 G Rf.new 1 0 (by unfold I64; omega) (by unfold I64; omega) w4 HR4.out
  rw [Rf.begin_new 1 0 (by decide) (by decide)] at hbg
  simp only at hbg
  have HBG := Lib.hid hbg
  have HSO := Lib.hid hso
  have HJ2 := Lib.hid hR2
  clear hbg hso hR2
  go_wp2_with fail
  refine HBG.out.mono ?_
  rintro e w5 ⟨rfl, G5, hr5, hG5, hm5⟩
  have HB5 := Lib.hid (HB4.out.trans ((HR4.out.below hm5).mono (show w.heap.size ≤ w0.heap.size from HW0.out)))
  have HA5 := Lib.hid (hm5.whole HA4.out HGN.out.1)
  have HT5 := Lib.hid (hm5.whole HT4.out HGN.out.2)
  have HN5 := Lib.hid (show ¬ G5 g1 ∧ ¬ G5 g2 from ⟨fun h => by
    rcases hG5 _ h with k | k
    · exact HGN.out.1 k
    · have := HA4.out.size; omega, fun h => by
    rcases hG5 _ h with k | k
    · exact HGN.out.2 k
    · have := HT4.out.size; omega⟩)
  have hj := rfjudge_any w0.heap.size q _ G5 _ 1 0 1000 (by unfold I64; omega) (by unfold I64; omega) (by unfold I64; omega) [] (.slice none 0 0) w5 hr5 ⟨RdG.none_ _ _ _ _ _, by simp⟩ (by simp) (by simp) (by omega)
  rw [List.map_nil, rlate1] at hj
  simp only [List.length_nil] at hj
  have HJ := Lib.hid hj
  have HR5 := Lib.hid hr5
  clear hj hr5 hG5 hm5 HBG HR4 HA4 HT4 HB4 HGN
  go_wp2_with fail
  refine HJ.out.mono ?_
  rintro e w6 ⟨A6, c6, rfl, G6, hr6, hG6, hm6, -⟩
  have HB6 := Lib.hid (HB5.out.trans ((HR5.out.below hm6).mono HW0.out))
  have hA6 := hm6.whole HA5.out HN5.out.1
  have hT6 := hm6.whole HT5.out HN5.out.2
  have hn6 : ¬ G6 g1 := fun h => by
    rcases hG6 _ h with k | k
    · exact HN5.out.1 k
    · have := HA5.out.size; omega
  have x0 := hT6.cell 0 _ rfl
  have x1 := hT6.cell 1 _ rfl
  have x2 := hT6.cell 2 _ rfl
  obtain ⟨w7, hw7⟩ : ∃ w7, w7 = w6.alloc (.cells #[.int .i64 (rd : Int), .slice (some ⟨g1, 0, none⟩) 1 1, .slice none 0 0] 47) := ⟨_, rfl⟩
  have hb7 : Below w6.heap.size w6 w7 := by rw [hw7]; exact (Below.refl _ w6).alloc (Nat.le_refl _) _
  have hW7 : Whole w7 w6.heap.size 47 [.int .i64 (rd : Int), .slice (some ⟨g1, 0, none⟩) 1 1, .slice none 0 0] := by rw [hw7]; exact Whole.fresh w6 _ [_, _, _]
  have hA7 := hA6.below hb7 hA6.size
  have hr7 := hr6.new hb7
  have hj := rfjudge_any w0.heap.size q _ G6 _ 1 1000 1001 (by unfold I64; omega) (by unfold I64; omega) (by unfold I64; omega) [⟨⟨(rd : Int), [(sf, st)], []⟩, .slice (some ⟨g1, 0, none⟩) 1 1, .slice none 0 0⟩] (.slice (some ⟨w6.heap.size, 0, none⟩) 1 1) w7 hr7
    (RdTx.one hW7 ⟨Whole.rdg cellsS_len (l := [(sf, st)]) hA7 (Nat.le_refl 1) hA7.size hn6, RdG.none_ _ _ _ _ _⟩ (fun h => by have := (hr6.low.2 _ h).2; omega)) (fun x hx => by rw [List.mem_singleton.1 hx]; exact HF.out) (fun x hx => by rw [List.mem_singleton.1 hx]; unfold I64; simp only; omega) (by omega)
  rw [show ([⟨⟨(rd : Int), [(sf, st)], []⟩, .slice (some ⟨g1, 0, none⟩) 1 1, .slice none 0 0⟩] : List TxV).map (·.t) = [⟨(rd : Int), [(sf, st)], []⟩] from rfl, HJ2.out] at hj
  simp only [List.length_cons, List.length_nil, Nat.zero_add] at hj
  have HJ3 := Lib.hid hj
  have HR7 := Lib.hid hr7
  have HB7 := Lib.hid (HB6.out.trans (hb7.mono HB6.out.size))
  clear hj hr6 hG6 hm6 hA6 hT6 hb7 hW7 hA7 hr7 hn6 HJ HJ2 HR5 HA5 HT5 HB5 HN5 HB6
  go_wp2_with fail
  rw [← hw7]
  clear hw7 x0 x1 x2
  refine HJ3.out.mono ?_
  rintro e w8 ⟨A8, c8, rfl, G8, hr8, hG8, hm8, hl8⟩
  obtain ⟨b, o, rfl, hbb, hcap, k0⟩ := RdI.one_at hl8.rd
  have HB8 := Lib.hid (HB7.out.trans ((HR7.out.below hm8).mono HW0.out))
  clear hr8 hG8 hm8 hl8 hbb HJ3 HR7 HB7
  by_cases hlt : rd < 900
  · rw [if_pos hlt] at k0
    have hlt' : (rd : Int) < 900 := by omega
    go_wp2_with fail
    go_ret
    exact ⟨rfl, HB8.out⟩
  · rw [if_neg hlt] at k0
    have hlt' : ¬ (rd : Int) < 900 := by omega
    go_wp2_with fail
    go_ret
    exact ⟨congrArg (fun b => Ending.returned (.bool (!b))) (decide_eq_false (show ¬ (rd : Int) < 900 by omega)), HB8.out⟩
end Go.Proofs.YtgppgecglkellaaGreat

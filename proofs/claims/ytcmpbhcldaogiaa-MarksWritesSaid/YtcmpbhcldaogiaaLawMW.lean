/- MarksWrites's walk. -/
import Derived.Test.YtcmpbhcldaogiaaFah
namespace Go.Proofs.Ytcmpbhcldaogiaa
open Go.RowKit

theorem wr_first {a : List Chg} (hs : soundT ⟨0, [], a⟩) : jerr (mnew 3) 10 [⟨0, [], a⟩] = 0 ∧ jnext (mnew 3) 10 [⟨0, [], a⟩] = wrote (mnew 3) 10 ⟨0, [], a⟩ := by
  have e := jerr_one (m := mnew 3) (v := 10) (by simp [mnew]) (by simp [mnew]) hs
  refine ⟨e, ?_⟩
  rw [(jone e).2]
  unfold judge1
  rw [if_pos (verd_blind rfl)]
theorem wr_second {a b : List Chg} (hs : soundT ⟨0, [], b⟩) : jerr (wrote (mnew 3) 10 ⟨0, [], a⟩) 20 [⟨0, [], b⟩] = 0 ∧ jnext (wrote (mnew 3) 10 ⟨0, [], a⟩) 20 [⟨0, [], b⟩] = wrote (wrote (mnew 3) 10 ⟨0, [], a⟩) 20 ⟨0, [], b⟩ := by
  have e := jerr_one (m := wrote (mnew 3) 10 ⟨0, [], a⟩) (v := 20) (t := ⟨0, [], b⟩) (by simp [wrote, mnew]) (by simp only [wrote, mnew]; split <;> omega) hs
  refine ⟨e, ?_⟩
  rw [(jone e).2]
  unfold judge1
  rw [if_pos (verd_blind rfl)]
section
variable {a b : List Chg} {s : K × K} {x y z : Int}
theorem wr_x (h : LastIs (wrote (mnew 3) 10 ⟨0, [], a⟩) s x) : (x = 0 ∧ ∀ k, has s k → ¬ keysOf ⟨0, [], a⟩ k) ∨ (x = 10 ∧ ∃ k, has s k ∧ keysOf ⟨0, [], a⟩ k) := by
  rcases h with ⟨h1, h2⟩ | ⟨h1, ⟨k, hk, hk2⟩, h3⟩
  · refine .inl ⟨h1, fun k hk hA => ?_⟩
    have := h2 k hk
    simp only [wrote, mnew] at this
    rw [if_pos hA] at this
    simp at this
  · simp only [wrote, mnew] at hk2 h1
    by_cases hA : keysOf ⟨0, [], a⟩ k
    · rw [if_pos hA] at hk2
      exact .inr ⟨hk2.symm, k, hk, hA⟩
    · rw [if_neg hA] at hk2
      simp at h1
      omega
theorem wr_y (h : LastIs (wrote (wrote (mnew 3) 10 ⟨0, [], a⟩) 20 ⟨0, [], b⟩) s y) :
    (y = 20 ∧ ∃ k, has s k ∧ keysOf ⟨0, [], b⟩ k) ∨ ((∀ k, has s k → ¬ keysOf ⟨0, [], b⟩ k) ∧ ((y = 10 ∧ ∃ k, has s k ∧ keysOf ⟨0, [], a⟩ k) ∨ (y = 0 ∧ ∀ k, has s k → ¬ keysOf ⟨0, [], a⟩ k))) := by
  have hf : ∀ k, (wrote (wrote (mnew 3) 10 ⟨0, [], a⟩) 20 ⟨0, [], b⟩).f k = 20 ∧ keysOf ⟨0, [], b⟩ k ∨ ¬ keysOf ⟨0, [], b⟩ k ∧ ((wrote (wrote (mnew 3) 10 ⟨0, [], a⟩) 20 ⟨0, [], b⟩).f k = 10 ∧ keysOf ⟨0, [], a⟩ k ∨ (wrote (wrote (mnew 3) 10 ⟨0, [], a⟩) 20 ⟨0, [], b⟩).f k = 0 ∧ ¬ keysOf ⟨0, [], a⟩ k) := fun k => by
    simp only [wrote, mnew]
    by_cases hB : keysOf ⟨0, [], b⟩ k
    · exact .inl ⟨if_pos hB, hB⟩
    · rw [if_neg hB]
      refine .inr ⟨hB, ?_⟩
      by_cases hA : keysOf ⟨0, [], a⟩ k
      · exact .inl ⟨if_pos hA, hA⟩
      · exact .inr ⟨if_neg hA, hA⟩
  have hfl : (wrote (wrote (mnew 3) 10 ⟨0, [], a⟩) 20 ⟨0, [], b⟩).floor = 3 := rfl
  rcases h with ⟨h1, h2⟩ | ⟨h1, ⟨k, hk, hk2⟩, h3⟩
  · rw [hfl] at h2
    have hb : ∀ k, has s k → ¬ keysOf ⟨0, [], b⟩ k := fun k hk hB => by
      have := h2 k hk
      rcases hf k with ⟨e, _⟩ | ⟨e, _⟩
      · omega
      · exact e hB
    refine .inr ⟨hb, .inr ⟨h1, fun k hk hA => ?_⟩⟩
    have := h2 k hk
    rcases hf k with ⟨e, _⟩ | ⟨_, ⟨e, _⟩ | ⟨_, e⟩⟩
    · omega
    · omega
    · exact e hA
  · rw [hfl] at h1
    rcases hf k with ⟨e, hB⟩ | ⟨hB, ⟨e, hA⟩ | ⟨e, hA⟩⟩
    · exact .inl ⟨by omega, k, hk, hB⟩
    · refine .inr ⟨fun k' hk' hB' => ?_, .inl ⟨by omega, k, hk, hA⟩⟩
      have := h3 k' hk'
      rcases hf k' with ⟨e', _⟩ | ⟨e', _⟩
      · omega
      · exact e' hB'
    · omega
theorem wr_f10 : ferr (wrote (wrote (mnew 3) 10 ⟨0, [], a⟩) 20 ⟨0, [], b⟩) 10 = 0 ∧ fnext (wrote (wrote (mnew 3) 10 ⟨0, [], a⟩) 20 ⟨0, [], b⟩) 10 = { wrote (wrote (mnew 3) 10 ⟨0, [], a⟩) 20 ⟨0, [], b⟩ with floor := 10 } := by
  unfold ferr fnext
  rw [if_neg (by simp [wrote, mnew]), if_neg (by simp [wrote, mnew])]
  exact ⟨rfl, rfl⟩
theorem wr_f20 : ferr { wrote (wrote (mnew 3) 10 ⟨0, [], a⟩) 20 ⟨0, [], b⟩ with floor := 10 } 20 = 0 ∧ fnext { wrote (wrote (mnew 3) 10 ⟨0, [], a⟩) 20 ⟨0, [], b⟩ with floor := 10 } 20 = { wrote (wrote (mnew 3) 10 ⟨0, [], a⟩) 20 ⟨0, [], b⟩ with floor := 20 } := by
  unfold ferr fnext
  rw [if_neg (by simp), if_neg (by simp)]
  exact ⟨rfl, rfl⟩
theorem wr_le (k : K) : (wrote (wrote (mnew 3) 10 ⟨0, [], a⟩) 20 ⟨0, [], b⟩).f k ≤ 20 ∧ (¬ keysOf ⟨0, [], b⟩ k → (wrote (wrote (mnew 3) 10 ⟨0, [], a⟩) 20 ⟨0, [], b⟩).f k ≤ 10) ∧ (keysOf ⟨0, [], b⟩ k → (wrote (wrote (mnew 3) 10 ⟨0, [], a⟩) 20 ⟨0, [], b⟩).f k = 20) := by
  simp only [wrote, mnew]
  refine ⟨?_, fun h => ?_, fun h => if_pos h⟩
  · split
    · omega
    · split <;> omega
  · rw [if_neg h]
    split <;> omega
theorem wr_z (h : LastIs { wrote (wrote (mnew 3) 10 ⟨0, [], a⟩) 20 ⟨0, [], b⟩ with floor := 10 } s z) : (z = 20 ∧ ∃ k, has s k ∧ keysOf ⟨0, [], b⟩ k) ∨ (z = 0 ∧ ∀ k, has s k → ¬ keysOf ⟨0, [], b⟩ k) := by
  rcases h with ⟨h1, h2⟩ | ⟨h1, ⟨k, hk, hk2⟩, h3⟩
  · refine .inr ⟨h1, fun k hk hB => ?_⟩
    have h4 := h2 k hk
    simp only at h4
    rw [(wr_le k).2.2 hB] at h4
    omega
  · simp only at h1 hk2
    by_cases hB : keysOf ⟨0, [], b⟩ k
    · exact .inl ⟨by rw [← hk2, (wr_le k).2.2 hB], k, hk, hB⟩
    · have := (wr_le (a := a) (b := b) k).2.1 hB
      omega
theorem wr_no (h : LastIs { wrote (wrote (mnew 3) 10 ⟨0, [], a⟩) 20 ⟨0, [], b⟩ with floor := 20 } s z) : z = 0 := by
  rcases h with ⟨h1, h2⟩ | ⟨h1, ⟨k, hk, hk2⟩, h3⟩
  · exact h1
  · simp only at h1 hk2
    have := (wr_le (a := a) (b := b) k).1
    omega
theorem wr_size {n : Nat} (h : SizeIs (wrote (wrote (mnew 3) 10 ⟨0, [], a⟩) 20 ⟨0, [], b⟩).f 20 n) : n = 0 := by
  refine SizeIs.eq h ⟨[], by simp, rfl, fun k => ?_⟩
  constructor
  · intro h; simp at h
  · rintro ⟨h1, _⟩
    have := (wr_le (a := a) (b := b) k).1
    omega
end
set_option maxHeartbeats 16000000 in
set_option maxRecDepth 100000 in
theorem marksWrites_walk (a b : List Chg) (va vb : Value) (s : K × K) (w : World) (ha : TxIn w ⟨0, [], a⟩ (.slice none 0 0) va) (hb : TxIn w ⟨0, [], b⟩ (.slice none 0 0) vb) :
    Calls Try.prog 7 #[va, vb, .agg #[.string s.1, .string s.2]] w fun e w' => e = .returned (.bool true) ∧ Below w.heap.size w w' := by
  obtain ⟨sf, st⟩ := s
  simp only
  obtain ⟨_, _, A2, c2, _, rfl⟩ := ha.slices
  obtain ⟨_, _, B2, d2, _, rfl⟩ := hb.slices
  have HTA := Lib.hid ha
  have HTB := Lib.hid hb
  clear ha hb
  simp only
  have hS : Whole (w.alloc (.cells #[.string sf, .string st] 24)) w.heap.size 24 [.string sf, .string st] := Whole.fresh w _ [_, _]
  have hb0 : Below w.heap.size w (w.alloc (.cells #[.string sf, .string st] 24)) := (Below.refl _ w).alloc (Nat.le_refl _) _
  have hz0 : (w.alloc (.cells #[.string sf, .string st] 24)).heap.size = w.heap.size + 1 := by simp
  have HN := Lib.hid (mknew_any 3 (by unfold I64; omega) (w.alloc (.cells #[.string sf, .string st] 24)))
  have HS := Lib.hid hS
  have HB0 := Lib.hid hb0
  have HZ0 := Lib.hid hz0
  clear hS hb0 hz0
  go_enter Try.func7, Try.ntmps7
  go_wp2_with fail
  refine HN.out.mono ?_
  rintro e w1 ⟨q, G, rfl, hk1, hb1⟩
  have HS1 := Lib.hid (HS.out.below hb1 HS.out.size)
  have HB1 := Lib.hid (HB0.out.trans (hb1.mono HB0.out.size))
  have HK1 := Lib.hid hk1
  clear hk1 hb1 HN HS
  go_wp2_with fail
  obtain ⟨wb, hwb⟩ : ∃ wb, (w1.alloc (.cells #[.int .i64 0, .slice none 0 0, .slice A2 a.length c2] 32)).alloc (.cells #[.int .i64 0, .slice none 0 0, .slice B2 b.length d2] 32) = wb := ⟨_, rfl⟩
  have hbb : Below w1.heap.size w1 wb := by rw [← hwb]; exact ((Below.refl _ w1).alloc (Nat.le_refl _) _).alloc (by simp) _
  have p1 : Whole wb w1.heap.size 32 [.int .i64 0, .slice none 0 0, .slice A2 a.length c2] := by rw [← hwb]; exact (Whole.fresh w1 _ [_, _, _]).alloc _
  have p2 : Whole wb (w1.heap.size + 1) 32 [.int .i64 0, .slice none 0 0, .slice B2 b.length d2] := by
    rw [← hwb]
    have := Whole.fresh (w1.alloc (.cells #[.int .i64 0, .slice none 0 0, .slice A2 a.length c2] 32)) 32 [.int .i64 0, .slice none 0 0, .slice B2 b.length d2]
    simp only [World.size_alloc] at this
    exact this
  have P1 := Lib.hid p1
  have P2 := Lib.hid p2
  have HS2 := Lib.hid (HS1.out.below hbb HS1.out.size)
  have HK2 := Lib.hid (HK1.out.new hbb)
  have HB2 := Lib.hid (HB1.out.trans (hbb.mono HB1.out.size))
  have HGN := Lib.hid (show ∀ i, w1.heap.size ≤ i → ¬ G i from fun i hi hg => by have := (HK1.out.low.2 i hg).2; omega)
  have HGL := Lib.hid (show ∀ i, G i → w.heap.size < i from fun i hi => by have := (HK1.out.low.2 i hi).1; have := HZ0.out; omega)
  have HWB := Lib.hid hwb
  have HA := Lib.hid (awake_any wb)
  have hzw := HS1.out.size
  clear hbb p1 p2 hwb HS1 HK1 HB1
  go_wp2_with fail
  rw [HWB.out]
  refine HA.out.mono ?_
  rintro e w2 ⟨rfl, hb2⟩
  have HK3 := Lib.hid (HK2.out.new hb2)
  have HBX := Lib.hid (HB2.out.trans (hb2.mono HB2.out.size))
  have P12 := Lib.hid (P1.out.below hb2 P1.out.size)
  have P22 := Lib.hid (P2.out.below hb2 P2.out.size)
  have HS3 := Lib.hid (HS2.out.below hb2 HS2.out.size)
  have HX := Lib.hid (HTA.out.sound HBX.out)
  unfold tval at HX
  simp only at HX
  have g0 := P12.out.cell 0 _ rfl
  have g1 := P12.out.cell 1 _ rfl
  have g2 := P12.out.cell 2 _ rfl
  clear hb2 HA HK2 HB2 P1 P2 HS2 HWB
  by_cases hs1 : soundT ⟨0, [], a⟩
  case neg =>
    have hsb := decide_eq_false hs1
    go_wp2_with fail
    refine HX.out.mono ?_
    rw [hsb]
    rintro e wz ⟨rfl, hbz⟩
    have HBZ := Lib.hid (HBX.out.trans (hbz.mono HBX.out.size))
    have HA2 := Lib.hid (awake_any wz)
    clear hbz HX
    go_wp2_with fail
    refine HA2.out.mono ?_
    rintro e wy ⟨rfl, hby⟩
    have HBY := Lib.hid (HBZ.out.trans (hby.mono HBZ.out.size))
    go_wp2_with fail
    go_ret
    exact ⟨rfl, HBY.out⟩
  have hsb := decide_eq_true hs1
  go_wp2_with fail
  refine HX.out.mono ?_
  rw [hsb]
  rintro e w3 ⟨rfl, hb3⟩
  have HK4 := Lib.hid (HK3.out.new hb3)
  have HBX' := Lib.hid (HBX.out.trans (hb3.mono HBX.out.size))
  have P13 := Lib.hid (P12.out.below hb3 P12.out.size)
  have P23 := Lib.hid (P22.out.below hb3 P22.out.size)
  have HS4 := Lib.hid (HS3.out.below hb3 HS3.out.size)
  have HX' := Lib.hid (HTB.out.sound HBX'.out)
  unfold tval at HX'
  simp only at HX'
  clear hb3 HX HK3 HBX P12 P22 HS3 g0 g1 g2 hsb
  have HX := HX'
  have HBX := HBX'
  clear HX' HBX'
  have g0 := P23.out.cell 0 _ rfl
  have g1 := P23.out.cell 1 _ rfl
  have g2 := P23.out.cell 2 _ rfl
  by_cases hs2 : soundT ⟨0, [], b⟩
  case neg =>
    have hsb := decide_eq_false hs2
    go_wp2_with fail
    refine HX.out.mono ?_
    rw [hsb]
    rintro e wz ⟨rfl, hbz⟩
    have HBZ := Lib.hid (HBX.out.trans (hbz.mono HBX.out.size))
    have HA2 := Lib.hid (awake_any wz)
    clear hbz HX
    go_wp2_with fail
    refine HA2.out.mono ?_
    rintro e wy ⟨rfl, hby⟩
    have HBY := Lib.hid (HBZ.out.trans (hby.mono HBZ.out.size))
    go_wp2_with fail
    go_ret
    exact ⟨rfl, HBY.out⟩
  have hsb := decide_eq_true hs2
  obtain ⟨hj1, hj2⟩ := wr_first hs1
  obtain ⟨hj3, hj4⟩ := wr_second (a := a) hs2
  have HJ1 := Lib.hid (And.intro hj1 hj2)
  have HJ3 := Lib.hid (And.intro hj3 hj4)
  clear hj1 hj2 hj3 hj4 hs1 hs2
  go_wp2_with fail
  refine HX.out.mono ?_
  rw [hsb]
  rintro e w4 ⟨rfl, hb4⟩
  obtain ⟨wj, hwj⟩ : ∃ wj, w4.alloc (.cells #[.int .i64 0, .slice none 0 0, .slice A2 a.length c2] 32) = wj := ⟨_, rfl⟩
  have hbj : Below w3.heap.size w3 wj := by rw [← hwj]; exact hb4.alloc hb4.size _
  have hj : Whole wj w4.heap.size 32 [.int .i64 0, .slice none 0 0, .slice A2 a.length c2] := by rw [← hwj]; exact Whole.fresh w4 _ [_, _, _]
  have hbx := HBX.out.trans (hbj.mono HBX.out.size)
  have h4z : w1.heap.size ≤ w4.heap.size := by have := hb4.size; have := P13.out.size; omega
  have hone := RdTx.one (G := G) (x := ⟨⟨0, [], a⟩, .slice none 0 0, .slice A2 a.length c2⟩) hj (HTA.out.part hbx (fun i hi => by have := HGL.out i hi; omega)) (HGN.out _ h4z)
  have HJ := Lib.hid (mkjudge_any _ q 0 G (mnew 3) 10 (by unfold I64; omega) _ _ wj (HK4.out.new hbj) hone (fun x hx => by rw [List.mem_singleton] at hx; subst hx; exact HTA.out.fit) (fun x hx => by rw [List.mem_singleton] at hx; subst hx; exact HTA.out.read) (by omega))
  simp only [List.map_cons, List.map_nil] at HJ
  rw [HJ1.out.1, HJ1.out.2] at HJ
  have HKJ := Lib.hid (HK4.out.new hbj)
  have HBJ := Lib.hid hbx
  have HWJ := Lib.hid hwj
  have HS5 := Lib.hid (HS4.out.below hbj HS4.out.size)
  have P25 := Lib.hid (P23.out.below hbj P23.out.size)
  have k0 := (P13.out.below hb4 P13.out.size).cell 0 _ rfl
  have k1 := (P13.out.below hb4 P13.out.size).cell 1 _ rfl
  have k2 := (P13.out.below hb4 P13.out.size).cell 2 _ rfl
  clear hb4 hbj hj hbx h4z hone hwj HX g0 g1 g2 hsb HK4 HBX HS4 P13 P23 HJ1
  go_wp2_with fail
  rw [HWJ.out]
  refine HJ.out.mono ?_
  rintro e w5 ⟨A5, cap5, rfl, G5, hk5, hG5, hm5, _⟩
  have HS6 := Lib.hid (hm5.whole HS5.out (fun hi => by have := HGL.out _ hi; omega))
  have P26 := Lib.hid (hm5.whole P25.out (HGN.out _ (by omega)))
  have HB6 := Lib.hid (HBJ.out.trans (hm5.below HBJ.out.size (fun i hi => by have := HGL.out i hi; omega)))
  have HGN5 := Lib.hid (show ∀ i, G5 i → w.heap.size < i ∧ i ≠ w1.heap.size + 1 from fun i hi => by
    rcases hG5 i hi with h | h
    · exact ⟨HGL.out i h, fun e => HGN.out _ (by omega) h⟩
    · have := P25.out.size; have := HS5.out.size; exact ⟨by omega, by omega⟩)
  have HK6 := Lib.hid hk5
  have HL := Lib.hid (mklast_any _ q _ G5 _ (sf, st) w5 hk5)
  have s0 := HS6.out.cell 0 _ rfl
  have s1 := HS6.out.cell 1 _ rfl
  clear hk5 hG5 hm5 HJ k0 k1 k2 HKJ HBJ HWJ HS5 P25 HGN HGL
  go_wp2_with fail
  refine HL.out.mono ?_
  rintro e w6 ⟨x, rfl, hx, hb6⟩
  have HX1 := Lib.hid (wr_x hx)
  have HK7 := Lib.hid (HK6.out.new hb6)
  have HB7 := Lib.hid (HB6.out.trans (hb6.mono HB6.out.size))
  have HS7 := Lib.hid (HS6.out.below hb6 HS6.out.size)
  have P27 := Lib.hid (P26.out.below hb6 P26.out.size)
  obtain ⟨wj, hwj⟩ : ∃ wj, w6.alloc (.cells #[.int .i64 0, .slice none 0 0, .slice B2 b.length d2] 32) = wj := ⟨_, rfl⟩
  have hbj : Below w6.heap.size w6 wj := by rw [← hwj]; exact (Below.refl _ w6).alloc (Nat.le_refl _) _
  have hj : Whole wj w6.heap.size 32 [.int .i64 0, .slice none 0 0, .slice B2 b.length d2] := by rw [← hwj]; exact Whole.fresh w6 _ [_, _, _]
  have hbx := HB7.out.trans (hbj.mono HB7.out.size)
  have hone := RdTx.one (G := G5) (x := ⟨⟨0, [], b⟩, .slice none 0 0, .slice B2 b.length d2⟩) hj (HTB.out.part hbx (fun i hi => by have := (HGN5.out i hi).1; omega)) (fun hi => by have := (HK7.out.low.2 _ hi).2; omega)
  have HJ := Lib.hid (mkjudge_any _ q _ G5 _ 20 (by unfold I64; omega) _ _ wj (HK7.out.new hbj) hone (fun x hx => by rw [List.mem_singleton] at hx; subst hx; exact HTB.out.fit) (fun x hx => by rw [List.mem_singleton] at hx; subst hx; exact HTB.out.read) (by omega))
  simp only [List.map_cons, List.map_nil] at HJ
  rw [HJ3.out.1, HJ3.out.2] at HJ
  have HBJ := Lib.hid hbx
  have HWJ := Lib.hid hwj
  have HS8 := Lib.hid (HS7.out.below hbj HS7.out.size)
  have k0 := P27.out.cell 0 _ rfl
  have k1 := P27.out.cell 1 _ rfl
  have k2 := P27.out.cell 2 _ rfl
  clear hx hb6 hbj hj hbx hone hwj HL HK6 HB6 HS6 P26 HJ3 s0 s1
  go_wp2_with fail
  rw [HWJ.out]
  refine HJ.out.mono ?_
  rintro e w7 ⟨A7, cap7, rfl, G7, hk7, hG7, hm7, _⟩
  have HS9 := Lib.hid (hm7.whole HS8.out (fun hi => by have := (HGN5.out _ hi).1; omega))
  have HB9 := Lib.hid (HBJ.out.trans (hm7.below HBJ.out.size (fun i hi => by have := (HGN5.out i hi).1; omega)))
  have HGL7 := Lib.hid (show ∀ i, G7 i → w.heap.size < i from fun i hi => by
    rcases hG7 i hi with h | h
    · exact (HGN5.out i h).1
    · have := HS8.out.size; omega)
  have HL := Lib.hid (mklast_any _ q _ G7 _ (sf, st) w7 hk7)
  have HK9 := Lib.hid hk7
  have s0 := HS9.out.cell 0 _ rfl
  have s1 := HS9.out.cell 1 _ rfl
  clear hk7 hG7 hm7 HJ k0 k1 k2 HBJ HWJ HS8 HK7 HB7 HS7 P27 HGN5
  go_wp2_with fail
  refine HL.out.mono ?_
  rintro e w8 ⟨y, rfl, hy, hb8⟩
  have HY1 := Lib.hid (wr_y hy)
  have HK10 := Lib.hid (HK9.out.new hb8)
  have HB10 := Lib.hid (HB9.out.trans (hb8.mono HB9.out.size))
  have HS10 := Lib.hid (HS9.out.below hb8 HS9.out.size)
  have HF := Lib.hid (mkforget_any _ q _ G7 _ 10 (by unfold I64; omega) w8 HK10.out)
  rw [wr_f10.1, wr_f10.2] at HF
  clear hy hb8 HL HK9 HB9 HS9 s0 s1
  -- the numbers
  obtain ⟨hxy, hyb⟩ : ((x = 0 ∧ (y = 0 ∨ y = 20)) ∨ (x = 10 ∧ (y = 10 ∨ y = 20))) ∧ (y = 20 ↔ ∃ k, has (sf, st) k ∧ keysOf ⟨0, [], b⟩ k) := by
    rcases HX1.out with ⟨e1, h1⟩ | ⟨e1, h1⟩ <;> rcases HY1.out with ⟨e2, h2⟩ | ⟨h2, ⟨e2, h3⟩ | ⟨e2, h3⟩⟩
    · exact ⟨.inl ⟨e1, .inr e2⟩, fun _ => h2, fun _ => e2⟩
    · obtain ⟨k, hk, hA⟩ := h3; exact absurd hA (h1 k hk)
    · exact ⟨.inl ⟨e1, .inl e2⟩, fun e => by omega, fun ⟨k, hk, hB⟩ => absurd hB (h2 k hk)⟩
    · exact ⟨.inr ⟨e1, .inr e2⟩, fun _ => h2, fun _ => e2⟩
    · exact ⟨.inr ⟨e1, .inl e2⟩, fun e => by omega, fun ⟨k, hk, hB⟩ => absurd hB (h2 k hk)⟩
    · obtain ⟨k, hk, hA⟩ := h1; exact absurd hA (h3 k hk)
  have HYB := Lib.hid hyb
  clear hyb HX1 HY1
  have hzy : ∀ z, LastIs { wrote (wrote (mnew 3) 10 ⟨0, [], a⟩) 20 ⟨0, [], b⟩ with floor := 10 } (sf, st) z → z = if y = 20 then 20 else 0 := fun z hz => by
    rcases wr_z hz with ⟨e, h⟩ | ⟨e, h⟩
    · rw [e, if_pos (HYB.out.2 h)]
    · rw [e, if_neg (fun e2 => by obtain ⟨k, hk, hB⟩ := HYB.out.1 e2; exact h k hk hB)]
  have HZY := Lib.hid hzy
  clear hzy HYB
  rcases hxy with ⟨rfl, rfl | rfl⟩ | ⟨rfl, rfl | rfl⟩
  · go_wp2_with fail
    refine HF.out.mono ?_
    rintro e w9 ⟨rfl, G9, hk9, hG9, hm9⟩
    have HS11 := Lib.hid (hm9.whole HS10.out (fun hi => by have := HGL7.out _ hi; omega))
    have HB11 := Lib.hid (HB10.out.trans (hm9.below HB10.out.size (fun i hi => by have := HGL7.out i hi; omega)))
    have HGL9 := Lib.hid (show ∀ i, G9 i → w.heap.size < i from fun i hi => by
      rcases hG9 i hi with h | h
      · exact HGL7.out i h
      · have := HS10.out.size; omega)
    have HL := Lib.hid (mklast_any _ q _ G9 _ (sf, st) w9 hk9)
    have HK11 := Lib.hid hk9
    have s0 := HS11.out.cell 0 _ rfl
    have s1 := HS11.out.cell 1 _ rfl
    clear hk9 hG9 hm9 HF HK10 HB10 HS10 HGL7
    go_wp2_with fail
    refine HL.out.mono ?_
    rintro e w10 ⟨z, rfl, hz, hb10⟩
    obtain rfl := HZY.out z hz
    simp only [reduceIte, Int.reduceEq, Int.reduceLT]
    have HK12 := Lib.hid (HK11.out.new hb10)
    have HB12 := Lib.hid (HB11.out.trans (hb10.mono HB11.out.size))
    have HS12 := Lib.hid (HS11.out.below hb10 HS11.out.size)
    have HF := Lib.hid (mkforget_any _ q _ G9 _ 20 (by unfold I64; omega) w10 HK12.out)
    rw [wr_f20.1, wr_f20.2] at HF
    clear hz hb10 HL HK11 HB11 HS11 s0 s1 HZY
    go_wp2_with fail
    refine HF.out.mono ?_
    rintro e w11 ⟨rfl, G11, hk11, hG11, hm11⟩
    have HS13 := Lib.hid (hm11.whole HS12.out (fun hi => by have := HGL9.out _ hi; omega))
    have HB13 := Lib.hid (HB12.out.trans (hm11.below HB12.out.size (fun i hi => by have := HGL9.out i hi; omega)))
    have HSZ := Lib.hid (mksize_any _ q _ G11 _ w11 hk11)
    have HK13 := Lib.hid hk11
    clear hk11 hG11 hm11 HF HK12 HB12 HS12 HGL9
    go_wp2_with fail
    refine HSZ.out.mono ?_
    rintro e w12 ⟨n, rfl, hsz, hb12⟩
    obtain rfl := wr_size hsz
    have HK14 := Lib.hid (HK13.out.new hb12)
    have HB14 := Lib.hid (HB13.out.trans (hb12.mono HB13.out.size))
    have HS14 := Lib.hid (HS13.out.below hb12 HS13.out.size)
    have HL := Lib.hid (mklast_any _ q _ G11 _ (sf, st) w12 HK14.out)
    have s0 := HS14.out.cell 0 _ rfl
    have s1 := HS14.out.cell 1 _ rfl
    clear hsz hb12 HSZ HK13 HB13 HS13
    go_wp2_with fail
    refine HL.out.mono ?_
    rintro e w13 ⟨no, rfl, hno, hb13⟩
    obtain rfl := wr_no hno
    have HB15 := Lib.hid (HB14.out.trans (hb13.mono HB14.out.size))
    clear hno hb13 HL HK14 HB14 HS14 s0 s1
    go_wp2_with fail
    go_ret
    exact ⟨rfl, HB15.out⟩
  · go_wp2_with fail
    refine HF.out.mono ?_
    rintro e w9 ⟨rfl, G9, hk9, hG9, hm9⟩
    have HS11 := Lib.hid (hm9.whole HS10.out (fun hi => by have := HGL7.out _ hi; omega))
    have HB11 := Lib.hid (HB10.out.trans (hm9.below HB10.out.size (fun i hi => by have := HGL7.out i hi; omega)))
    have HGL9 := Lib.hid (show ∀ i, G9 i → w.heap.size < i from fun i hi => by
      rcases hG9 i hi with h | h
      · exact HGL7.out i h
      · have := HS10.out.size; omega)
    have HL := Lib.hid (mklast_any _ q _ G9 _ (sf, st) w9 hk9)
    have HK11 := Lib.hid hk9
    have s0 := HS11.out.cell 0 _ rfl
    have s1 := HS11.out.cell 1 _ rfl
    clear hk9 hG9 hm9 HF HK10 HB10 HS10 HGL7
    go_wp2_with fail
    refine HL.out.mono ?_
    rintro e w10 ⟨z, rfl, hz, hb10⟩
    obtain rfl := HZY.out z hz
    simp only [reduceIte, Int.reduceLT]
    have HK12 := Lib.hid (HK11.out.new hb10)
    have HB12 := Lib.hid (HB11.out.trans (hb10.mono HB11.out.size))
    have HS12 := Lib.hid (HS11.out.below hb10 HS11.out.size)
    have HF := Lib.hid (mkforget_any _ q _ G9 _ 20 (by unfold I64; omega) w10 HK12.out)
    rw [wr_f20.1, wr_f20.2] at HF
    clear hz hb10 HL HK11 HB11 HS11 s0 s1 HZY
    go_wp2_with fail
    refine HF.out.mono ?_
    rintro e w11 ⟨rfl, G11, hk11, hG11, hm11⟩
    have HS13 := Lib.hid (hm11.whole HS12.out (fun hi => by have := HGL9.out _ hi; omega))
    have HB13 := Lib.hid (HB12.out.trans (hm11.below HB12.out.size (fun i hi => by have := HGL9.out i hi; omega)))
    have HSZ := Lib.hid (mksize_any _ q _ G11 _ w11 hk11)
    have HK13 := Lib.hid hk11
    clear hk11 hG11 hm11 HF HK12 HB12 HS12 HGL9
    go_wp2_with fail
    refine HSZ.out.mono ?_
    rintro e w12 ⟨n, rfl, hsz, hb12⟩
    obtain rfl := wr_size hsz
    have HK14 := Lib.hid (HK13.out.new hb12)
    have HB14 := Lib.hid (HB13.out.trans (hb12.mono HB13.out.size))
    have HS14 := Lib.hid (HS13.out.below hb12 HS13.out.size)
    have HL := Lib.hid (mklast_any _ q _ G11 _ (sf, st) w12 HK14.out)
    have s0 := HS14.out.cell 0 _ rfl
    have s1 := HS14.out.cell 1 _ rfl
    clear hsz hb12 HSZ HK13 HB13 HS13
    go_wp2_with fail
    refine HL.out.mono ?_
    rintro e w13 ⟨no, rfl, hno, hb13⟩
    obtain rfl := wr_no hno
    have HB15 := Lib.hid (HB14.out.trans (hb13.mono HB14.out.size))
    clear hno hb13 HL HK14 HB14 HS14 s0 s1
    go_wp2_with fail
    go_ret
    exact ⟨rfl, HB15.out⟩
  · go_wp2_with fail
    refine HF.out.mono ?_
    rintro e w9 ⟨rfl, G9, hk9, hG9, hm9⟩
    have HS11 := Lib.hid (hm9.whole HS10.out (fun hi => by have := HGL7.out _ hi; omega))
    have HB11 := Lib.hid (HB10.out.trans (hm9.below HB10.out.size (fun i hi => by have := HGL7.out i hi; omega)))
    have HGL9 := Lib.hid (show ∀ i, G9 i → w.heap.size < i from fun i hi => by
      rcases hG9 i hi with h | h
      · exact HGL7.out i h
      · have := HS10.out.size; omega)
    have HL := Lib.hid (mklast_any _ q _ G9 _ (sf, st) w9 hk9)
    have HK11 := Lib.hid hk9
    have s0 := HS11.out.cell 0 _ rfl
    have s1 := HS11.out.cell 1 _ rfl
    clear hk9 hG9 hm9 HF HK10 HB10 HS10 HGL7
    go_wp2_with fail
    refine HL.out.mono ?_
    rintro e w10 ⟨z, rfl, hz, hb10⟩
    obtain rfl := HZY.out z hz
    simp only [reduceIte, Int.reduceEq, Int.reduceLT]
    have HK12 := Lib.hid (HK11.out.new hb10)
    have HB12 := Lib.hid (HB11.out.trans (hb10.mono HB11.out.size))
    have HS12 := Lib.hid (HS11.out.below hb10 HS11.out.size)
    have HF := Lib.hid (mkforget_any _ q _ G9 _ 20 (by unfold I64; omega) w10 HK12.out)
    rw [wr_f20.1, wr_f20.2] at HF
    clear hz hb10 HL HK11 HB11 HS11 s0 s1 HZY
    go_wp2_with fail
    refine HF.out.mono ?_
    rintro e w11 ⟨rfl, G11, hk11, hG11, hm11⟩
    have HS13 := Lib.hid (hm11.whole HS12.out (fun hi => by have := HGL9.out _ hi; omega))
    have HB13 := Lib.hid (HB12.out.trans (hm11.below HB12.out.size (fun i hi => by have := HGL9.out i hi; omega)))
    have HSZ := Lib.hid (mksize_any _ q _ G11 _ w11 hk11)
    have HK13 := Lib.hid hk11
    clear hk11 hG11 hm11 HF HK12 HB12 HS12 HGL9
    go_wp2_with fail
    refine HSZ.out.mono ?_
    rintro e w12 ⟨n, rfl, hsz, hb12⟩
    obtain rfl := wr_size hsz
    have HK14 := Lib.hid (HK13.out.new hb12)
    have HB14 := Lib.hid (HB13.out.trans (hb12.mono HB13.out.size))
    have HS14 := Lib.hid (HS13.out.below hb12 HS13.out.size)
    have HL := Lib.hid (mklast_any _ q _ G11 _ (sf, st) w12 HK14.out)
    have s0 := HS14.out.cell 0 _ rfl
    have s1 := HS14.out.cell 1 _ rfl
    clear hsz hb12 HSZ HK13 HB13 HS13
    go_wp2_with fail
    refine HL.out.mono ?_
    rintro e w13 ⟨no, rfl, hno, hb13⟩
    obtain rfl := wr_no hno
    have HB15 := Lib.hid (HB14.out.trans (hb13.mono HB14.out.size))
    clear hno hb13 HL HK14 HB14 HS14 s0 s1
    go_wp2_with fail
    go_ret
    exact ⟨rfl, HB15.out⟩
  · go_wp2_with fail
    refine HF.out.mono ?_
    rintro e w9 ⟨rfl, G9, hk9, hG9, hm9⟩
    have HS11 := Lib.hid (hm9.whole HS10.out (fun hi => by have := HGL7.out _ hi; omega))
    have HB11 := Lib.hid (HB10.out.trans (hm9.below HB10.out.size (fun i hi => by have := HGL7.out i hi; omega)))
    have HGL9 := Lib.hid (show ∀ i, G9 i → w.heap.size < i from fun i hi => by
      rcases hG9 i hi with h | h
      · exact HGL7.out i h
      · have := HS10.out.size; omega)
    have HL := Lib.hid (mklast_any _ q _ G9 _ (sf, st) w9 hk9)
    have HK11 := Lib.hid hk9
    have s0 := HS11.out.cell 0 _ rfl
    have s1 := HS11.out.cell 1 _ rfl
    clear hk9 hG9 hm9 HF HK10 HB10 HS10 HGL7
    go_wp2_with fail
    refine HL.out.mono ?_
    rintro e w10 ⟨z, rfl, hz, hb10⟩
    obtain rfl := HZY.out z hz
    simp only [reduceIte, Int.reduceLT]
    have HK12 := Lib.hid (HK11.out.new hb10)
    have HB12 := Lib.hid (HB11.out.trans (hb10.mono HB11.out.size))
    have HS12 := Lib.hid (HS11.out.below hb10 HS11.out.size)
    have HF := Lib.hid (mkforget_any _ q _ G9 _ 20 (by unfold I64; omega) w10 HK12.out)
    rw [wr_f20.1, wr_f20.2] at HF
    clear hz hb10 HL HK11 HB11 HS11 s0 s1 HZY
    go_wp2_with fail
    refine HF.out.mono ?_
    rintro e w11 ⟨rfl, G11, hk11, hG11, hm11⟩
    have HS13 := Lib.hid (hm11.whole HS12.out (fun hi => by have := HGL9.out _ hi; omega))
    have HB13 := Lib.hid (HB12.out.trans (hm11.below HB12.out.size (fun i hi => by have := HGL9.out i hi; omega)))
    have HSZ := Lib.hid (mksize_any _ q _ G11 _ w11 hk11)
    have HK13 := Lib.hid hk11
    clear hk11 hG11 hm11 HF HK12 HB12 HS12 HGL9
    go_wp2_with fail
    refine HSZ.out.mono ?_
    rintro e w12 ⟨n, rfl, hsz, hb12⟩
    obtain rfl := wr_size hsz
    have HK14 := Lib.hid (HK13.out.new hb12)
    have HB14 := Lib.hid (HB13.out.trans (hb12.mono HB13.out.size))
    have HS14 := Lib.hid (HS13.out.below hb12 HS13.out.size)
    have HL := Lib.hid (mklast_any _ q _ G11 _ (sf, st) w12 HK14.out)
    have s0 := HS14.out.cell 0 _ rfl
    have s1 := HS14.out.cell 1 _ rfl
    clear hsz hb12 HSZ HK13 HB13 HS13
    go_wp2_with fail
    refine HL.out.mono ?_
    rintro e w13 ⟨no, rfl, hno, hb13⟩
    obtain rfl := wr_no hno
    have HB15 := Lib.hid (HB14.out.trans (hb13.mono HB14.out.size))
    clear hno hb13 HL HK14 HB14 HS14 s0 s1
    go_wp2_with fail
    go_ret
    exact ⟨rfl, HB15.out⟩
end Go.Proofs.Ytcmpbhcldaogiaa

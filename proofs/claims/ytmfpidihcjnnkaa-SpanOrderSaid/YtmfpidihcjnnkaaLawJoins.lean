/- The walks of the laws SpanJoins and SpanWithout. -/
import Derived.Test.YtmfpidihcjnnkaaSame
namespace Go.Proofs.Ytmfpidihcjnnkaa
open Go.RowKit
attribute [local go_sem] less_eq same_eq le_eq ge_eq gt_eq

theorem RdS.next {w w' : World} {v : Value} {l : List (K × K)} (h : RdS w w.heap.size v l) (hb : Below w.heap.size w w') : RdS w' w'.heap.size v l := (h.below hb (Nat.le_refl _)).mono hb.size
theorem RdS.take {w : World} {B : Nat} {A : Option Addr} {c m : Nat} {l : List (K × K)} (h : RdS w B (.slice A m c) l) (n : Nat) (hn : n ≤ l.length) : RdS w B (.slice A n c) (l.take n) := by
  obtain ⟨A', c', hv, hc, hi⟩ := h
  injection hv with h1 h2 h3
  subst h1 h3
  refine ⟨A, c, by simp [Nat.min_eq_left hn], by simp; omega, fun i s hs => ?_⟩
  rw [List.getElem?_take] at hs
  split at hs
  · exact hi i s hs
  · cases hs
theorem RdS.form {w : World} {B : Nat} {v : Value} {l : List (K × K)} (h : RdS w B v l) : ∃ A c, v = .slice A l.length c ∧ l.length ≤ c := by
  obtain ⟨A, c, h1, h2, _⟩ := h
  exact ⟨A, c, h1, h2⟩

set_option maxHeartbeats 1000000 in
set_option maxRecDepth 100000 in
theorem spanJoins_walk (l0 : List (K × K)) (v : Value) (w : World) (hv : RdS w w.heap.size v l0) : Calls Try.prog 7 #[v] w fun e w' => e = .returned (.bool true) ∧ Below w.heap.size w w' := by
  obtain ⟨A, c, rfl, hc⟩ := hv.form
  by_cases hlong : 60 < l0.length
  · obtain ⟨l, hl⟩ : ∃ l, l = l0.take 60 := ⟨_, rfl⟩
    have hn : l.length = 60 := by rw [hl]; simp; omega
    have hv2 : RdS w w.heap.size (.slice A 60 c) l := by rw [hl]; exact hv.take 60 (by omega)
    have hll : l.length ≤ 100 := by omega
    clear hl hv
    have HV := Lib.hid hv2; clear hv2
    go_enter Try.func7, Try.ntmps7
    go_wp2_with fail
    refine (awake_any _).mono ?_
    rintro e w1 ⟨rfl, hb1⟩
    have HB1 := Lib.hid hb1; clear hb1
    go_wp2_with fail
    refine (join_any l _ w1 (HV.out.next HB1.out) (by omega)).mono ?_
    rintro e w2 ⟨v1, R1, rfl, ho1, hb2, hn1, hm1, hl1⟩
    have HO1 := Lib.hid ho1; clear ho1
    have HB2 := Lib.hid hb2; clear hb2
    have hf1 : Fits R1 (fun k => mem l k) := ⟨hn1, hm1⟩
    have HF1 := Lib.hid hf1; clear hf1 hn1 hm1
    go_wp2_with fail
    refine (rjoin_any l _ w2 ((HV.out.next HB1.out).next HB2.out) hll).mono ?_
    rintro e w3 ⟨v2, R2, rfl, ho2, hb3, hf2, hl2⟩
    have HO2 := Lib.hid ho2; clear ho2
    have HB3 := Lib.hid hb3; clear hb3
    have hs := same_any R1 R2 v1 v2 w3 (HO1.out.rd.next HB3.out) HO2.out.rd (by omega) (by omega)
    rw [show decide (R1 = R2) = true from decide_eq_true (HF1.out.eq hf2)] at hs
    have HS := Lib.hid hs; clear hs hf2
    go_wp2_with fail
    refine HS.out.mono ?_
    rintro e w4 ⟨rfl, hb4⟩
    have HB4 := Lib.hid hb4; clear hb4
    go_wp2_with fail
    go_ret
    exact ⟨rfl, HB1.out.trans ((HB2.out.mono HB1.out.size).trans ((HB3.out.mono (Nat.le_trans HB1.out.size HB2.out.size)).trans (HB4.out.mono (Nat.le_trans (Nat.le_trans HB1.out.size HB2.out.size) HB3.out.size))))⟩
  · obtain ⟨l, hl⟩ : ∃ l, l = l0 := ⟨_, rfl⟩
    subst hl
    have hll : l.length ≤ 100 := by omega
    have HV := Lib.hid hv; clear hv
    go_enter Try.func7, Try.ntmps7
    go_wp2_with fail
    refine (awake_any _).mono ?_
    rintro e w1 ⟨rfl, hb1⟩
    have HB1 := Lib.hid hb1; clear hb1
    go_wp2_with fail
    refine (join_any l _ w1 (HV.out.next HB1.out) (by omega)).mono ?_
    rintro e w2 ⟨v1, R1, rfl, ho1, hb2, hn1, hm1, hl1⟩
    have HO1 := Lib.hid ho1; clear ho1
    have HB2 := Lib.hid hb2; clear hb2
    have hf1 : Fits R1 (fun k => mem l k) := ⟨hn1, hm1⟩
    have HF1 := Lib.hid hf1; clear hf1 hn1 hm1
    go_wp2_with fail
    refine (rjoin_any l _ w2 ((HV.out.next HB1.out).next HB2.out) hll).mono ?_
    rintro e w3 ⟨v2, R2, rfl, ho2, hb3, hf2, hl2⟩
    have HO2 := Lib.hid ho2; clear ho2
    have HB3 := Lib.hid hb3; clear hb3
    have hs := same_any R1 R2 v1 v2 w3 (HO1.out.rd.next HB3.out) HO2.out.rd (by omega) (by omega)
    rw [show decide (R1 = R2) = true from decide_eq_true (HF1.out.eq hf2)] at hs
    have HS := Lib.hid hs; clear hs hf2
    go_wp2_with fail
    refine HS.out.mono ?_
    rintro e w4 ⟨rfl, hb4⟩
    have HB4 := Lib.hid hb4; clear hb4
    go_wp2_with fail
    go_ret
    exact ⟨rfl, HB1.out.trans ((HB2.out.mono HB1.out.size).trans ((HB3.out.mono (Nat.le_trans HB1.out.size HB2.out.size)).trans (HB4.out.mono (Nat.le_trans (Nat.le_trans HB1.out.size HB2.out.size) HB3.out.size))))⟩

/-- a span's box, in whatever world the law comes to, and the list -/
def HeldW (w : World) (b : Nat) (s : K × K) (W : World) : Prop := W.cell? ⟨b, 0, none⟩ = some (.string s.1) ∧ W.cell? ⟨b, 1, none⟩ = some (.string s.2) ∧ Below w.heap.size w W ∧ b < W.heap.size
theorem HeldW.bel {w : World} {b : Nat} {s : K × K} {W : World} (h : HeldW w b s W) : Below w.heap.size w W := h.2.2.1
theorem HeldW.below {w : World} {b : Nat} {s : K × K} {W W' : World} (h : HeldW w b s W) (hb : Below W.heap.size W W') : HeldW w b s W' :=
  ⟨(hb.cell (p := ⟨b, 0, none⟩) h.2.2.2).trans h.1, (hb.cell (p := ⟨b, 1, none⟩) h.2.2.2).trans h.2.1, h.2.2.1.trans (hb.mono h.2.2.1.size), Nat.lt_of_lt_of_le h.2.2.2 hb.size⟩

set_option maxHeartbeats 1000000 in
set_option maxRecDepth 100000 in
theorem spanWithout_walk (s : K × K) (l0 : List (K × K)) (v : Value) (w : World) (hv : RdS w w.heap.size v l0) : Calls Try.prog 8 #[.agg #[.string s.1, .string s.2], v] w fun e w' => e = .returned (.bool true) ∧ Below w.heap.size w w' := by
  obtain ⟨A, c, rfl, hc⟩ := hv.form
  have hold : HeldW w w.heap.size s (w.alloc (.cells #[.string s.1, .string s.2] 23)).drew := ⟨World.cell?_alloc_at _ _ _ _ rfl, World.cell?_alloc_at _ _ _ _ rfl, ((Below.refl _ w).alloc (Nat.le_refl _) _).drew, by show _ < (w.alloc _).heap.size; simp⟩
  by_cases hlong : 60 < l0.length
  · obtain ⟨l, hl⟩ : ∃ l, l = l0.take 60 := ⟨_, rfl⟩
    have hn : l.length = 60 := by rw [hl]; simp; omega
    have hv2 : RdS w w.heap.size (.slice A 60 c) l := by rw [hl]; exact hv.take 60 (by omega)
    have hll : l.length ≤ 90 := by omega
    clear hl hv
    have HV := Lib.hid hv2; clear hv2
    go_enter Try.func8, Try.ntmps8
    go_wp2_with fail
    refine wp_region_plan (S := HeldW w w.heap.size s) [(false, 0), (true, 1), (true, 2), (true, 3), (true, 5), (true, 6), (false, 4), (false, 7), (false, 8), (true, 9), (true, 10)] (by kernel_rfl) (by kernel_rfl) (fun _ _ d _ _ h => by cases d <;> exact h) hold ?_
    repeat (first | (refine Plan.take (v := ?_) rfl rfl ?_ ?_; rotate_left; (focus (intro W hW; obtain ⟨c1, c2, _, _⟩ := hW; go_simp; (try with_reducible rfl); done)); (try simp only [Act.put, List.setIfInBounds_toArray, List.set_cons_zero, List.set_cons_succ])) | (refine Plan.skip rfl rfl ?_; (try simp only [Act.put, List.setIfInBounds_toArray, List.set_cons_zero, List.set_cons_succ])) | (refine Plan.pass rfl rfl hold ?_; (try simp only [Act.put, List.setIfInBounds_toArray, List.set_cons_zero, List.set_cons_succ])) | (refine Plan.step rfl rfl (fun Kk hK => ?_); go_simp; (first | (go_at_call 11; (with_reducible refine (awake_any _).mono ?_); rintro e w' ⟨rfl, hb⟩) | (go_at_call 23; (with_reducible refine (without_any s l _ _ ((HV.out.below hold.bel (Nat.le_refl _)).mono hold.bel.size) (by omega)).mono ?_); rintro e w' ⟨v1, R1, rfl, ho1, hb, hn1, hm1, hl1⟩; have hr1 := ho1.rd; clear ho1) | (go_at_call 24; (with_reducible refine (rwithout_any s l _ _ ((HV.out.below hold.bel (Nat.le_refl _)).mono hold.bel.size) hll).mono ?_); rintro e w' ⟨v2, R2, rfl, ho2, hb, hf2, hl2⟩; replace hr1 := hr1.next hb; have hr2 := ho2.rd; clear ho2; have hs := same_any R1 R2 v1 v2 _ hr1 hr2 (by omega) (by omega); rw [show decide (R1 = R2) = true from decide_eq_true (Fits.eq ⟨hn1, hm1⟩ hf2)] at hs; have HS := Lib.hid hs; clear hs) | (go_at_call 20; (with_reducible refine HS.out.mono ?_); rintro e w' ⟨rfl, hb⟩)); refine hK.out _ _ (hold.below hb) ?_; replace hold := hold.below hb; clear hK Kk hb; (try simp only [Act.put, List.setIfInBounds_toArray, List.set_cons_zero, List.set_cons_succ])))
    simp only [Plan]
    go_wp2_with fail
    go_ret
    exact ⟨rfl, hold.2.2.1⟩
  · obtain ⟨l, hl⟩ : ∃ l, l = l0 := ⟨_, rfl⟩
    subst hl
    have hll : l.length ≤ 90 := by omega
    have HV := Lib.hid hv; clear hv
    go_enter Try.func8, Try.ntmps8
    go_wp2_with fail
    refine wp_region_plan (S := HeldW w w.heap.size s) [(false, 0), (true, 1), (true, 2), (true, 3), (true, 5), (true, 6), (false, 4), (false, 7), (false, 8), (true, 9), (true, 10)] (by kernel_rfl) (by kernel_rfl) (fun _ _ d _ _ h => by cases d <;> exact h) hold ?_
    repeat (first | (refine Plan.take (v := ?_) rfl rfl ?_ ?_; rotate_left; (focus (intro W hW; obtain ⟨c1, c2, _, _⟩ := hW; go_simp; (try with_reducible rfl); done)); (try simp only [Act.put, List.setIfInBounds_toArray, List.set_cons_zero, List.set_cons_succ])) | (refine Plan.skip rfl rfl ?_; (try simp only [Act.put, List.setIfInBounds_toArray, List.set_cons_zero, List.set_cons_succ])) | (refine Plan.pass rfl rfl hold ?_; (try simp only [Act.put, List.setIfInBounds_toArray, List.set_cons_zero, List.set_cons_succ])) | (refine Plan.step rfl rfl (fun Kk hK => ?_); go_simp; (first | (go_at_call 11; (with_reducible refine (awake_any _).mono ?_); rintro e w' ⟨rfl, hb⟩) | (go_at_call 23; (with_reducible refine (without_any s l _ _ ((HV.out.below hold.bel (Nat.le_refl _)).mono hold.bel.size) (by omega)).mono ?_); rintro e w' ⟨v1, R1, rfl, ho1, hb, hn1, hm1, hl1⟩; have hr1 := ho1.rd; clear ho1) | (go_at_call 24; (with_reducible refine (rwithout_any s l _ _ ((HV.out.below hold.bel (Nat.le_refl _)).mono hold.bel.size) hll).mono ?_); rintro e w' ⟨v2, R2, rfl, ho2, hb, hf2, hl2⟩; replace hr1 := hr1.next hb; have hr2 := ho2.rd; clear ho2; have hs := same_any R1 R2 v1 v2 _ hr1 hr2 (by omega) (by omega); rw [show decide (R1 = R2) = true from decide_eq_true (Fits.eq ⟨hn1, hm1⟩ hf2)] at hs; have HS := Lib.hid hs; clear hs) | (go_at_call 20; (with_reducible refine HS.out.mono ?_); rintro e w' ⟨rfl, hb⟩)); refine hK.out _ _ (hold.below hb) ?_; replace hold := hold.below hb; clear hK Kk hb; (try simp only [Act.put, List.setIfInBounds_toArray, List.set_cons_zero, List.set_cons_succ])))
    simp only [Plan]
    go_wp2_with fail
    go_ret
    exact ⟨rfl, hold.2.2.1⟩
end Go.Proofs.Ytmfpidihcjnnkaa

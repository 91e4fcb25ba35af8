/- The walk of the law SpanMeets. -/
import Derived.Test.YtmfpidihcjnnkaaEqual
namespace Go.Proofs.Ytmfpidihcjnnkaa
open Go.RowKit
attribute [local go_sem] less_eq same_eq le_eq ge_eq gt_eq

theorem meet_comm (a b : K × K) : meet b a = meet a b := by
  have h1 : mx b.1 a.1 = mx a.1 b.1 := by have := mx_cases a.1 b.1; have := mx_cases b.1 a.1; grind
  have h2 : mn b.2 a.2 = mn a.2 b.2 := by have := mn_cases a.2 b.2; have := mn_cases b.2 a.2; grind
  unfold meet
  rw [h1, h2]
theorem nothing_below (k : K) : ¬ k < (⟨#[]⟩ : K) := by
  exact List.not_lt_nil _
theorem meet_has (a b : K × K) (k : K) : hasB (meet a b) k = (hasB a k && hasB b k) := by
  have h1 := mx_cases a.1 b.1
  have h2 := mn_cases a.2 b.2
  have h3 := nothing_below k
  unfold hasB meet
  rw [Bool.eq_iff_iff]
  split
  · simp only [Bool.and_eq_true, decide_eq_true_eq]; grind
  · simp only [Bool.and_eq_true, decide_eq_true_eq]; grind

/-- the boxes of three spans, in whatever world the law comes to -/
def HeldM (w : World) (c d g : Nat) (a b m : K × K) (W : World) : Prop :=
  W.cell? ⟨c, 0, none⟩ = some (.string a.1) ∧ W.cell? ⟨c, 1, none⟩ = some (.string a.2) ∧ W.cell? ⟨d, 0, none⟩ = some (.string b.1) ∧ W.cell? ⟨d, 1, none⟩ = some (.string b.2) ∧
  W.cell? ⟨g, 0, none⟩ = some (.string m.1) ∧ W.cell? ⟨g, 1, none⟩ = some (.string m.2) ∧ Below w.heap.size w W ∧ (c < W.heap.size ∧ d < W.heap.size ∧ g < W.heap.size ∧ w.heap.size ≤ W.heap.size)
theorem HeldM.below {w : World} {c d g : Nat} {a b m : K × K} {W W' : World} (h : HeldM w c d g a b m W) (hb : Below W.heap.size W W') : HeldM w c d g a b m W' := by
  obtain ⟨h1, h2, h3, h4, h5, h6, h7, l1, l2, l3, l4⟩ := h
  have hz := hb.size
  exact ⟨(hb.cell (p := ⟨c, 0, none⟩) l1).trans h1, (hb.cell (p := ⟨c, 1, none⟩) l1).trans h2, (hb.cell (p := ⟨d, 0, none⟩) l2).trans h3, (hb.cell (p := ⟨d, 1, none⟩) l2).trans h4,
    (hb.cell (p := ⟨g, 0, none⟩) l3).trans h5, (hb.cell (p := ⟨g, 1, none⟩) l3).trans h6, h7.trans (hb.mono l4), by omega, by omega, by omega, by omega⟩

set_option maxHeartbeats 2000000 in
set_option maxRecDepth 100000 in
theorem spanMeets_walk (a b : K × K) (k : K) (w : World) : Calls Try.prog 6 #[.agg #[.string a.1, .string a.2], .agg #[.string b.1, .string b.2], .string k] w fun e w' => e = .returned (.bool true) ∧ Below w.heap.size w w' := by
  have h1 := fun W => meet_any a b W
  have h2 := fun W => rmeet_any a b W
  have h3 := fun W => meet_any b a W
  rw [meet_comm] at h3
  have hm := meet_has a b k
  generalize hg : meet a b = m at h1 h2 h3 hm
  clear hg
  have h4 := fun W => has_any m k W
  have h5 := fun W => has_any a k W
  have h6 := fun W => has_any b k W
  rw [show (decide (m.1 ≤ k) && decide (k < m.2)) = hasB m k from rfl, hm] at h4
  rw [show (decide (a.1 ≤ k) && decide (k < a.2)) = hasB a k from rfl] at h5
  rw [show (decide (b.1 ≤ k) && decide (k < b.2)) = hasB b k from rfl] at h6
  unfold spv at h1 h2 h3
  generalize hasB a k = x at h4 h5
  generalize hasB b k = y at h4 h6
  clear hm
  have heq := eql_span
  have hgd := span_guard
  have H1 := Lib.hid h1; clear h1
  have H2 := Lib.hid h2; clear h2
  have H3 := Lib.hid h3; clear h3
  cases x <;> cases y
  all_goals
    simp only [Bool.and_true, Bool.and_false, Bool.and_self] at h4
    have H4 := Lib.hid h4; clear h4
    have H5 := Lib.hid h5; clear h5
    have H6 := Lib.hid h6; clear h6
    go_enter Try.func6, Try.ntmps6
    go_wp2_with fail
    refine (H1.out _).mono ?_
    rintro e w2 ⟨rfl, hb2⟩
    have hz := hb2.size
    simp only [World.size_alloc] at hz
    have q1 : w2.cell? ⟨w.heap.size, 0, none⟩ = some (.string a.1) := by rw [hb2.cell (by simp; omega)]; go_simp
    have q2 : w2.cell? ⟨w.heap.size, 1, none⟩ = some (.string a.2) := by rw [hb2.cell (by simp; omega)]; go_simp
    have q3 : w2.cell? ⟨w.heap.size + 1, 0, none⟩ = some (.string b.1) := by rw [hb2.cell (by simp)]; go_simp
    have q4 : w2.cell? ⟨w.heap.size + 1, 1, none⟩ = some (.string b.2) := by rw [hb2.cell (by simp)]; go_simp
    have hbw : Below w.heap.size w w2 := (((Below.refl _ w).alloc (Nat.le_refl _) _).alloc (by simp) _).trans (hb2.mono (by simp; omega))
    have HBW := Lib.hid hbw; clear hbw hb2
    go_wp2_with fail
    have hold : HeldM w w.heap.size (w.heap.size + 1) w2.heap.size a b m (w2.alloc (.cells #[.string m.1, .string m.2] 23)).drew :=
      ⟨(World.cell?_alloc_past _ _ _ (by omega)).trans q1, (World.cell?_alloc_past _ _ _ (by omega)).trans q2, (World.cell?_alloc_past _ _ _ (by omega)).trans q3, (World.cell?_alloc_past _ _ _ (by omega)).trans q4,
        World.cell?_alloc_at _ _ _ _ rfl, World.cell?_alloc_at _ _ _ _ rfl, (HBW.out.alloc (by omega) _).drew, by show _ < (w2.alloc _).heap.size; simp; omega, by show _ < (w2.alloc _).heap.size; simp; omega, by show _ < (w2.alloc _).heap.size; simp, by show _ ≤ (w2.alloc _).heap.size; simp; omega⟩
    clear q1 q2 q3 q4
    refine wp_region_plan (S := HeldM w w.heap.size (w.heap.size + 1) w2.heap.size a b m) [(false, 0), (true, 1), (true, 2), (true, 3), (true, 4), (false, 5), (true, 6), (true, 7), (true, 8), (true, 9), (true, 10), (true, 11), (false, 12), (true, 13), (true, 14), (true, 15), (true, 16), (true, 17), (true, 19), (true, 20), (false, 18), (false, 21), (true, 22), (true, 23), (true, 24), (false, 25), (true, 26), (true, 27), (true, 28), (true, 29)] (by kernel_rfl) (by kernel_rfl) (fun _ _ d _ _ h => by cases d <;> exact h) hold ?_
    repeat (first | (refine Plan.take (v := ?_) rfl rfl ?_ ?_; rotate_left; (focus (intro W hW; obtain ⟨c1, c2, c3, c4, c5, c6, _, _⟩ := hW; go_simp; (try with_reducible rfl); done)); (try simp only [Act.put, List.setIfInBounds_toArray, List.set_cons_zero, List.set_cons_succ])) | (refine Plan.skip rfl rfl ?_; (try simp only [Act.put, List.setIfInBounds_toArray, List.set_cons_zero, List.set_cons_succ])) | (refine Plan.pass rfl rfl hold ?_; (try simp only [Act.put, List.setIfInBounds_toArray, List.set_cons_zero, List.set_cons_succ])) | (refine Plan.step rfl rfl (fun Kk hK => ?_); go_simp; (first | (go_at_call 11; (with_reducible refine (awake_any _).mono ?_); rintro e w' ⟨rfl, hb⟩) | (go_at_call 19; (with_reducible refine (H2.out _).mono ?_); rintro e w' ⟨rfl, hb⟩) | (go_at_call 18; (with_reducible refine (H3.out _).mono ?_); rintro e w' ⟨rfl, hb⟩) | (go_at_call 12; (with_reducible refine (H4.out _).mono ?_); rintro e w' ⟨rfl, hb⟩) | (go_at_call 12; (with_reducible refine (H5.out _).mono ?_); rintro e w' ⟨rfl, hb⟩) | (go_at_call 12; (with_reducible refine (H6.out _).mono ?_); rintro e w' ⟨rfl, hb⟩)); refine hK.out _ _ (hold.below hb) ?_; replace hold := hold.below hb; clear hK Kk hb; (try simp only [Act.put, List.setIfInBounds_toArray, List.set_cons_zero, List.set_cons_succ])))
    simp only [Plan]
    go_wp2_with fail
    go_ret
    exact ⟨rfl, hold.2.2.2.2.2.2.1⟩
end Go.Proofs.Ytmfpidihcjnnkaa

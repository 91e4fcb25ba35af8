/- The law SpanHas is met by every span and key: the walk of the law. -/
import Derived.Test.YtmfpidihcjnnkaaAwake
import Derived.Test.YtmfpidihcjnnkaaPlan
namespace Go.Proofs.Ytmfpidihcjnnkaa
open Go.RowKit
attribute [local go_sem] less_eq same_eq le_eq ge_eq gt_eq

/-- the box of a span, in whatever world the law comes to -/
def Held (B : Nat) (w : World) (s : K × K) (W : World) : Prop := W.cell? ⟨B, 0, none⟩ = some (.string s.1) ∧ W.cell? ⟨B, 1, none⟩ = some (.string s.2) ∧ Below B w W ∧ B < W.heap.size
theorem Held.below {B : Nat} {w : World} {s : K × K} {W W' : World} (h : Held B w s W) (hb : Below W.heap.size W W') : Held B w s W' :=
  ⟨(hb.cell (p := ⟨B, 0, none⟩) h.2.2.2).trans h.1, (hb.cell (p := ⟨B, 1, none⟩) h.2.2.2).trans h.2.1, h.2.2.1.trans (hb.mono (Nat.le_of_lt h.2.2.2)), Nat.lt_of_lt_of_le h.2.2.2 hb.size⟩

theorem Held.drew {B : Nat} {w : World} {s : K × K} {W : World} (h : Held B w s W) : Held B w s W.drew := ⟨h.1, h.2.1, h.2.2.1.drew, h.2.2.2⟩

set_option maxHeartbeats 1000000 in
set_option maxRecDepth 100000 in
theorem spanHas_walk (s : K × K) (k : K) (w : World) : Calls Try.prog 3 #[.agg #[.string s.1, .string s.2], .string k] w fun e w' => e = .returned (.bool true) ∧ Below w.heap.size w w' := by
  have hhas := fun W => has_any s k W
  have hrhas := fun W => rhas_any s k W
  have hemp := fun W => empty_any s W
  obtain ⟨b, hb⟩ : ∃ b, b = (decide (s.1 ≤ k) && decide (k < s.2)) := ⟨_, rfl⟩
  obtain ⟨e, he⟩ : ∃ e, e = decide (s.2 ≤ s.1) := ⟨_, rfl⟩
  have hno : ¬ (b = true ∧ e = true) := by rw [hb, he]; simp; grind
  have hge : decide (s.2 ≤ s.1) = e := he.symm
  rw [← hb] at hhas hrhas
  rw [← he] at hemp
  clear hb he
  have H1 := Lib.hid hhas; clear hhas
  have H2 := Lib.hid hrhas; clear hrhas
  have H3 := Lib.hid hemp; clear hemp
  have hold : Held w.heap.size w s (w.alloc (.cells #[.string s.1, .string s.2] 23)) := ⟨by rw [World.cell?_alloc_at _ _ _ _ rfl]; rfl, by rw [World.cell?_alloc_at _ _ _ _ rfl]; rfl, (Below.refl _ _).alloc (Nat.le_refl _) _, by simp⟩
  cases b <;> cases e
  · clear hno
    go_enter Try.func3, Try.ntmps3
    go_wp2_with fail
    replace hold := hold.drew
    refine wp_region_plan (S := Held w.heap.size w s) [(false, 0), (true, 1), (true, 2), (true, 3), (true, 5), (true, 6), (false, 4), (false, 7), (true, 8), (true, 9), (true, 10), (true, 11), (true, 13), (true, 14), (true, 15), (true, 16), (true, 17), (false, 12), (true, 18), (true, 19), (true, 20), (true, 21), (true, 22), (false, 23), (true, 24), (true, 25), (true, 26), (false, 27), (true, 28), (true, 29), (true, 30), (true, 31)] (by kernel_rfl) (by kernel_rfl) (fun _ _ d _ _ h => by cases d <;> exact h) hold ?_
    repeat (first | (refine Plan.take (v := ?_) rfl rfl ?_ ?_; rotate_left; (focus (intro W hW; obtain ⟨c1, c2, _, _⟩ := hW; go_simp; (try with_reducible rfl); done)); (try simp only [Act.put, List.setIfInBounds_toArray, List.set_cons_zero, List.set_cons_succ])) | (refine Plan.skip rfl rfl ?_; (try simp only [Act.put, List.setIfInBounds_toArray, List.set_cons_zero, List.set_cons_succ])) | (refine Plan.pass rfl rfl hold ?_; (try simp only [Act.put, List.setIfInBounds_toArray, List.set_cons_zero, List.set_cons_succ])) | (refine Plan.step rfl rfl (fun Kk hK => ?_); go_simp; (first | (go_at_call 11; refine (awake_any _).mono ?_; rintro e w' ⟨rfl, hb⟩) | (go_at_call 12; refine (H1.out _).mono ?_; rintro e w' ⟨rfl, hb⟩) | (go_at_call 13; refine (H2.out _).mono ?_; rintro e w' ⟨rfl, hb⟩) | (go_at_call 14; refine (H3.out _).mono ?_; rintro e w' ⟨rfl, hb⟩)); refine hK.out _ _ (hold.below hb) ?_; replace hold := hold.below hb; clear hK Kk hb; (try simp only [Act.put, List.setIfInBounds_toArray, List.set_cons_zero, List.set_cons_succ])))
    simp only [Plan]
    go_wp2_with fail
    go_ret
    exact ⟨rfl, hold.2.2.1⟩
  · clear hno
    go_enter Try.func3, Try.ntmps3
    go_wp2_with fail
    replace hold := hold.drew
    refine wp_region_plan (S := Held w.heap.size w s) [(false, 0), (true, 1), (true, 2), (true, 3), (true, 5), (true, 6), (false, 4), (false, 7), (true, 8), (true, 9), (true, 10), (true, 11), (true, 13), (true, 14), (true, 15), (true, 16), (true, 17), (false, 12), (true, 18), (true, 19), (true, 20), (true, 21), (true, 22), (false, 23), (true, 24), (true, 25), (true, 26), (false, 27), (true, 28), (true, 29), (true, 30), (true, 31)] (by kernel_rfl) (by kernel_rfl) (fun _ _ d _ _ h => by cases d <;> exact h) hold ?_
    repeat (first | (refine Plan.take (v := ?_) rfl rfl ?_ ?_; rotate_left; (focus (intro W hW; obtain ⟨c1, c2, _, _⟩ := hW; go_simp; (try with_reducible rfl); done)); (try simp only [Act.put, List.setIfInBounds_toArray, List.set_cons_zero, List.set_cons_succ])) | (refine Plan.skip rfl rfl ?_; (try simp only [Act.put, List.setIfInBounds_toArray, List.set_cons_zero, List.set_cons_succ])) | (refine Plan.pass rfl rfl hold ?_; (try simp only [Act.put, List.setIfInBounds_toArray, List.set_cons_zero, List.set_cons_succ])) | (refine Plan.step rfl rfl (fun Kk hK => ?_); go_simp; (first | (go_at_call 11; refine (awake_any _).mono ?_; rintro e w' ⟨rfl, hb⟩) | (go_at_call 12; refine (H1.out _).mono ?_; rintro e w' ⟨rfl, hb⟩) | (go_at_call 13; refine (H2.out _).mono ?_; rintro e w' ⟨rfl, hb⟩) | (go_at_call 14; refine (H3.out _).mono ?_; rintro e w' ⟨rfl, hb⟩)); refine hK.out _ _ (hold.below hb) ?_; replace hold := hold.below hb; clear hK Kk hb; (try simp only [Act.put, List.setIfInBounds_toArray, List.set_cons_zero, List.set_cons_succ])))
    simp only [Plan]
    go_wp2_with fail
    go_ret
    exact ⟨rfl, hold.2.2.1⟩
  · clear hno
    go_enter Try.func3, Try.ntmps3
    go_wp2_with fail
    replace hold := hold.drew
    refine wp_region_plan (S := Held w.heap.size w s) [(false, 0), (true, 1), (true, 2), (true, 3), (true, 5), (true, 6), (false, 4), (false, 7), (true, 8), (true, 9), (true, 10), (true, 11), (true, 13), (true, 14), (true, 15), (true, 16), (true, 17), (false, 12), (true, 18), (true, 19), (true, 20), (true, 21), (true, 22), (false, 23), (true, 24), (true, 25), (true, 26), (false, 27), (true, 28), (true, 29), (true, 30), (true, 31)] (by kernel_rfl) (by kernel_rfl) (fun _ _ d _ _ h => by cases d <;> exact h) hold ?_
    repeat (first | (refine Plan.take (v := ?_) rfl rfl ?_ ?_; rotate_left; (focus (intro W hW; obtain ⟨c1, c2, _, _⟩ := hW; go_simp; (try with_reducible rfl); done)); (try simp only [Act.put, List.setIfInBounds_toArray, List.set_cons_zero, List.set_cons_succ])) | (refine Plan.skip rfl rfl ?_; (try simp only [Act.put, List.setIfInBounds_toArray, List.set_cons_zero, List.set_cons_succ])) | (refine Plan.pass rfl rfl hold ?_; (try simp only [Act.put, List.setIfInBounds_toArray, List.set_cons_zero, List.set_cons_succ])) | (refine Plan.step rfl rfl (fun Kk hK => ?_); go_simp; (first | (go_at_call 11; refine (awake_any _).mono ?_; rintro e w' ⟨rfl, hb⟩) | (go_at_call 12; refine (H1.out _).mono ?_; rintro e w' ⟨rfl, hb⟩) | (go_at_call 13; refine (H2.out _).mono ?_; rintro e w' ⟨rfl, hb⟩) | (go_at_call 14; refine (H3.out _).mono ?_; rintro e w' ⟨rfl, hb⟩)); refine hK.out _ _ (hold.below hb) ?_; replace hold := hold.below hb; clear hK Kk hb; (try simp only [Act.put, List.setIfInBounds_toArray, List.set_cons_zero, List.set_cons_succ])))
    simp only [Plan]
    go_wp2_with fail
    go_ret
    exact ⟨rfl, hold.2.2.1⟩
  · exact absurd ⟨rfl, rfl⟩ hno
end Go.Proofs.Ytmfpidihcjnnkaa

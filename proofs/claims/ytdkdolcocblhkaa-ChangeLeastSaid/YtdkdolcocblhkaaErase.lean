/- A span of keys without values, as a change: the program's erase. -/
import Derived.Test.YtdkdolcocblhkaaPro
import Derived.Test.YtdkdolcocblhkaaWhole
import Derived.Test.YtdkdolcocblhkaaEqual
namespace Go.Proofs.Ytdkdolcocblhkaa
open Go.RowKit
attribute [local go_sem] less_eq same_eq le_eq ge_eq gt_eq

set_option maxHeartbeats 4000000 in
set_option maxRecDepth 100000 in
theorem erase_go (x y z : K) (w : World)
    (hsg : ∀ W, Calls Try.prog 54 #[.string x] W fun e w' => e = .returned (.agg #[.string x, .string z]) ∧ Below W.heap.size W w')
    (hwp : ∀ W, Calls Try.prog 47 #[.agg #[.string x, .string y]] W fun e w' => e = .returned (.agg #[.int .i64 3, .string x, .string y]) ∧ Below W.heap.size W w')
    (RV : Value) (hRV : (y = z → RV = .agg #[.int .i64 2, .string x, .string ⟨#[]⟩]) ∧ (¬ y = z → RV = .agg #[.int .i64 3, .string x, .string y])) :
    Calls Try.prog 41 #[.agg #[.string x, .string y]] w fun e w' => e = .returned RV ∧ Below w.heap.size w w' := by
  have HRV := Lib.hid hRV; clear hRV
  have HSG := Lib.hid hsg; clear hsg
  have HWP := Lib.hid hwp; clear hwp
  go_enter Try.func41, Try.ntmps41
  go_wp2_with fail
  refine wp_region_planB [(true, 0), (true, 1), (true, 2), (false, 3), (true, 4)] (by kernel_rfl) (by kernel_rfl) (fun _ _ d _ _ h => by cases d <;> exact h) ?_
  have hw1 : Whole ((w.alloc (.cells #[.string x, .string y] 48)).alloc (.cells #[.int .i64 0, .string ⟨#[]⟩, .string ⟨#[]⟩] 23)).drew w.heap.size 48 [.string x, .string y] := ((Whole.fresh w 48 [.string x, .string y]).alloc _).drew
  have hw2 : Whole ((w.alloc (.cells #[.string x, .string y] 48)).alloc (.cells #[.int .i64 0, .string ⟨#[]⟩, .string ⟨#[]⟩] 23)).drew (w.heap.size + 1) 23 [.int .i64 0, .string ⟨#[]⟩, .string ⟨#[]⟩] := by
    have h := Whole.fresh (w.alloc (.cells #[.string x, .string y] 48)) 23 [.int .i64 0, .string ⟨#[]⟩, .string ⟨#[]⟩]
    rw [World.size_alloc] at h
    exact h.drew
  have hb1 : Below w.heap.size w ((w.alloc (.cells #[.string x, .string y] 48)).alloc (.cells #[.int .i64 0, .string ⟨#[]⟩, .string ⟨#[]⟩] 23)).drew := (((Below.refl _ w).alloc (Nat.le_refl _) _).alloc (by simp) _).drew
  generalize ((w.alloc (.cells #[.string x, .string y] 48)).alloc (.cells #[.int .i64 0, .string ⟨#[]⟩, .string ⟨#[]⟩] 23)).drew = w1 at hw1 hw2 hb1 ⊢
  obtain ⟨g, hg⟩ : ∃ g, g = w.heap.size := ⟨_, rfl⟩
  rw [← hg] at hw1 hw2 hb1 ⊢
  have HG := Lib.hid hg; clear hg
  have HW1 := Lib.hid hw1; clear hw1
  have HW2 := Lib.hid hw2; clear hw2
  have HB1 := Lib.hid hb1; clear hb1
  have HC1 := Lib.hid (fun W (hW : Below w1.heap.size w1 W) => (⟨(HW1.out.below hW HW1.out.size).cell 0 _ rfl, (HW1.out.below hW HW1.out.size).cell 1 _ rfl⟩ : W.cell? ⟨g, 0, none⟩ = some (.string x) ∧ W.cell? ⟨g, 1, none⟩ = some (.string y)))
  repeat (refine PlanB.take (v := ?_) rfl rfl ?_ ?_; rotate_left; (focus (intro W hW; obtain ⟨q0, q1⟩ := HC1.out W hW; go_simp; (try with_reducible rfl); done)); (try simp only [Act.put, List.setIfInBounds_toArray, List.set_cons_zero, List.set_cons_succ]))
  refine PlanB.step rfl rfl (fun Kk hK => ?_)
  go_simp
  refine (HSG.out _).mono ?_
  rintro e w3 ⟨rfl, hb3⟩
  refine hK.out _ _ hb3 ?_
  clear hK Kk
  have hgs := HW2.out.size
  have HW3 := Lib.hid (HW1.out.below hb3 HW1.out.size)
  have HR3 := Lib.hid (HW2.out.below hb3 HW2.out.size)
  have HB3 := Lib.hid (HB1.out.trans (hb3.mono (by omega)))
  clear hb3 HC1 HW1 HW2 HB1 hgs
  (try simp only [Act.put, List.setIfInBounds_toArray, List.set_cons_zero, List.set_cons_succ])
  have c0 := HW3.out.cell 0 _ rfl
  have c1 := HW3.out.cell 1 _ rfl
  have r0 := HR3.out.cell 0 _ rfl
  have z0 := HR3.out.frozen 0
  by_cases hyz : y = z
  · have HR2 := Lib.hid (HRV.out.1 hyz)
    (refine PlanB.take (v := ?_) rfl rfl ?_ ?_; rotate_left; (focus (intro W hW; go_simp; (try with_reducible rfl); done)); (try simp only [Act.put, List.setIfInBounds_toArray, List.set_cons_zero, List.set_cons_succ]))
    simp only [PlanB]
    clear hyz
    have hp1 := HR3.out.put 0 (.int .i64 2)
    have hp2 := hp1.put 1 (.string x)
    have hp3 := hp2.put 2 (.string ⟨#[]⟩)
    simp only [List.set_cons_zero, List.set_cons_succ] at hp1 hp2 hp3
    have r1 := hp1.cell 1 _ rfl
    have z1 := hp1.frozen 1
    have r2 := hp2.cell 2 _ rfl
    have z2 := hp2.frozen 2
    have s0 := hp3.cell 0 _ rfl
    have s1 := hp3.cell 1 _ rfl
    have s2 := hp3.cell 2 _ rfl
    clear hp1 hp2 hp3
    go_wp2_with fail
    refine bodyPost_ret (v := .agg #[.int .i64 2, .string x, .string ⟨#[]⟩]) (by simp [results, Try.results41, go_sem, s0, s1, s2]) rfl ⟨by rw [HR2.out], ?_⟩
    have h := HB3.out
    rw [HG.out] at h ⊢
    exact ((h.setCell (by simp) _).setCell (by simp) _).setCell (by simp) _
  · have HR2 := Lib.hid (HRV.out.2 hyz)
    (refine PlanB.take (v := ?_) rfl rfl ?_ ?_; rotate_left; (focus (intro W hW; go_simp; (try with_reducible rfl); done)); (try simp only [Act.put, List.setIfInBounds_toArray, List.set_cons_zero, List.set_cons_succ]))
    simp only [PlanB]
    clear hyz
    go_wp2_with fail
    refine (HWP.out _).mono ?_
    rintro e w4 ⟨rfl, hb4⟩
    have hgs := HR3.out.size
    have HR4 := Lib.hid (HR3.out.below hb4 HR3.out.size)
    have HB4 := Lib.hid (HB3.out.trans (hb4.mono (by omega)))
    clear c0 c1 r0 z0 hb4
    have r0 := HR4.out.cell 0 _ rfl
    have z0 := HR4.out.frozen 0
    have hp1 := HR4.out.put 0 (.int .i64 3)
    have hp2 := hp1.put 1 (.string x)
    have hp3 := hp2.put 2 (.string y)
    simp only [List.set_cons_zero, List.set_cons_succ] at hp1 hp2 hp3
    have r1 := hp1.cell 1 _ rfl
    have z1 := hp1.frozen 1
    have r2 := hp2.cell 2 _ rfl
    have z2 := hp2.frozen 2
    have s0 := hp3.cell 0 _ rfl
    have s1 := hp3.cell 1 _ rfl
    have s2 := hp3.cell 2 _ rfl
    clear hp1 hp2 hp3
    go_wp2_with fail
    refine bodyPost_ret (v := .agg #[.int .i64 3, .string x, .string y]) (by simp [results, Try.results41, go_sem, s0, s1, s2]) rfl ⟨by rw [HR2.out], ?_⟩
    have h := HB4.out
    rw [HG.out] at h ⊢
    exact ((h.setCell (by simp) _).setCell (by simp) _).setCell (by simp) _

set_option maxHeartbeats 4000000 in
set_option maxRecDepth 100000 in
theorem erase_any (s : K × K) (w : World) (hs : s.1.size < 4611686018427387904) : Calls Try.prog 41 #[.agg #[.string s.1, .string s.2]] w fun e w' => e = .returned (cval (if s.2 = s.1 ++ ⟨#[0]⟩ then ⟨2, s.1, ⟨#[]⟩⟩ else ⟨3, s.1, s.2⟩)) ∧ Below w.heap.size w w' := by
  obtain ⟨x, y⟩ := s
  simp only at hs ⊢
  have hsg := fun W => single_any x W hs
  have hwp := fun W => cwipe_any (x, y) W
  generalize x ++ (⟨#[0]⟩ : ByteArray) = z at hsg ⊢
  exact erase_go x y z w hsg hwp _ ⟨fun hy => by rw [if_pos hy]; rfl, fun hy => by rw [if_neg hy]; rfl⟩
end Go.Proofs.Ytdkdolcocblhkaa

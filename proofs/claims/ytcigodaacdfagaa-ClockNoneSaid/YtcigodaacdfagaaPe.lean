/- The program's clock: the function that the bells are sorted by. -/
import Derived.Test.YtcigodaacdfagaaPd
namespace Go.Proofs.Ytcigodaacdfagaa
open Go.RowKit Go.Sort

/-- when bell n rings -/
def atOf (l : List Bl) (n : Int) : Int := ((l.find? fun x => decide (x.bell = n)).map (·.at_)).getD 0
def cmpB (l : List Bl) (x y : Int) : Int := orZ (cmpZ (atOf l x) (atOf l y)) (cmpZ x y)
theorem atOf_mem {l : List Bl} (hn : (l.map (·.bell)).Nodup) {x : Bl} (hx : x ∈ l) : atOf l x.bell = x.at_ := by
  unfold atOf
  induction l with
  | nil => simp at hx
  | cons z r ih =>
    rw [List.map_cons, List.nodup_cons] at hn
    rw [List.find?_cons]
    rcases List.mem_cons.1 hx with rfl | hx
    · simp
    · have hne : z.bell ≠ x.bell := fun e => hn.1 (List.mem_map.2 ⟨x, hx, e.symm⟩)
      have := ih hn.2 hx
      simpa [hne] using this
theorem look_at {P : Program} {t kt e : TypeId} {w : World} {b : Nat} {l : List Bl} (h : MapI w b (l.map prB)) (ht : P.underlying t = some (.map kt e)) (hk : P.underlying kt = some (.int .i64)) (hz : ∀ w, (zeroValue e).run P w = .ok (.int .i64 0) w) (n : Int) :
    (Instr.lookup t (.map (some b)) (.int .i64 n) false).run P w = .ok (.int .i64 (atOf l n)) w := by
  have hn : (l.map (·.bell)).Nodup := by
    have := h.nodup
    rwa [List.map_map] at this
  by_cases hin : ∀ x ∈ l, x.bell ≠ n
  · have h0 : atOf l n = 0 := by
      unfold atOf
      rw [List.find?_eq_none.2 (by simpa using hin)]
      rfl
    rw [h0]
    exact h.miss ht hk (k := n) (z := .int .i64 0) (by simpa [prB] using hin) (hz w) false
  · obtain ⟨x, hx, rfl⟩ : ∃ x ∈ l, x.bell = n := by simpa using hin
    rw [atOf_mem hn hx]
    exact h.look ht hk (k := x.bell) (v := .int .i64 x.at_) (List.mem_map.2 ⟨x, hx, rfl⟩) false

theorem ltB (l : List Bl) (x y : Int) : ltOf (cmpB l) x y = decide (atOf l x < atOf l y ∨ atOf l x = atOf l y ∧ x < y) := by
  unfold ltOf cmpB orZ
  refine decide_eq_decide.2 ?_
  by_cases h : cmpZ (atOf l x) (atOf l y) = 0
  · rw [if_neg (by simpa using h), cmpZ_neg]
    have := cmpZ_zero.1 h
    omega
  · rw [if_pos h, cmpZ_neg]
    have : atOf l x ≠ atOf l y := fun e => h (cmpZ_zero.2 e)
    omega
theorem swoB (l : List Bl) : SWO (ltOf (cmpB l)) where
  irrefl x := by rw [ltB]; simp
  trans x y z h1 h2 := by rw [ltB] at *; simp only [decide_eq_true_eq] at *; omega
  ntrans x y z h1 h2 := by rw [ltB] at *; simp only [decide_eq_false_iff_not] at *; omega

set_option maxHeartbeats 4000000 in
set_option maxRecDepth 100000 in
theorem less_any (bx q b : Nat) (now : Int) (l : List Bl) (w : World) (hB : Whole w bx 23 [.pointer (some ⟨q, 0, none⟩)]) (hW : Whole w q 49 [.int .i64 now, .map (some b)]) (hM : MapI w b (l.map prB)) (x y : Int) :
    Calls Try.prog 21 #[.int .i64 x, .int .i64 y, .pointer (some ⟨bx, 0, none⟩)] w fun e w' => e = .returned (.int .i64 (cmpB l x y)) ∧ ∃ k os', w' = grow (w.drewN k) os' := by
  have k0 : ∀ W, Below w.heap.size w W → W.cell? ⟨bx, 0, none⟩ = some (.pointer (some ⟨q, 0, none⟩)) := fun W hb => (hB.below hb hB.size).cell 0 _ rfl
  have k1 : ∀ W, Below w.heap.size w W → W.cell? ⟨q, 1, none⟩ = some (.map (some b)) := fun W hb => (hW.below hb hW.size).cell 1 _ rfl
  have k2 : ∀ W, Below w.heap.size w W → ∀ n, (Instr.lookup 47 (.map (some b)) (.int .i64 n) false).run Try.prog W = .ok (.int .i64 (atOf l n)) W := fun W hb n =>
    look_at (hM.mv (Mv.of_below hb) (by have := hM.size; omega)) Try.underlying47 Try.underlying3 (fun _ => by kernel_rfl) n
  have K0 := Lib.hid k0
  have K1 := Lib.hid k1
  have K2 := Lib.hid k2
  clear k0 k1 k2 hB hW hM
  go_enter Try.func21, Try.ntmps21
  go_wp2_with fail
  have hd0 : Below w.heap.size w w.drew := (Below.refl _ w).drew
  refine wp_region_planB [(true, 0), (true, 1), (true, 2), (true, 3), (true, 4), (true, 5), (true, 6), (true, 7), (true, 8), (true, 9), (true, 10), (true, 11), (true, 13), (true, 14), (false, 12), (false, 15), (false, 16), (false, 17), (true, 18)] (by kernel_rfl) (by kernel_rfl) (fun _ _ d _ _ h => by cases d <;> exact h) ?_
  repeat (refine PlanB.take (v := ?_) rfl rfl ?_ ?_; rotate_left; (focus (intro W hW; have k0 := K0.out W (hd0.trans hW); have k1 := K1.out W (hd0.trans hW); have k2 := K2.out W (hd0.trans hW) x; have k3 := K2.out W (hd0.trans hW) y; go_simp; (try with_reducible rfl); done)); (try simp only [Act.put, List.setIfInBounds_toArray, List.set_cons_zero, List.set_cons_succ]))
  refine PlanB.step rfl rfl (fun Kk hK => ?_)
  go_simp
  go_at_call 23
  refine (compare_any _ _ _).mono ?_
  rintro e w1 ⟨rfl, rfl⟩
  refine hK.out _ _ (Below.refl _ _) ?_
  clear hK Kk
  (try simp only [Act.put, List.setIfInBounds_toArray, List.set_cons_zero, List.set_cons_succ])
  refine PlanB.step rfl rfl (fun Kk hK => ?_)
  go_simp
  go_at_call 23
  refine (compare_any _ _ _).mono ?_
  rintro e w1 ⟨rfl, rfl⟩
  refine hK.out _ _ (Below.refl _ _) ?_
  clear hK Kk
  (try simp only [Act.put, List.setIfInBounds_toArray, List.set_cons_zero, List.set_cons_succ])
  refine PlanB.step rfl rfl (fun Kk hK => ?_)
  go_simp
  refine hK.out _ _ ((Below.refl _ w.drew).alloc (Nat.le_refl _) _) ?_
  clear hK Kk
  (try simp only [Act.put, List.setIfInBounds_toArray, List.set_cons_zero, List.set_cons_succ])
  have hN : Whole (w.alloc (.cells #[.int .i64 (cmpZ (atOf l x) (atOf l y)), .int .i64 (cmpZ x y)] 3)).drew w.heap.size 3 [.int .i64 (cmpZ (atOf l x) (atOf l y)), .int .i64 (cmpZ x y)] := (Whole.fresh w _ [_, _]).drew
  refine PlanB.step rfl rfl (fun Kk hK => ?_)
  go_simp
  go_at_call 22
  refine (or_any w.heap.size _ _ _ (hN.cell 0 _ rfl) (hN.cell 1 _ rfl)).mono ?_
  rintro e w1 ⟨rfl, rfl⟩
  refine hK.out _ _ (Below.refl _ _) ?_
  clear hK Kk
  (try simp only [Act.put, List.setIfInBounds_toArray, List.set_cons_zero, List.set_cons_succ])
  repeat (refine PlanB.take (v := ?_) rfl rfl ?_ ?_; rotate_left; (focus (intro W hW; go_simp; (try with_reducible rfl); done)); (try simp only [Act.put, List.setIfInBounds_toArray, List.set_cons_zero, List.set_cons_succ]))
  simp only [PlanB]
  go_wp2_with fail
  go_ret
  exact ⟨rfl, 1, #[_], by rw [show (w.alloc (.cells #[.int .i64 (cmpZ (atOf l x) (atOf l y)), .int .i64 (cmpZ x y)] 3)).drew = (w.drewN 1).alloc (.cells #[.int .i64 (cmpZ (atOf l x) (atOf l y)), .int .i64 (cmpZ x y)] 3) from rfl, alloc_eq_grow]⟩
end Go.Proofs.Ytcigodaacdfagaa

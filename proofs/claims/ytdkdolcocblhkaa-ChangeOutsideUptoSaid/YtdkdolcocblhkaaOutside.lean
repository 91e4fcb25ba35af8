/- ChangeOutside is true for every input, where the arguments hold together at most 1048576 values, and leaves its arguments as they were. The bound on the arguments is the given statement UptoSaid. -/
import Derived.Test.YtdkdolcocblhkaaSameM
import Derived.Test.YtdkdolcocblhkaaLawApp
import Derived.Test.YtdkdolcocblhkaaRCut
import Derived.Test.YtdkdolcocblhkaaCut
import Derived.Test.YtdkdolcocblhkaaShut
namespace Go.Proofs.Ytdkdolcocblhkaa
open Go.RowKit
attribute [local go_sem] less_eq same_eq le_eq ge_eq gt_eq

set_option maxHeartbeats 8000000 in
set_option maxRecDepth 100000 in
theorem lawHas_any (l : List (K × K)) (p : K × K) (D : Bool) (hD : D = true ↔ p ∈ l) (v : Value) (w : World) (hv : RdP w w.heap.size v l) (hl : l.length < 4611686018427387904) :
    Calls Try.prog 31 #[v, .agg #[.string p.1, .string p.2]] w fun e w' => e = .returned (.bool D) ∧ Below w.heap.size w w' := by
  obtain ⟨A, c, rfl, hcc, hi⟩ := hv.at
  obtain ⟨x, y⟩ := p
  obtain ⟨w1, hw1⟩ : ∃ w1, w1 = w.alloc (.cells #[.string x, .string y] 57) := ⟨_, rfl⟩
  have hb0 : Below w.heap.size w w1 := by rw [hw1]; exact (Below.refl _ w).alloc (Nat.le_refl _) _
  have hwx : Whole w1 w.heap.size 57 [.string x, .string y] := by rw [hw1]; exact Whole.fresh w _ _
  have hy : ∀ W, Below w1.heap.size w1 W → W.cell? ⟨w.heap.size, 0, none⟩ = some (.string x) ∧ W.cell? ⟨w.heap.size, 1, none⟩ = some (.string y) := fun W hW => by
    have e1 := hwx.below hW hwx.size
    exact ⟨e1.cell 0 _ rfl, e1.cell 1 _ rfl⟩
  have hend : ∀ W, Below w1.heap.size w1 W → Below w.heap.size w W := fun W hW => hb0.trans (hW.mono hb0.size)
  have hi2 : ∀ i (_ : i < l.length), ∃ b o, A = some ⟨b, o, none⟩ ∧ ∀ W, Below w1.heap.size w1 W → W.cell? ⟨b, o + i * 2, none⟩ = some (.string l[i].1) ∧ W.cell? ⟨b, o + i * 2 + 1, none⟩ = some (.string l[i].2) := fun i h => by
    obtain ⟨b, o, hA, hbB, k0, k1⟩ := hi i h
    exact ⟨b, o, hA, fun W hW => ⟨((hend W hW).cell (p := ⟨b, _, none⟩) hbB).trans k0, ((hend W hW).cell (p := ⟨b, _, none⟩) hbB).trans k1⟩⟩
  have HI := Lib.hid hi2; clear hi2 hi hv hwx
  have HYY := Lib.hid hy; clear hy
  have HEND := Lib.hid hend; clear hend hb0
  have HW1 := Lib.hid hw1; clear hw1
  have HD := Lib.hid hD; clear hD
  have HB1 := Lib.hid (Below.refl w1.heap.size w1)
  simp only
  go_enter Try.func31, Try.ntmps31
  go_wp2_with fail
  go_loopw [5] (fun iv wr => ∃ i : Nat, i ≤ l.length ∧ iv = .int .i64 i ∧ Below w1.heap.size w1 wr ∧ Hid (∀ j (_ : j < l.length), j < i → l[j] ≠ (x, y))) (fun iv _ => l.length - (intOf iv).toNat)
  case atStart =>
    rw [← HW1.out]
    exact ⟨0, Nat.zero_le _, rfl, HB1.out, Lib.hid (by omega)⟩
  case round =>
    obtain ⟨i, hil, rfl, hbw, HALL⟩ := hrel
    have HBW := Lib.hid hbw; clear hbw
    by_cases hlt : i < l.length
    · obtain ⟨b, o, rfl, hcell⟩ := HI.out i hlt
      have hyes : l[i] = (x, y) → D = true := fun h => HD.out.2 (h ▸ List.getElem_mem hlt)
      have hno : l[i] ≠ (x, y) → ∀ j (_ : j < l.length), j < i + 1 → l[j] ≠ (x, y) := fun h j h1 h2 => by
        rcases Nat.lt_or_ge j i with h' | h'
        · exact HALL.out j h1 h'
        · obtain rfl : j = i := by omega
          exact h
      have HBD := Lib.hid HBW.out.drew
      have HX := Lib.hid (fun W (hW : Below wr.drew.heap.size wr.drew W) => hcell W (HBD.out.trans (hW.mono HBD.out.size)))
      have HY := Lib.hid (fun W (hW : Below wr.drew.heap.size wr.drew W) => HYY.out W (HBD.out.trans (hW.mono HBD.out.size)))
      clear hcell
      generalize l[i] = z at HX hyes hno
      obtain ⟨zx, zy⟩ := z
      simp only at HX
      have HYES := Lib.hid hyes; clear hyes
      have HNO := Lib.hid hno; clear hno
      have hi1 : (i : Int) < (l.length : Int) := by omega
      have hi0 : (0 : Int) ≤ (i : Int) := by omega
      by_cases hxy : (zx, zy) = (x, y)
      · have hd := HYES.out hxy
        injection hxy with e1 e2
        subst e1 e2
        subst hd
        clear HD HYES HNO
        have HN := Lib.hid (show ∀ W : World, (binOp .eql 57 (.agg #[.string zx, .string zy]) (.agg #[.string zx, .string zy])).run Try.prog W = .ok (.bool true) W from fun W => by rw [eql_pair]; simp)
        go_wp2_with fail
        refine wp_region_planB [(true, 0), (true, 1), (true, 2), (true, 3), (true, 4), (true, 5)] (by kernel_rfl) (by kernel_rfl) (fun _ _ d _ _ h => by cases d <;> exact h) ?_
        repeat (refine PlanB.take (v := ?_) rfl rfl ?_ ?_; rotate_left; (focus (intro W hW; obtain ⟨k0, k1⟩ := HX.out W hW; obtain ⟨j0, j1⟩ := HY.out W hW; have kn := HN.out W; have kg := pair_guard; go_simp; (try with_reducible rfl); done)); (try simp only [Act.put, List.setIfInBounds_toArray, List.set_cons_zero, List.set_cons_succ]))
        simp only [PlanB]
        go_wp2_with fail
        go_ret
        exact ⟨rfl, HEND.out _ HBD.out⟩
      · have HNX := Lib.hid (HNO.out hxy)
        have hd3 : ¬ zx = x ∨ (zx = x ∧ ¬ zy = y) := by
          by_cases h1 : zx = x
          · exact .inr ⟨h1, fun h2 => hxy (by rw [h1, h2])⟩
          · exact .inl h1
        clear hxy HNO HYES
        rcases hd3 with h1 | ⟨h1, h2⟩
        all_goals
          go_wp2_with fail
          refine wp_region_planB [(true, 0), (true, 1), (true, 2), (true, 3), (true, 4), (true, 5)] (by kernel_rfl) (by kernel_rfl) (fun _ _ d _ _ h => by cases d <;> exact h) ?_
          repeat (refine PlanB.take (v := ?_) rfl rfl ?_ ?_; rotate_left; (focus (intro W hW; obtain ⟨k0, k1⟩ := HX.out W hW; obtain ⟨j0, j1⟩ := HY.out W hW;  have kg := pair_guard; go_simp; (try with_reducible rfl); done)); (try simp only [Act.put, List.setIfInBounds_toArray, List.set_cons_zero, List.set_cons_succ]))
          simp only [PlanB]
          go_wp2_with fail
          go_roundw
          case rel => exact ⟨i + 1, by omega, by go_num, HBD.out, HNX⟩
          case measure => simp [intOf]; omega
    · have hd : D = false := by
        rw [Bool.eq_false_iff]
        intro h
        obtain ⟨j, hj, e⟩ := List.getElem_of_mem (HD.out.1 h)
        exact HALL.out j hj (by omega) e
      subst hd
      go_wp2_with fail
      go_ret
      exact ⟨rfl, HEND.out _ HBW.out⟩

theorem PlanB.pass {P : Program} {ops : Array Oper} {Q : Exit → Act → World → Prop} {i : Nat} {o : Oper} {r : List (Bool × Nat)} {a : Act} {w : World} (hi : ops.toList[i]? = some o) (hw : Region.wanted o (yielded ops a.tmps) = false)
    (h : PlanB P ops Q r (a.put o.dst undef) w) : PlanB P ops Q ((false, i) :: r) a w := by
  show wpOp P ops Q i _ a w
  unfold wpOp
  have hi' : ops[i]? = some o := by simpa using hi
  simp only [hi', hw, Bool.false_eq_true, if_false]
  exact ⟨Below.refl _ _, h⟩
theorem has_meet {a b : K × K} (k : K) : has (meet a b) k ↔ has a k ∧ has b k := by
  unfold meet has
  have h1 : mx a.1 b.1 ≤ k ↔ a.1 ≤ k ∧ b.1 ≤ k := by
    rcases mx_cases a.1 b.1 with ⟨h0, h⟩ | ⟨h0, h⟩ <;> rw [h] <;> grind
  have h2 : k < mn a.2 b.2 ↔ k < a.2 ∧ k < b.2 := by
    rcases mn_cases a.2 b.2 with ⟨h0, h⟩ | ⟨h0, h⟩ <;> rw [h] <;> grind
  by_cases h : mn a.2 b.2 ≤ mx a.1 b.1
  · rw [if_pos h]
    have h3 : ¬ (mx a.1 b.1 ≤ k ∧ k < mn a.2 b.2) := by grind
    rw [h1, h2] at h3
    simp only
    constructor
    · rintro ⟨h4, h5⟩
      exact absurd h5 (by grind)
    · rintro ⟨⟨e1, e2⟩, e3, e4⟩
      exact absurd ⟨⟨e1, e3⟩, e2, e4⟩ h3
  · rw [if_neg h]
    simp only
    rw [h1, h2]
    constructor
    · rintro ⟨⟨e1, e3⟩, e2, e4⟩; exact ⟨⟨e1, e2⟩, e3, e4⟩
    · rintro ⟨⟨e1, e2⟩, e3, e4⟩; exact ⟨⟨e1, e3⟩, e2, e4⟩
theorem has_nonempty {a : K × K} {k : K} (h : has a k) : a.1 < a.2 := by
  obtain ⟨h1, h2⟩ := h
  grind
theorem cut1_mem (s : K × K) (c : Chg) (k : K) : mem ((cut1 s c).map cspan) k ↔ has (cspan c) k ∧ has s k := by
  unfold cut1
  by_cases h3 : c.kind = 3
  · rw [if_pos h3]
    by_cases hm : (meet s (cspan c)).1 < (meet s (cspan c)).2
    · rw [if_pos hm]
      have e : cspan ⟨3, (meet s (cspan c)).1, (meet s (cspan c)).2⟩ = meet s (cspan c) := by unfold cspan; simp
      simp only [List.map_cons, List.map_nil, mem_cons, e, mem_nil, or_false, has_meet]
      exact And.comm
    · rw [if_neg hm]
      simp only [List.map_nil, mem_nil, false_iff]
      rintro ⟨h1, h2⟩
      exact hm (has_nonempty ((has_meet k).2 ⟨h2, h1⟩))
  · rw [if_neg h3]
    by_cases hs : hasB s c.key = true
    · rw [if_pos hs]
      simp only [List.map_cons, List.map_nil, mem_cons, mem_nil, or_false, has_cspan c h3]
      constructor
      · rintro rfl; exact ⟨rfl, (hasB_iff s c.key).1 hs⟩
      · exact And.left
    · rw [if_neg hs]
      simp only [List.map_nil, mem_nil, false_iff, has_cspan c h3]
      rintro ⟨rfl, h⟩
      exact hs ((hasB_iff s c.key).2 h)
theorem cut_mem (s : K × K) (k : K) : ∀ cs : List Chg, mem ((cutP s cs).map cspan) k ↔ mem (cs.map cspan) k ∧ has s k
  | [] => by simp [cutP, mem]
  | c :: r => by
    have e : cutP s (c :: r) = cut1 s c ++ cutP s r := by simp [cutP]
    rw [e, List.map_append, mem_append, cut1_mem, cut_mem s k r, List.map_cons, mem_cons]
    constructor
    · rintro (⟨h1, h2⟩ | ⟨h1, h2⟩)
      · exact ⟨.inl h1, h2⟩
      · exact ⟨.inr h1, h2⟩
    · rintro ⟨h1 | h1, h2⟩
      · exact .inl ⟨h1, h2⟩
      · exact .inr ⟨h1, h2⟩
theorem cut1_apply (s : K × K) (c : Chg) (Z : List (K × K)) (p : K × K) (hp : has s p.1) : p ∈ applyP Z (cut1 s c) ↔ p ∈ oneP Z c := by
  rw [mem_oneP]
  unfold cut1
  by_cases h3 : c.kind = 3
  · rw [if_pos h3]
    have h1 : ¬ c.kind = 1 := by omega
    by_cases hm : (meet s (cspan c)).1 < (meet s (cspan c)).2
    · rw [if_pos hm]
      show p ∈ oneP Z _ ↔ _
      have e : cspan ⟨3, (meet s (cspan c)).1, (meet s (cspan c)).2⟩ = meet s (cspan c) := by unfold cspan; simp
      rw [mem_oneP, e, has_meet]
      simp [h1, hp]
    · rw [if_neg hm]
      show p ∈ Z ↔ _
      have : ¬ has (cspan c) p.1 := fun h => hm (has_nonempty ((has_meet p.1).2 ⟨hp, h⟩))
      simp [h1, this]
  · rw [if_neg h3]
    by_cases hs : hasB s c.key = true
    · rw [if_pos hs]
      show p ∈ oneP Z c ↔ _
      rw [mem_oneP]
    · rw [if_neg hs]
      show p ∈ Z ↔ _
      have hne : p.1 ≠ c.key := fun h => hs ((hasB_iff s c.key).2 (h ▸ hp))
      have : ¬ has (cspan c) p.1 := fun h => hne ((has_cspan c h3 _).1 h)
      constructor
      · intro h; exact .inl ⟨h, this⟩
      · rintro (⟨h, _⟩ | ⟨_, rfl⟩)
        · exact h
        · exact absurd rfl hne
theorem cut_apply (s : K × K) (p : K × K) (hp : has s p.1) : ∀ (cs : List Chg) (Z Z' : List (K × K)), (p ∈ Z ↔ p ∈ Z') → (p ∈ applyP Z (cutP s cs) ↔ p ∈ applyP Z' cs)
  | [], Z, Z', h => by simpa [cutP, applyP] using h
  | c :: r, Z, Z', h => by
    have e : cutP s (c :: r) = cut1 s c ++ cutP s r := by simp [cutP]
    rw [e, applyP_append]
    have e2 : applyP Z' (c :: r) = applyP (oneP Z' c) r := rfl
    rw [e2]
    refine cut_apply s p hp r _ _ ?_
    rw [cut1_apply s c Z p hp, mem_oneP, mem_oneP, h]
/-- in the span they do what all do -/
theorem cut_in (s : K × K) (l : List (K × K)) (cs : List Chg) (p : K × K) (hp : has s p.1) : p ∈ applyP l (cutP s cs) ↔ p ∈ applyP l cs := cut_apply s p hp cs l l Iff.rfl
/-- and nothing else -/
theorem cut_out (s : K × K) (l : List (K × K)) (cs : List Chg) (p : K × K) (hp : ¬ has s p.1) (h : p ∈ l) : p ∈ applyP l (cutP s cs) := by
  rw [mem_apply]
  exact .inl ⟨h, fun hm => hp ((cut_mem s p.1 cs).1 hm).2⟩
theorem cut_check (s : K × K) (hs : s.1.size ≤ 17 ∧ s.2.size ≤ 17) {cs : List Chg} (h : allAns cs = 0) : allAns (cutP s cs) = 0 := by
  have hc := allAns_zero.1 h
  refine allAns_zero.2 fun d hd => ?_
  obtain ⟨c, hcc, hd⟩ := List.mem_flatMap.1 hd
  have h0 := hc c hcc
  have h17 := cspan_17 h0
  unfold cut1 at hd
  split at hd
  · split at hd
    · rename_i hm
      simp only [List.mem_singleton] at hd
      subst hd
      have hm2 := hm
      unfold meet at hm2 ⊢
      by_cases he : mn s.2 (cspan c).2 ≤ mx s.1 (cspan c).1
      · rw [if_pos he] at hm2
        exact absurd hm2 (show ¬ ((⟨#[]⟩ : K) < ⟨#[]⟩) by grind)
      · rw [if_neg he] at hm2 ⊢
        simp only at hm2 ⊢
        have e1 : (mx s.1 (cspan c).1).size ≤ 17 := by rcases mx_cases s.1 (cspan c).1 with ⟨_, h⟩ | ⟨_, h⟩ <;> rw [h] <;> omega
        have e2 : (mn s.2 (cspan c).2).size ≤ 17 := by rcases mn_cases s.2 (cspan c).2 with ⟨_, h⟩ | ⟨_, h⟩ <;> rw [h] <;> omega
        unfold checkAns
        simp only
        rw [if_neg (by decide), if_neg (by decide), if_pos trivial, if_neg (by omega), if_neg (by grind)]
    · simp at hd
  · split at hd
    · simp only [List.mem_singleton] at hd
      rw [hd]; exact h0
    · simp at hd
end Go.Proofs.Ytdkdolcocblhkaa
namespace Go.Proofs.Ytdkdolcocblhkaa
open Go.RowKit
attribute [local go_sem] less_eq same_eq le_eq ge_eq gt_eq

theorem spans_exists (cs : List Chg) : ∃ R, Fits R (fun k => mem (cs.map cspan) k) :=
  ⟨_, Fits.congr (P := fun k => mem (cs.map cspan) k ∧ ¬ mem [] k) (build_ok (cs.map cspan) []) fun k => by simp [mem]⟩
noncomputable def spansL (cs : List Chg) : List (K × K) := (spans_exists cs).choose
theorem spansL_fits (cs : List Chg) : Fits (spansL cs) (fun k => mem (cs.map cspan) k) := (spans_exists cs).choose_spec
noncomputable def spansRes (cs : List Chg) : List (K × K) := if allAns cs = 0 then spansL cs else []
def SpansRd (L : List (K × K)) (q : Int) (w : World) (e : Ending) (w' : World) : Prop := ∃ A' c', e = .returned (.tuple #[.slice A' L.length c', .int .i64 q]) ∧ Rd cellsS 2 w' w'.heap.size (.slice A' L.length c') L ∧ Below w.heap.size w w' ∧ L.length ≤ 2000000
theorem pspans_rd (l : List Chg) (hs : ∀ c ∈ l, smallC c) (v : Value) (w : World) (hv : RdC w w.heap.size v l) (hl : l.length ≤ 2000000) :
    Calls Try.prog 19 #[v] w (SpansRd (spansRes l) (allAns l) w) :=
  (pspans_any l hs v w hv hl).mono fun e w' h => by
    obtain ⟨v', q, rfl, hb, h⟩ := h
    rcases h with ⟨rfl, h2, rfl⟩ | ⟨h1, rfl, R, ho, hf, hn⟩
    · rw [spansRes, if_neg h2]
      exact ⟨none, 0, rfl, Rd.nil _ _, hb, by simp⟩
    · have e : R = spansRes l := by rw [spansRes, if_pos h1]; exact hf.eq (spansL_fits l)
      rw [← e, h1]
      have hr := ho.rd.gen
      have hsl : ∃ A c, v' = .slice A R.length c := by
        rcases ho.form with ⟨h, h0⟩ | ⟨x, y, h, _⟩
        · exact ⟨none, 0, by rw [h, h0]; rfl⟩
        · exact ⟨_, _, h⟩
      obtain ⟨A, c, rfl⟩ := hsl
      exact ⟨A, c, rfl, hr, hb, hn⟩
open Classical in
noncomputable def cutErr (s : K × K) (cs : List Chg) : Int := if allAns cs ≠ 0 then allAns cs else if s.1.size > 17 ∨ s.2.size > 17 then 6 else 0
noncomputable def cutRes (s : K × K) (cs : List Chg) : List Chg := if cutErr s cs = 0 then cutP s cs else []
def CutRd (L : List Chg) (q : Int) (w : World) (e : Ending) (w' : World) : Prop := ∃ A' c', e = .returned (.tuple #[.slice A' L.length c', .int .i64 q]) ∧ RdC w' w'.heap.size (.slice A' L.length c') L ∧ Below w.heap.size w w'
theorem cutErr_zero {s : K × K} {cs : List Chg} (h : cutErr s cs = 0) : allAns cs = 0 ∧ s.1.size ≤ 17 ∧ s.2.size ≤ 17 := by
  unfold cutErr at h
  by_cases h0 : allAns cs = 0
  · rw [if_neg (by simpa using h0)] at h
    by_cases h1 : s.1.size > 17 ∨ s.2.size > 17
    · rw [if_pos h1] at h; simp at h
    · exact ⟨h0, by omega, by omega⟩
  · rw [if_pos h0] at h; exact absurd h h0
theorem pcut_rd (s : K × K) (l : List Chg) (hs : ∀ c ∈ l, smallC c) (v : Value) (w : World) (hv : RdC w w.heap.size v l) (hl : l.length ≤ 5629499532000) :
    Calls Try.prog 26 #[spv s, v] w (CutRd (cutRes s l) (cutErr s l) w) :=
  (pcut_any s l hs v w hv hl).mono fun e w' h => by
    obtain ⟨v', q, rfl, hb, h⟩ := h
    rcases h with ⟨h1, h2, rfl⟩ | ⟨h1, h2, rfl, rfl⟩ | ⟨h1, h2, rfl, ho⟩
    · have e : cutErr s l = q := by unfold cutErr; rw [if_pos (by rw [← h1]; exact h2), h1]
      rw [cutRes, e, if_neg h2]
      exact ⟨none, 0, rfl, Rd.nil _ _, hb⟩
    · have e : cutErr s l = 6 := by unfold cutErr; rw [if_neg (by simpa using h1), if_pos h2]
      rw [cutRes, e, if_neg (by decide)]
      exact ⟨none, 0, rfl, Rd.nil _ _, hb⟩
    · have e : cutErr s l = 0 := by unfold cutErr; rw [if_neg (by simpa using h1), if_neg h2]
      rw [cutRes, e, if_pos rfl]
      have hr := ho.rd encC_len
      obtain ⟨A, c, rfl, _⟩ := Own.slice ho
      exact ⟨A, c, rfl, hr, hb⟩
theorem cutRes_small {s : K × K} {cs : List Chg} : ∀ c ∈ cutRes s cs, smallC c := by
  unfold cutRes
  by_cases h : cutErr s cs = 0
  · rw [if_pos h]
    obtain ⟨h1, h2, h3⟩ := cutErr_zero h
    exact small_all (cut_check s ⟨h2, h3⟩ h1)
  · rw [if_neg h]; simp
theorem cutRes_len (s : K × K) (cs : List Chg) : (cutRes s cs).length ≤ cs.length := by
  unfold cutRes
  split
  · exact cutP_len s cs
  · simp
theorem rd_at2 {w : World} {B : Nat} {A : Option Addr} {n c : Nat} {l : List (K × K)} (h : Rd cellsS 2 w B (.slice A n c) l) : l.length ≤ c ∧ ∀ i (_ : i < l.length), ∃ b o, A = some ⟨b, o, none⟩ ∧ ∀ W, Below B w W → W.cell? ⟨b, o + i * 2, none⟩ = some (.string l[i].1) ∧ W.cell? ⟨b, o + i * 2 + 1, none⟩ = some (.string l[i].2) := by
  obtain ⟨A', c', hA, hc, hi⟩ := RdP.at h
  injection hA with hA1 hA2 hA3
  refine ⟨by rw [hA3]; exact hc, fun i h => ?_⟩
  obtain ⟨b, o, hA, hbB, k0, k1⟩ := hi i h
  exact ⟨b, o, hA1.trans hA, fun W hW => ⟨(hW.cell (p := ⟨b, _, none⟩) hbB).trans k0, (hW.cell (p := ⟨b, _, none⟩) hbB).trans k1⟩⟩
theorem applyErr_ok {l : List (K × K)} {cs : List Chg} (h : allAns cs = 0) (h2 : soundP l = true) : applyErr l cs = 0 := applyErr_zero.2 ⟨h, h2⟩
theorem applyRes_ok {l : List (K × K)} {cs : List Chg} (h : allAns cs = 0) (h2 : soundP l = true) : applyRes l cs = applyP l cs := by unfold applyRes; rw [if_pos (applyErr_ok h h2)]
theorem bool_of (p : Prop) : ∃ D : Bool, D = true ↔ p := by classical exact ⟨decide p, by simp⟩

set_option maxHeartbeats 16000000 in
set_option maxRecDepth 100000 in
theorem changeOutside_walk (l : List (K × K)) (cs : List Chg) (s : K × K) (hk : s.1.size ≤ 140737488351232) (hk2 : s.2.size ≤ 140737488351232) (hs : ∀ p ∈ l, p.1.size < 4611686018427387904 ∧ p.2.size < 4611686018427387904) (hcs : ∀ c ∈ cs, smallC c) (v vc : Value) (w : World) (hv : RdP w w.heap.size v l) (hvc : RdC w w.heap.size vc cs) (hl : l.length + cs.length ≤ 1048600) :
    Calls Try.prog 10 #[v, vc, spv s] w fun e w' => e = .returned (.bool true) ∧ Below w.heap.size w w' := by
  have h1 := fun W h1 h2 => papply_rd l cs hs hcs v vc W h1 h2 (by omega)
  have h2 := fun W h => pspans_rd cs hcs vc W h (by omega)
  have h3 := fun W h => pcut_rd s cs hcs vc W h (by omega)
  have h4 := fun vl W h1 h2 => papply_rd l (cutRes s cs) hs cutRes_small v vl W h1 h2 (by have := cutRes_len s cs; omega)
  have hgood : applyErr l cs = 0 → cutErr s cs = 0 → applyErr l (cutRes s cs) = 0 ∧ allAns cs = 0 ∧ (∀ p : K × K, mem (spansRes cs) p.1 ↔ mem (cs.map cspan) p.1) ∧ (∀ p : K × K, p ∈ l → (¬ mem (spansRes cs) p.1 → p ∈ applyRes l cs) ∧ (has s p.1 → (p ∈ applyRes l cs ↔ p ∈ applyRes l (cutRes s cs))) ∧ (¬ has s p.1 → p ∈ applyRes l (cutRes s cs))) := fun e1 e2 => by
    obtain ⟨ha, hsd⟩ := applyErr_zero.1 e1
    obtain ⟨_, s1, s2⟩ := cutErr_zero e2
    have hcc := cut_check s ⟨s1, s2⟩ ha
    have ec : cutRes s cs = cutP s cs := by unfold cutRes; rw [if_pos e2]
    have er : spansRes cs = spansL cs := by unfold spansRes; rw [if_pos ha]
    rw [ec, er]
    have hm : ∀ p : K × K, mem (spansL cs) p.1 ↔ mem (cs.map cspan) p.1 := fun p => (spansL_fits cs).2 p.1
    refine ⟨applyErr_ok hcc hsd, ha, hm, fun p hp => ?_⟩
    rw [applyRes_ok ha hsd, applyRes_ok hcc hsd]
    refine ⟨fun h => (mem_apply l cs p).2 (.inl ⟨hp, fun h' => h ((hm p).2 h')⟩), fun h => (cut_in s l cs p h).symm, fun h => cut_out s l cs p h hp⟩
  have hxl := applyRes_len l cs
  have hyl := applyRes_len l (cutRes s cs)
  have hcl := cutRes_len s cs
  have hqz : applyErr l cs = 0 → allAns cs = 0 := fun h => (applyErr_zero.1 h).1
  have hhs := fun k W => rhas_any s k W
  unfold spv at h3 ⊢
  generalize applyRes l (cutRes s cs) = Y at h4 hgood hyl
  generalize applyErr l (cutRes s cs) = e4 at h4 hgood
  generalize cutRes s cs = C at h3 h4 hyl hcl
  generalize cutErr s cs = e3 at h3 hgood
  generalize spansRes cs = R at h2 hgood
  generalize allAns cs = e2 at h2 hgood hqz
  generalize applyRes l cs = X at h1 hgood hxl
  generalize applyErr l cs = e1 at h1 hgood hqz
  obtain ⟨sa, sb⟩ := s
  simp only at h3 hhs ⊢
  obtain ⟨w1, hw1⟩ : ∃ w1, w1 = w.alloc (.cells #[.string sa, .string sb] 48) := ⟨_, rfl⟩
  have hb0 : Below w.heap.size w w1 := by rw [hw1]; exact (Below.refl _ w).alloc (Nat.le_refl _) _
  have hwx : Whole w1 w.heap.size 48 [.string sa, .string sb] := by rw [hw1]; exact Whole.fresh w _ _
  have hsb : ∀ W, Below w1.heap.size w1 W → W.cell? ⟨w.heap.size, 0, none⟩ = some (.string sa) ∧ W.cell? ⟨w.heap.size, 1, none⟩ = some (.string sb) := fun W hW => by
    have e1 := hwx.below hW hwx.size
    exact ⟨e1.cell 0 _ rfl, e1.cell 1 _ rfl⟩
  have hend : ∀ W, Below w1.heap.size w1 W → Below w.heap.size w W := fun W hW => hb0.trans (hW.mono hb0.size)
  have HP := Lib.hid (fun W (hW : Below w1.heap.size w1 W) => (hv.next hb0).next hW)
  have HV := Lib.hid (fun W (hW : Below w1.heap.size w1 W) => (hvc.next hb0).next hW)
  have HSB1 := Lib.hid hsb; clear hsb hwx
  have HEND := Lib.hid hend; clear hend hb0 hv hvc
  have HW1 := Lib.hid hw1; clear hw1
  have H1 := Lib.hid h1; clear h1
  have H2 := Lib.hid h2; clear h2
  have H3 := Lib.hid h3; clear h3
  have H4 := Lib.hid h4; clear h4
  have HGOOD := Lib.hid hgood; clear hgood
  have HQZ := Lib.hid hqz; clear hqz
  have HHS := Lib.hid hhs; clear hhs
  have hk1 : Below w1.heap.size w1 w1 := Below.refl _ _
  clear hs hcs hk hk2
  obtain ⟨Al, cl, rfl, -⟩ : ∃ A c, v = .slice A l.length c ∧ True := by
    obtain ⟨A, c, h, _⟩ := RdP.at (HP.out w1 (Below.refl _ _))
    exact ⟨A, c, h, trivial⟩
  go_enter Try.func10, Try.ntmps10
  go_wp2_with fail
  rw [← HW1.out]
  refine (H1.out _ (HP.out _ hk1) (HV.out _ hk1)).mono ?_
  rintro e w2 ⟨A2, c2, rfl, hr, hb⟩
  have hk2 : Below w1.heap.size w1 w2 := hk1.trans (hb.mono hk1.size)
  have HX2 := Lib.hid hr; clear hr hb
  go_wp2_with fail
  refine (H2.out _ (HV.out _ hk2)).mono ?_
  rintro e w3 ⟨A3, c3, rfl, hr, hb, hrl⟩
  have hk3 : Below w1.heap.size w1 w3 := hk2.trans (hb.mono hk2.size)
  have HX3 := Lib.hid (HX2.out.next hb)
  have HR3 := Lib.hid hr; clear hr hb
  obtain ⟨t0, t1⟩ := HSB1.out _ hk3
  go_wp2_with fail
  refine (H3.out _ (HV.out _ hk3)).mono ?_
  rintro e w4 ⟨A4, c4, rfl, hr, hb⟩
  have hk4 : Below w1.heap.size w1 w4 := hk3.trans (hb.mono hk3.size)
  have HX4 := Lib.hid (HX3.out.next hb)
  have HR4 := Lib.hid (HR3.out.next hb)
  have HC4 := Lib.hid hr; clear hr hb t0 t1
  go_wp2_with fail
  refine (H4.out _ _ (HP.out _ hk4) HC4.out).mono ?_
  rintro e w5 ⟨A5, c5, rfl, hr, hb⟩
  have hk5 : Below w1.heap.size w1 w5 := hk4.trans (hb.mono hk4.size)
  have HX5 := Lib.hid (HX4.out.next hb)
  have HR5 := Lib.hid (HR4.out.next hb)
  have HY5 := Lib.hid hr; clear hr hb
  go_wp2_with fail
  refine (awake_any _).mono ?_
  rintro e wb ⟨rfl, hb⟩
  have hkb : Below w1.heap.size w1 wb := hk5.trans (hb.mono hk5.size)
  have HXb := Lib.hid (HX5.out.next hb)
  have HRb := Lib.hid (HR5.out.next hb)
  have HYb := Lib.hid (HY5.out.next hb)
  clear hb hk1 hk2 hk3 hk4 hk5 HX2 HX3 HX4 HX5 HR3 HR4 HR5 HC4 HY5
  have HKB := Lib.hid hkb; clear hkb
  by_cases h1 : e1 = 0
  · have h2 := HQZ.out h1
    by_cases h3 : e3 = 0
    · obtain ⟨h4, _, _, hfact⟩ := HGOOD.out h1 h3
      subst h1 h2 h3 h4
      clear HGOOD HQZ H1 H2 H3 H4
      have HF := Lib.hid hfact; clear hfact
      obtain ⟨hcapl, hcl2⟩ := rd_at2 (HP.out _ HKB.out)
      obtain ⟨hcapR, hcR⟩ := rd_at2 HRb.out
      have HCL := Lib.hid hcl2; clear hcl2
      have HCR := Lib.hid hcR; clear hcR
      have hx := fun p D hD W (hW : Below wb.heap.size wb W) => lawHas_any X p D hD _ W (HXb.out.next hW) (by omega)
      have hy := fun p D hD W (hW : Below wb.heap.size wb W) => lawHas_any Y p D hD _ W (HYb.out.next hW) (by omega)
      have HXA := Lib.hid hx; clear hx
      have HYA := Lib.hid hy; clear hy
      have HSB := Lib.hid (fun W (hW : Below wb.heap.size wb W) => HSB1.out W (HKB.out.trans (hW.mono HKB.out.size)))
      have HE2 := Lib.hid (fun W (hW : Below wb.heap.size wb W) => HEND.out W (HKB.out.trans (hW.mono HKB.out.size)))
      clear HXb HYb HRb HSB1 HP HV HW1
      go_wp2_with fail
      go_loopw [15] (fun iv wr => ∃ i : Nat, i ≤ l.length ∧ iv = .int .i64 i ∧ Below wb.heap.size wb wr) (fun iv _ => l.length - (intOf iv).toNat)
      case atStart => exact ⟨0, Nat.zero_le _, rfl, Below.refl _ _⟩
      case round =>
        obtain ⟨i, hil, rfl, hbw⟩ := hrel
        have HBW := Lib.hid hbw; clear hbw
        by_cases hlt : i < l.length
        · obtain ⟨bl, ol, rfl, hcell⟩ := HCL.out i hlt
          have hfp := HF.out l[i] (List.getElem_mem hlt)
          generalize l[i] = p at hcell hfp
          obtain ⟨px, py⟩ := p
          simp only at hcell hfp
          have HC := Lib.hid hcell; clear hcell
          have HFP := Lib.hid hfp; clear hfp
          have hi1 : (i : Int) < (l.length : Int) := by omega
          have hi0 : (0 : Int) ≤ (i : Int) := by omega
          go_wp2_with fail
          go_loopw [16, 17] (fun nv kv wr => ∃ (k : Nat) (nm : Bool), k ≤ R.length ∧ kv = .int .i64 k ∧ nv = .bool nm ∧ Below wb.heap.size wb wr ∧ Hid (nm = true ↔ mem (R.take k) px)) (fun _ kv _ => R.length - (intOf kv).toNat)
          case atStart => exact ⟨0, false, Nat.zero_le _, rfl, rfl, HBW.out, Lib.hid (by simp [mem])⟩
          case round =>
            obtain ⟨k, nm, hkl, rfl, rfl, hbw2, HNM⟩ := hrel
            have HBW2 := Lib.hid hbw2; clear hbw2
            by_cases hlt2 : k < R.length
            · obtain ⟨br, or_, rfl, hcell⟩ := HCR.out k hlt2
              have hnx : mem (R.take (k + 1)) px ↔ mem (R.take k) px ∨ has R[k] px := by
                rw [List.take_succ_eq_append_getElem hlt2, mem_append]; simp [mem]
              have hh := fun W => rhas_any R[k] px W
              have hhb := hasB_iff R[k] px
              unfold hasB at hhb
              generalize R[k] = q at hcell hnx hh hhb
              obtain ⟨qx, qy⟩ := q
              simp only at hcell hnx hh hhb
              generalize (decide (qx ≤ px) && decide (px < qy)) = hq at hh hhb
              have HR := Lib.hid hcell; clear hcell
              have HH := Lib.hid hh; clear hh
              have hj1 : (k : Int) < (R.length : Int) := by omega
              have hj0 : (0 : Int) ≤ (k : Int) := by omega
              have hnm := HNM.out
              clear HNM
              cases nm
              · have HNX := Lib.hid (show hq = true ↔ mem (R.take (k + 1)) px by rw [hnx, hhb]; simp at hnm; simp [hnm])
                clear hnx hhb hnm
                go_wp2_with fail
                refine wp_region_planB [(true, 0), (true, 1), (true, 2), (true, 3), (true, 4), (true, 5), (true, 6), (true, 7), (true, 8), (true, 9), (true, 10), (false, 11), (true, 12), (true, 13)] (by kernel_rfl) (by kernel_rfl) (fun _ _ d _ _ h => by cases d <;> exact h) ?_
                have hbk : Below wb.heap.size wb wr.drew := HBW2.out.drew
                generalize wr.drew = wd at hbk ⊢
                repeat (first | (refine PlanB.take (v := ?_) rfl rfl ?_ ?_; rotate_left; (focus (intro W hW; have hWb := hbk.trans (hW.mono hbk.size); obtain ⟨a0, a1⟩ := HC.out W hWb; obtain ⟨r0, r1⟩ := HR.out W hWb; go_simp; (try with_reducible rfl); done)); (try simp only [Act.put, List.setIfInBounds_toArray, List.set_cons_zero, List.set_cons_succ])) | (refine PlanB.skip rfl rfl ?_; (try simp only [Act.put, List.setIfInBounds_toArray, List.set_cons_zero, List.set_cons_succ])) | (refine PlanB.pass rfl rfl ?_; (try simp only [Act.put, List.setIfInBounds_toArray, List.set_cons_zero, List.set_cons_succ])))
                refine PlanB.step rfl rfl (fun Kk hK => ?_)
                go_simp
                refine (HH.out _).mono ?_
                rintro e wn ⟨rfl, hb'⟩
                refine hK.out _ _ hb' ?_
                have hbn := hbk.trans (hb'.mono hbk.size)
                clear hK Kk hbk
                have hbk := hbn
                clear hbn hb'
                (try simp only [Act.put, List.setIfInBounds_toArray, List.set_cons_zero, List.set_cons_succ])
                repeat (first | (refine PlanB.take (v := ?_) rfl rfl ?_ ?_; rotate_left; (focus (intro W hW; have hWb := hbk.trans (hW.mono hbk.size); obtain ⟨a0, a1⟩ := HC.out W hWb; obtain ⟨r0, r1⟩ := HR.out W hWb; go_simp; (try with_reducible rfl); done)); (try simp only [Act.put, List.setIfInBounds_toArray, List.set_cons_zero, List.set_cons_succ])) | (refine PlanB.skip rfl rfl ?_; (try simp only [Act.put, List.setIfInBounds_toArray, List.set_cons_zero, List.set_cons_succ])) | (refine PlanB.pass rfl rfl ?_; (try simp only [Act.put, List.setIfInBounds_toArray, List.set_cons_zero, List.set_cons_succ])))
                simp only [PlanB]
                have HBF := Lib.hid hbk
                go_wp2_with fail
                go_roundw
                case rel => exact ⟨k + 1, hq, by omega, by go_num, rfl, HBF.out, HNX⟩
                case measure => simp [intOf]; omega
              · have HNX := Lib.hid (show true = true ↔ mem (R.take (k + 1)) px by rw [hnx]; simp at hnm; simp [hnm])
                clear hnx hhb hnm
                go_wp2_with fail
                refine wp_region_planB [(true, 0), (true, 1), (true, 2), (true, 3), (true, 4), (true, 5), (true, 6), (true, 7), (true, 8), (true, 9), (true, 10), (false, 11), (true, 12), (true, 13)] (by kernel_rfl) (by kernel_rfl) (fun _ _ d _ _ h => by cases d <;> exact h) ?_
                have hbk : Below wb.heap.size wb wr.drew := HBW2.out.drew
                generalize wr.drew = wd at hbk ⊢
                repeat (first | (refine PlanB.take (v := ?_) rfl rfl ?_ ?_; rotate_left; (focus (intro W hW; have hWb := hbk.trans (hW.mono hbk.size); obtain ⟨a0, a1⟩ := HC.out W hWb; obtain ⟨r0, r1⟩ := HR.out W hWb; go_simp; (try with_reducible rfl); done)); (try simp only [Act.put, List.setIfInBounds_toArray, List.set_cons_zero, List.set_cons_succ])) | (refine PlanB.skip rfl rfl ?_; (try simp only [Act.put, List.setIfInBounds_toArray, List.set_cons_zero, List.set_cons_succ])) | (refine PlanB.pass rfl rfl ?_; (try simp only [Act.put, List.setIfInBounds_toArray, List.set_cons_zero, List.set_cons_succ])))
                simp only [PlanB]
                have HBF := Lib.hid hbk
                go_wp2_with fail
                go_roundw
                case rel => exact ⟨k + 1, true, by omega, by go_num, rfl, HBF.out, Lib.hid (by simpa using HNX.out)⟩
                case measure => simp [intOf]; omega
            · have hnm := HNM.out
              rw [List.take_of_length_le (by omega)] at hnm
              clear HNM
              obtain ⟨f1, f2, f3⟩ := HFP.out
              obtain ⟨DX, hDX⟩ := bool_of ((px, py) ∈ X)
              obtain ⟨DY, hDY⟩ := bool_of ((px, py) ∈ Y)
              have HX := Lib.hid (HXA.out (px, py) DX hDX)
              have HY := Lib.hid (HYA.out (px, py) DY hDY)
              have hss := HHS.out px
              have hsb := hasB_iff (sa, sb) px
              unfold hasB at hsb
              simp only at hsb HX HY hss
              generalize (decide (sa ≤ px) && decide (px < sb)) = S at hss hsb
              have HS := Lib.hid hss; clear hss
              rw [← hDX, ← hnm] at f1
              rw [← hDX, ← hDY, ← hsb] at f2
              rw [← hDY, ← hsb] at f3
              clear hDX hDY hsb hnm HFP HXA HYA HF HHS
              cases nm
              · obtain rfl : DX = true := f1 (by simp)
                cases S
                · obtain rfl : DY = true := f3 (by simp)
                  clear f1 f2 f3
                  go_wp2_with fail
                  refine wp_region_planB [(true, 0), (true, 1), (true, 2), (true, 3), (true, 4), (true, 5), (true, 6), (true, 7), (false, 8), (true, 9), (true, 10), (true, 11), (true, 12), (true, 13), (true, 14), (true, 15), (true, 16), (true, 17), (false, 18), (true, 19), (true, 20), (true, 21), (true, 22), (true, 23), (true, 24), (true, 26), (true, 27), (true, 28), (true, 29), (true, 30), (false, 25), (false, 31), (true, 32), (true, 33), (true, 34), (true, 35), (true, 36), (true, 37), (true, 38), (true, 39), (true, 40), (true, 41), (false, 42), (true, 43), (true, 44), (true, 45), (true, 46), (true, 47), (true, 48), (true, 49), (false, 50), (true, 51), (true, 52), (true, 53)] (by kernel_rfl) (by kernel_rfl) (fun _ _ d _ _ h => by cases d <;> exact h) ?_
                  have hbk : Below wb.heap.size wb wr.drew := HBW2.out.drew
                  generalize wr.drew = wd at hbk ⊢
                  repeat (first | (refine PlanB.take (v := ?_) rfl rfl ?_ ?_; rotate_left; (focus (intro W hW; have hWb := hbk.trans (hW.mono hbk.size); obtain ⟨a0, a1⟩ := HC.out W hWb; obtain ⟨s0, s1⟩ := HSB.out W hWb; go_simp; (try with_reducible rfl); done)); (try simp only [Act.put, List.setIfInBounds_toArray, List.set_cons_zero, List.set_cons_succ])) | (refine PlanB.skip rfl rfl ?_; (try simp only [Act.put, List.setIfInBounds_toArray, List.set_cons_zero, List.set_cons_succ])) | (refine PlanB.pass rfl rfl ?_; (try simp only [Act.put, List.setIfInBounds_toArray, List.set_cons_zero, List.set_cons_succ])))
                  refine PlanB.step rfl rfl (fun Kk hK => ?_)
                  go_simp
                  refine (HX.out _ hbk).mono ?_
                  rintro e wn ⟨rfl, hb'⟩
                  refine hK.out _ _ hb' ?_
                  have hbn := hbk.trans (hb'.mono hbk.size)
                  clear hK Kk hbk
                  have hbk := hbn
                  clear hbn hb'
                  (try simp only [Act.put, List.setIfInBounds_toArray, List.set_cons_zero, List.set_cons_succ])
                  repeat (first | (refine PlanB.take (v := ?_) rfl rfl ?_ ?_; rotate_left; (focus (intro W hW; have hWb := hbk.trans (hW.mono hbk.size); obtain ⟨a0, a1⟩ := HC.out W hWb; obtain ⟨s0, s1⟩ := HSB.out W hWb; go_simp; (try with_reducible rfl); done)); (try simp only [Act.put, List.setIfInBounds_toArray, List.set_cons_zero, List.set_cons_succ])) | (refine PlanB.skip rfl rfl ?_; (try simp only [Act.put, List.setIfInBounds_toArray, List.set_cons_zero, List.set_cons_succ])) | (refine PlanB.pass rfl rfl ?_; (try simp only [Act.put, List.setIfInBounds_toArray, List.set_cons_zero, List.set_cons_succ])))
                  refine PlanB.step rfl rfl (fun Kk hK => ?_)
                  go_simp
                  refine (HS.out _).mono ?_
                  rintro e wn ⟨rfl, hb'⟩
                  refine hK.out _ _ hb' ?_
                  have hbn := hbk.trans (hb'.mono hbk.size)
                  clear hK Kk hbk
                  have hbk := hbn
                  clear hbn hb'
                  (try simp only [Act.put, List.setIfInBounds_toArray, List.set_cons_zero, List.set_cons_succ])
                  repeat (first | (refine PlanB.take (v := ?_) rfl rfl ?_ ?_; rotate_left; (focus (intro W hW; have hWb := hbk.trans (hW.mono hbk.size); obtain ⟨a0, a1⟩ := HC.out W hWb; obtain ⟨s0, s1⟩ := HSB.out W hWb; go_simp; (try with_reducible rfl); done)); (try simp only [Act.put, List.setIfInBounds_toArray, List.set_cons_zero, List.set_cons_succ])) | (refine PlanB.skip rfl rfl ?_; (try simp only [Act.put, List.setIfInBounds_toArray, List.set_cons_zero, List.set_cons_succ])) | (refine PlanB.pass rfl rfl ?_; (try simp only [Act.put, List.setIfInBounds_toArray, List.set_cons_zero, List.set_cons_succ])))
                  refine PlanB.step rfl rfl (fun Kk hK => ?_)
                  go_simp
                  refine (HS.out _).mono ?_
                  rintro e wn ⟨rfl, hb'⟩
                  refine hK.out _ _ hb' ?_
                  have hbn := hbk.trans (hb'.mono hbk.size)
                  clear hK Kk hbk
                  have hbk := hbn
                  clear hbn hb'
                  (try simp only [Act.put, List.setIfInBounds_toArray, List.set_cons_zero, List.set_cons_succ])
                  repeat (first | (refine PlanB.take (v := ?_) rfl rfl ?_ ?_; rotate_left; (focus (intro W hW; have hWb := hbk.trans (hW.mono hbk.size); obtain ⟨a0, a1⟩ := HC.out W hWb; obtain ⟨s0, s1⟩ := HSB.out W hWb; go_simp; (try with_reducible rfl); done)); (try simp only [Act.put, List.setIfInBounds_toArray, List.set_cons_zero, List.set_cons_succ])) | (refine PlanB.skip rfl rfl ?_; (try simp only [Act.put, List.setIfInBounds_toArray, List.set_cons_zero, List.set_cons_succ])) | (refine PlanB.pass rfl rfl ?_; (try simp only [Act.put, List.setIfInBounds_toArray, List.set_cons_zero, List.set_cons_succ])))
                  refine PlanB.step rfl rfl (fun Kk hK => ?_)
                  go_simp
                  refine (HY.out _ hbk).mono ?_
                  rintro e wn ⟨rfl, hb'⟩
                  refine hK.out _ _ hb' ?_
                  have hbn := hbk.trans (hb'.mono hbk.size)
                  clear hK Kk hbk
                  have hbk := hbn
                  clear hbn hb'
                  (try simp only [Act.put, List.setIfInBounds_toArray, List.set_cons_zero, List.set_cons_succ])
                  repeat (first | (refine PlanB.take (v := ?_) rfl rfl ?_ ?_; rotate_left; (focus (intro W hW; have hWb := hbk.trans (hW.mono hbk.size); obtain ⟨a0, a1⟩ := HC.out W hWb; obtain ⟨s0, s1⟩ := HSB.out W hWb; go_simp; (try with_reducible rfl); done)); (try simp only [Act.put, List.setIfInBounds_toArray, List.set_cons_zero, List.set_cons_succ])) | (refine PlanB.skip rfl rfl ?_; (try simp only [Act.put, List.setIfInBounds_toArray, List.set_cons_zero, List.set_cons_succ])) | (refine PlanB.pass rfl rfl ?_; (try simp only [Act.put, List.setIfInBounds_toArray, List.set_cons_zero, List.set_cons_succ])))
                  simp only [PlanB]
                  have HBF := Lib.hid hbk
                  go_wp2_with fail
                  go_roundw
                  case rel => exact ⟨i + 1, by omega, by go_num, HBF.out⟩
                  case measure => simp [intOf]; omega
                · obtain rfl : DY = true := (f2 rfl).1 rfl
                  clear f1 f2 f3
                  go_wp2_with fail
                  refine wp_region_planB [(true, 0), (true, 1), (true, 2), (true, 3), (true, 4), (true, 5), (true, 6), (true, 7), (false, 8), (true, 9), (true, 10), (true, 11), (true, 12), (true, 13), (true, 14), (true, 15), (true, 16), (true, 17), (false, 18), (true, 19), (true, 20), (true, 21), (true, 22), (true, 23), (true, 24), (true, 26), (true, 27), (true, 28), (true, 29), (true, 30), (false, 25), (false, 31), (true, 32), (true, 33), (true, 34), (true, 35), (true, 36), (true, 37), (true, 38), (true, 39), (true, 40), (true, 41), (false, 42), (true, 43), (true, 44), (true, 45), (true, 46), (true, 47), (true, 48), (true, 49), (false, 50), (true, 51), (true, 52), (true, 53)] (by kernel_rfl) (by kernel_rfl) (fun _ _ d _ _ h => by cases d <;> exact h) ?_
                  have hbk : Below wb.heap.size wb wr.drew := HBW2.out.drew
                  generalize wr.drew = wd at hbk ⊢
                  repeat (first | (refine PlanB.take (v := ?_) rfl rfl ?_ ?_; rotate_left; (focus (intro W hW; have hWb := hbk.trans (hW.mono hbk.size); obtain ⟨a0, a1⟩ := HC.out W hWb; obtain ⟨s0, s1⟩ := HSB.out W hWb; go_simp; (try with_reducible rfl); done)); (try simp only [Act.put, List.setIfInBounds_toArray, List.set_cons_zero, List.set_cons_succ])) | (refine PlanB.skip rfl rfl ?_; (try simp only [Act.put, List.setIfInBounds_toArray, List.set_cons_zero, List.set_cons_succ])) | (refine PlanB.pass rfl rfl ?_; (try simp only [Act.put, List.setIfInBounds_toArray, List.set_cons_zero, List.set_cons_succ])))
                  refine PlanB.step rfl rfl (fun Kk hK => ?_)
                  go_simp
                  refine (HX.out _ hbk).mono ?_
                  rintro e wn ⟨rfl, hb'⟩
                  refine hK.out _ _ hb' ?_
                  have hbn := hbk.trans (hb'.mono hbk.size)
                  clear hK Kk hbk
                  have hbk := hbn
                  clear hbn hb'
                  (try simp only [Act.put, List.setIfInBounds_toArray, List.set_cons_zero, List.set_cons_succ])
                  repeat (first | (refine PlanB.take (v := ?_) rfl rfl ?_ ?_; rotate_left; (focus (intro W hW; have hWb := hbk.trans (hW.mono hbk.size); obtain ⟨a0, a1⟩ := HC.out W hWb; obtain ⟨s0, s1⟩ := HSB.out W hWb; go_simp; (try with_reducible rfl); done)); (try simp only [Act.put, List.setIfInBounds_toArray, List.set_cons_zero, List.set_cons_succ])) | (refine PlanB.skip rfl rfl ?_; (try simp only [Act.put, List.setIfInBounds_toArray, List.set_cons_zero, List.set_cons_succ])) | (refine PlanB.pass rfl rfl ?_; (try simp only [Act.put, List.setIfInBounds_toArray, List.set_cons_zero, List.set_cons_succ])))
                  refine PlanB.step rfl rfl (fun Kk hK => ?_)
                  go_simp
                  refine (HS.out _).mono ?_
                  rintro e wn ⟨rfl, hb'⟩
                  refine hK.out _ _ hb' ?_
                  have hbn := hbk.trans (hb'.mono hbk.size)
                  clear hK Kk hbk
                  have hbk := hbn
                  clear hbn hb'
                  (try simp only [Act.put, List.setIfInBounds_toArray, List.set_cons_zero, List.set_cons_succ])
                  repeat (first | (refine PlanB.take (v := ?_) rfl rfl ?_ ?_; rotate_left; (focus (intro W hW; have hWb := hbk.trans (hW.mono hbk.size); obtain ⟨a0, a1⟩ := HC.out W hWb; obtain ⟨s0, s1⟩ := HSB.out W hWb; go_simp; (try with_reducible rfl); done)); (try simp only [Act.put, List.setIfInBounds_toArray, List.set_cons_zero, List.set_cons_succ])) | (refine PlanB.skip rfl rfl ?_; (try simp only [Act.put, List.setIfInBounds_toArray, List.set_cons_zero, List.set_cons_succ])) | (refine PlanB.pass rfl rfl ?_; (try simp only [Act.put, List.setIfInBounds_toArray, List.set_cons_zero, List.set_cons_succ])))
                  refine PlanB.step rfl rfl (fun Kk hK => ?_)
                  go_simp
                  refine (HX.out _ hbk).mono ?_
                  rintro e wn ⟨rfl, hb'⟩
                  refine hK.out _ _ hb' ?_
                  have hbn := hbk.trans (hb'.mono hbk.size)
                  clear hK Kk hbk
                  have hbk := hbn
                  clear hbn hb'
                  (try simp only [Act.put, List.setIfInBounds_toArray, List.set_cons_zero, List.set_cons_succ])
                  repeat (first | (refine PlanB.take (v := ?_) rfl rfl ?_ ?_; rotate_left; (focus (intro W hW; have hWb := hbk.trans (hW.mono hbk.size); obtain ⟨a0, a1⟩ := HC.out W hWb; obtain ⟨s0, s1⟩ := HSB.out W hWb; go_simp; (try with_reducible rfl); done)); (try simp only [Act.put, List.setIfInBounds_toArray, List.set_cons_zero, List.set_cons_succ])) | (refine PlanB.skip rfl rfl ?_; (try simp only [Act.put, List.setIfInBounds_toArray, List.set_cons_zero, List.set_cons_succ])) | (refine PlanB.pass rfl rfl ?_; (try simp only [Act.put, List.setIfInBounds_toArray, List.set_cons_zero, List.set_cons_succ])))
                  refine PlanB.step rfl rfl (fun Kk hK => ?_)
                  go_simp
                  refine (HY.out _ hbk).mono ?_
                  rintro e wn ⟨rfl, hb'⟩
                  refine hK.out _ _ hb' ?_
                  have hbn := hbk.trans (hb'.mono hbk.size)
                  clear hK Kk hbk
                  have hbk := hbn
                  clear hbn hb'
                  (try simp only [Act.put, List.setIfInBounds_toArray, List.set_cons_zero, List.set_cons_succ])
                  repeat (first | (refine PlanB.take (v := ?_) rfl rfl ?_ ?_; rotate_left; (focus (intro W hW; have hWb := hbk.trans (hW.mono hbk.size); obtain ⟨a0, a1⟩ := HC.out W hWb; obtain ⟨s0, s1⟩ := HSB.out W hWb; go_simp; (try with_reducible rfl); done)); (try simp only [Act.put, List.setIfInBounds_toArray, List.set_cons_zero, List.set_cons_succ])) | (refine PlanB.skip rfl rfl ?_; (try simp only [Act.put, List.setIfInBounds_toArray, List.set_cons_zero, List.set_cons_succ])) | (refine PlanB.pass rfl rfl ?_; (try simp only [Act.put, List.setIfInBounds_toArray, List.set_cons_zero, List.set_cons_succ])))
                  refine PlanB.step rfl rfl (fun Kk hK => ?_)
                  go_simp
                  refine (HS.out _).mono ?_
                  rintro e wn ⟨rfl, hb'⟩
                  refine hK.out _ _ hb' ?_
                  have hbn := hbk.trans (hb'.mono hbk.size)
                  clear hK Kk hbk
                  have hbk := hbn
                  clear hbn hb'
                  (try simp only [Act.put, List.setIfInBounds_toArray, List.set_cons_zero, List.set_cons_succ])
                  repeat (first | (refine PlanB.take (v := ?_) rfl rfl ?_ ?_; rotate_left; (focus (intro W hW; have hWb := hbk.trans (hW.mono hbk.size); obtain ⟨a0, a1⟩ := HC.out W hWb; obtain ⟨s0, s1⟩ := HSB.out W hWb; go_simp; (try with_reducible rfl); done)); (try simp only [Act.put, List.setIfInBounds_toArray, List.set_cons_zero, List.set_cons_succ])) | (refine PlanB.skip rfl rfl ?_; (try simp only [Act.put, List.setIfInBounds_toArray, List.set_cons_zero, List.set_cons_succ])) | (refine PlanB.pass rfl rfl ?_; (try simp only [Act.put, List.setIfInBounds_toArray, List.set_cons_zero, List.set_cons_succ])))
                  simp only [PlanB]
                  have HBF := Lib.hid hbk
                  go_wp2_with fail
                  go_roundw
                  case rel => exact ⟨i + 1, by omega, by go_num, HBF.out⟩
                  case measure => simp [intOf]; omega
              · cases S
                · obtain rfl : DY = true := f3 (by simp)
                  clear f1 f2 f3
                  go_wp2_with fail
                  refine wp_region_planB [(true, 0), (true, 1), (true, 2), (true, 3), (true, 4), (true, 5), (true, 6), (true, 7), (false, 8), (true, 9), (true, 10), (true, 11), (true, 12), (true, 13), (true, 14), (true, 15), (true, 16), (true, 17), (false, 18), (true, 19), (true, 20), (true, 21), (true, 22), (true, 23), (true, 24), (true, 26), (true, 27), (true, 28), (true, 29), (true, 30), (false, 25), (false, 31), (true, 32), (true, 33), (true, 34), (true, 35), (true, 36), (true, 37), (true, 38), (true, 39), (true, 40), (true, 41), (false, 42), (true, 43), (true, 44), (true, 45), (true, 46), (true, 47), (true, 48), (true, 49), (false, 50), (true, 51), (true, 52), (true, 53)] (by kernel_rfl) (by kernel_rfl) (fun _ _ d _ _ h => by cases d <;> exact h) ?_
                  have hbk : Below wb.heap.size wb wr.drew := HBW2.out.drew
                  generalize wr.drew = wd at hbk ⊢
                  repeat (first | (refine PlanB.take (v := ?_) rfl rfl ?_ ?_; rotate_left; (focus (intro W hW; have hWb := hbk.trans (hW.mono hbk.size); obtain ⟨a0, a1⟩ := HC.out W hWb; obtain ⟨s0, s1⟩ := HSB.out W hWb; go_simp; (try with_reducible rfl); done)); (try simp only [Act.put, List.setIfInBounds_toArray, List.set_cons_zero, List.set_cons_succ])) | (refine PlanB.skip rfl rfl ?_; (try simp only [Act.put, List.setIfInBounds_toArray, List.set_cons_zero, List.set_cons_succ])) | (refine PlanB.pass rfl rfl ?_; (try simp only [Act.put, List.setIfInBounds_toArray, List.set_cons_zero, List.set_cons_succ])))
                  refine PlanB.step rfl rfl (fun Kk hK => ?_)
                  go_simp
                  refine (HS.out _).mono ?_
                  rintro e wn ⟨rfl, hb'⟩
                  refine hK.out _ _ hb' ?_
                  have hbn := hbk.trans (hb'.mono hbk.size)
                  clear hK Kk hbk
                  have hbk := hbn
                  clear hbn hb'
                  (try simp only [Act.put, List.setIfInBounds_toArray, List.set_cons_zero, List.set_cons_succ])
                  repeat (first | (refine PlanB.take (v := ?_) rfl rfl ?_ ?_; rotate_left; (focus (intro W hW; have hWb := hbk.trans (hW.mono hbk.size); obtain ⟨a0, a1⟩ := HC.out W hWb; obtain ⟨s0, s1⟩ := HSB.out W hWb; go_simp; (try with_reducible rfl); done)); (try simp only [Act.put, List.setIfInBounds_toArray, List.set_cons_zero, List.set_cons_succ])) | (refine PlanB.skip rfl rfl ?_; (try simp only [Act.put, List.setIfInBounds_toArray, List.set_cons_zero, List.set_cons_succ])) | (refine PlanB.pass rfl rfl ?_; (try simp only [Act.put, List.setIfInBounds_toArray, List.set_cons_zero, List.set_cons_succ])))
                  refine PlanB.step rfl rfl (fun Kk hK => ?_)
                  go_simp
                  refine (HS.out _).mono ?_
                  rintro e wn ⟨rfl, hb'⟩
                  refine hK.out _ _ hb' ?_
                  have hbn := hbk.trans (hb'.mono hbk.size)
                  clear hK Kk hbk
                  have hbk := hbn
                  clear hbn hb'
                  (try simp only [Act.put, List.setIfInBounds_toArray, List.set_cons_zero, List.set_cons_succ])
                  repeat (first | (refine PlanB.take (v := ?_) rfl rfl ?_ ?_; rotate_left; (focus (intro W hW; have hWb := hbk.trans (hW.mono hbk.size); obtain ⟨a0, a1⟩ := HC.out W hWb; obtain ⟨s0, s1⟩ := HSB.out W hWb; go_simp; (try with_reducible rfl); done)); (try simp only [Act.put, List.setIfInBounds_toArray, List.set_cons_zero, List.set_cons_succ])) | (refine PlanB.skip rfl rfl ?_; (try simp only [Act.put, List.setIfInBounds_toArray, List.set_cons_zero, List.set_cons_succ])) | (refine PlanB.pass rfl rfl ?_; (try simp only [Act.put, List.setIfInBounds_toArray, List.set_cons_zero, List.set_cons_succ])))
                  refine PlanB.step rfl rfl (fun Kk hK => ?_)
                  go_simp
                  refine (HY.out _ hbk).mono ?_
                  rintro e wn ⟨rfl, hb'⟩
                  refine hK.out _ _ hb' ?_
                  have hbn := hbk.trans (hb'.mono hbk.size)
                  clear hK Kk hbk
                  have hbk := hbn
                  clear hbn hb'
                  (try simp only [Act.put, List.setIfInBounds_toArray, List.set_cons_zero, List.set_cons_succ])
                  repeat (first | (refine PlanB.take (v := ?_) rfl rfl ?_ ?_; rotate_left; (focus (intro W hW; have hWb := hbk.trans (hW.mono hbk.size); obtain ⟨a0, a1⟩ := HC.out W hWb; obtain ⟨s0, s1⟩ := HSB.out W hWb; go_simp; (try with_reducible rfl); done)); (try simp only [Act.put, List.setIfInBounds_toArray, List.set_cons_zero, List.set_cons_succ])) | (refine PlanB.skip rfl rfl ?_; (try simp only [Act.put, List.setIfInBounds_toArray, List.set_cons_zero, List.set_cons_succ])) | (refine PlanB.pass rfl rfl ?_; (try simp only [Act.put, List.setIfInBounds_toArray, List.set_cons_zero, List.set_cons_succ])))
                  simp only [PlanB]
                  have HBF := Lib.hid hbk
                  go_wp2_with fail
                  go_roundw
                  case rel => exact ⟨i + 1, by omega, by go_num, HBF.out⟩
                  case measure => simp [intOf]; omega
                · cases DX
                  · have hdy : DY = false := by
                      cases DY
                      · rfl
                      · exact absurd ((f2 rfl).2 rfl) (by simp)
                    subst hdy
                    clear f1 f2 f3
                    go_wp2_with fail
                    refine wp_region_planB [(true, 0), (true, 1), (true, 2), (true, 3), (true, 4), (true, 5), (true, 6), (true, 7), (false, 8), (true, 9), (true, 10), (true, 11), (true, 12), (true, 13), (true, 14), (true, 15), (true, 16), (true, 17), (false, 18), (true, 19), (true, 20), (true, 21), (true, 22), (true, 23), (true, 24), (true, 26), (true, 27), (true, 28), (true, 29), (true, 30), (false, 25), (false, 31), (true, 32), (true, 33), (true, 34), (true, 35), (true, 36), (true, 37), (true, 38), (true, 39), (true, 40), (true, 41), (false, 42), (true, 43), (true, 44), (true, 45), (true, 46), (true, 47), (true, 48), (true, 49), (false, 50), (true, 51), (true, 52), (true, 53)] (by kernel_rfl) (by kernel_rfl) (fun _ _ d _ _ h => by cases d <;> exact h) ?_
                    have hbk : Below wb.heap.size wb wr.drew := HBW2.out.drew
                    generalize wr.drew = wd at hbk ⊢
                    repeat (first | (refine PlanB.take (v := ?_) rfl rfl ?_ ?_; rotate_left; (focus (intro W hW; have hWb := hbk.trans (hW.mono hbk.size); obtain ⟨a0, a1⟩ := HC.out W hWb; obtain ⟨s0, s1⟩ := HSB.out W hWb; go_simp; (try with_reducible rfl); done)); (try simp only [Act.put, List.setIfInBounds_toArray, List.set_cons_zero, List.set_cons_succ])) | (refine PlanB.skip rfl rfl ?_; (try simp only [Act.put, List.setIfInBounds_toArray, List.set_cons_zero, List.set_cons_succ])) | (refine PlanB.pass rfl rfl ?_; (try simp only [Act.put, List.setIfInBounds_toArray, List.set_cons_zero, List.set_cons_succ])))
                    refine PlanB.step rfl rfl (fun Kk hK => ?_)
                    go_simp
                    refine (HS.out _).mono ?_
                    rintro e wn ⟨rfl, hb'⟩
                    refine hK.out _ _ hb' ?_
                    have hbn := hbk.trans (hb'.mono hbk.size)
                    clear hK Kk hbk
                    have hbk := hbn
                    clear hbn hb'
                    (try simp only [Act.put, List.setIfInBounds_toArray, List.set_cons_zero, List.set_cons_succ])
                    repeat (first | (refine PlanB.take (v := ?_) rfl rfl ?_ ?_; rotate_left; (focus (intro W hW; have hWb := hbk.trans (hW.mono hbk.size); obtain ⟨a0, a1⟩ := HC.out W hWb; obtain ⟨s0, s1⟩ := HSB.out W hWb; go_simp; (try with_reducible rfl); done)); (try simp only [Act.put, List.setIfInBounds_toArray, List.set_cons_zero, List.set_cons_succ])) | (refine PlanB.skip rfl rfl ?_; (try simp only [Act.put, List.setIfInBounds_toArray, List.set_cons_zero, List.set_cons_succ])) | (refine PlanB.pass rfl rfl ?_; (try simp only [Act.put, List.setIfInBounds_toArray, List.set_cons_zero, List.set_cons_succ])))
                    refine PlanB.step rfl rfl (fun Kk hK => ?_)
                    go_simp
                    refine (HX.out _ hbk).mono ?_
                    rintro e wn ⟨rfl, hb'⟩
                    refine hK.out _ _ hb' ?_
                    have hbn := hbk.trans (hb'.mono hbk.size)
                    clear hK Kk hbk
                    have hbk := hbn
                    clear hbn hb'
                    (try simp only [Act.put, List.setIfInBounds_toArray, List.set_cons_zero, List.set_cons_succ])
                    repeat (first | (refine PlanB.take (v := ?_) rfl rfl ?_ ?_; rotate_left; (focus (intro W hW; have hWb := hbk.trans (hW.mono hbk.size); obtain ⟨a0, a1⟩ := HC.out W hWb; obtain ⟨s0, s1⟩ := HSB.out W hWb; go_simp; (try with_reducible rfl); done)); (try simp only [Act.put, List.setIfInBounds_toArray, List.set_cons_zero, List.set_cons_succ])) | (refine PlanB.skip rfl rfl ?_; (try simp only [Act.put, List.setIfInBounds_toArray, List.set_cons_zero, List.set_cons_succ])) | (refine PlanB.pass rfl rfl ?_; (try simp only [Act.put, List.setIfInBounds_toArray, List.set_cons_zero, List.set_cons_succ])))
                    refine PlanB.step rfl rfl (fun Kk hK => ?_)
                    go_simp
                    refine (HY.out _ hbk).mono ?_
                    rintro e wn ⟨rfl, hb'⟩
                    refine hK.out _ _ hb' ?_
                    have hbn := hbk.trans (hb'.mono hbk.size)
                    clear hK Kk hbk
                    have hbk := hbn
                    clear hbn hb'
                    (try simp only [Act.put, List.setIfInBounds_toArray, List.set_cons_zero, List.set_cons_succ])
                    repeat (first | (refine PlanB.take (v := ?_) rfl rfl ?_ ?_; rotate_left; (focus (intro W hW; have hWb := hbk.trans (hW.mono hbk.size); obtain ⟨a0, a1⟩ := HC.out W hWb; obtain ⟨s0, s1⟩ := HSB.out W hWb; go_simp; (try with_reducible rfl); done)); (try simp only [Act.put, List.setIfInBounds_toArray, List.set_cons_zero, List.set_cons_succ])) | (refine PlanB.skip rfl rfl ?_; (try simp only [Act.put, List.setIfInBounds_toArray, List.set_cons_zero, List.set_cons_succ])) | (refine PlanB.pass rfl rfl ?_; (try simp only [Act.put, List.setIfInBounds_toArray, List.set_cons_zero, List.set_cons_succ])))
                    refine PlanB.step rfl rfl (fun Kk hK => ?_)
                    go_simp
                    refine (HS.out _).mono ?_
                    rintro e wn ⟨rfl, hb'⟩
                    refine hK.out _ _ hb' ?_
                    have hbn := hbk.trans (hb'.mono hbk.size)
                    clear hK Kk hbk
                    have hbk := hbn
                    clear hbn hb'
                    (try simp only [Act.put, List.setIfInBounds_toArray, List.set_cons_zero, List.set_cons_succ])
                    repeat (first | (refine PlanB.take (v := ?_) rfl rfl ?_ ?_; rotate_left; (focus (intro W hW; have hWb := hbk.trans (hW.mono hbk.size); obtain ⟨a0, a1⟩ := HC.out W hWb; obtain ⟨s0, s1⟩ := HSB.out W hWb; go_simp; (try with_reducible rfl); done)); (try simp only [Act.put, List.setIfInBounds_toArray, List.set_cons_zero, List.set_cons_succ])) | (refine PlanB.skip rfl rfl ?_; (try simp only [Act.put, List.setIfInBounds_toArray, List.set_cons_zero, List.set_cons_succ])) | (refine PlanB.pass rfl rfl ?_; (try simp only [Act.put, List.setIfInBounds_toArray, List.set_cons_zero, List.set_cons_succ])))
                    simp only [PlanB]
                    have HBF := Lib.hid hbk
                    go_wp2_with fail
                    go_roundw
                    case rel => exact ⟨i + 1, by omega, by go_num, HBF.out⟩
                    case measure => simp [intOf]; omega
                  · obtain rfl : DY = true := (f2 rfl).1 rfl
                    clear f1 f2 f3
                    go_wp2_with fail
                    refine wp_region_planB [(true, 0), (true, 1), (true, 2), (true, 3), (true, 4), (true, 5), (true, 6), (true, 7), (false, 8), (true, 9), (true, 10), (true, 11), (true, 12), (true, 13), (true, 14), (true, 15), (true, 16), (true, 17), (false, 18), (true, 19), (true, 20), (true, 21), (true, 22), (true, 23), (true, 24), (true, 26), (true, 27), (true, 28), (true, 29), (true, 30), (false, 25), (false, 31), (true, 32), (true, 33), (true, 34), (true, 35), (true, 36), (true, 37), (true, 38), (true, 39), (true, 40), (true, 41), (false, 42), (true, 43), (true, 44), (true, 45), (true, 46), (true, 47), (true, 48), (true, 49), (false, 50), (true, 51), (true, 52), (true, 53)] (by kernel_rfl) (by kernel_rfl) (fun _ _ d _ _ h => by cases d <;> exact h) ?_
                    have hbk : Below wb.heap.size wb wr.drew := HBW2.out.drew
                    generalize wr.drew = wd at hbk ⊢
                    repeat (first | (refine PlanB.take (v := ?_) rfl rfl ?_ ?_; rotate_left; (focus (intro W hW; have hWb := hbk.trans (hW.mono hbk.size); obtain ⟨a0, a1⟩ := HC.out W hWb; obtain ⟨s0, s1⟩ := HSB.out W hWb; go_simp; (try with_reducible rfl); done)); (try simp only [Act.put, List.setIfInBounds_toArray, List.set_cons_zero, List.set_cons_succ])) | (refine PlanB.skip rfl rfl ?_; (try simp only [Act.put, List.setIfInBounds_toArray, List.set_cons_zero, List.set_cons_succ])) | (refine PlanB.pass rfl rfl ?_; (try simp only [Act.put, List.setIfInBounds_toArray, List.set_cons_zero, List.set_cons_succ])))
                    refine PlanB.step rfl rfl (fun Kk hK => ?_)
                    go_simp
                    refine (HS.out _).mono ?_
                    rintro e wn ⟨rfl, hb'⟩
                    refine hK.out _ _ hb' ?_
                    have hbn := hbk.trans (hb'.mono hbk.size)
                    clear hK Kk hbk
                    have hbk := hbn
                    clear hbn hb'
                    (try simp only [Act.put, List.setIfInBounds_toArray, List.set_cons_zero, List.set_cons_succ])
                    repeat (first | (refine PlanB.take (v := ?_) rfl rfl ?_ ?_; rotate_left; (focus (intro W hW; have hWb := hbk.trans (hW.mono hbk.size); obtain ⟨a0, a1⟩ := HC.out W hWb; obtain ⟨s0, s1⟩ := HSB.out W hWb; go_simp; (try with_reducible rfl); done)); (try simp only [Act.put, List.setIfInBounds_toArray, List.set_cons_zero, List.set_cons_succ])) | (refine PlanB.skip rfl rfl ?_; (try simp only [Act.put, List.setIfInBounds_toArray, List.set_cons_zero, List.set_cons_succ])) | (refine PlanB.pass rfl rfl ?_; (try simp only [Act.put, List.setIfInBounds_toArray, List.set_cons_zero, List.set_cons_succ])))
                    refine PlanB.step rfl rfl (fun Kk hK => ?_)
                    go_simp
                    refine (HX.out _ hbk).mono ?_
                    rintro e wn ⟨rfl, hb'⟩
                    refine hK.out _ _ hb' ?_
                    have hbn := hbk.trans (hb'.mono hbk.size)
                    clear hK Kk hbk
                    have hbk := hbn
                    clear hbn hb'
                    (try simp only [Act.put, List.setIfInBounds_toArray, List.set_cons_zero, List.set_cons_succ])
                    repeat (first | (refine PlanB.take (v := ?_) rfl rfl ?_ ?_; rotate_left; (focus (intro W hW; have hWb := hbk.trans (hW.mono hbk.size); obtain ⟨a0, a1⟩ := HC.out W hWb; obtain ⟨s0, s1⟩ := HSB.out W hWb; go_simp; (try with_reducible rfl); done)); (try simp only [Act.put, List.setIfInBounds_toArray, List.set_cons_zero, List.set_cons_succ])) | (refine PlanB.skip rfl rfl ?_; (try simp only [Act.put, List.setIfInBounds_toArray, List.set_cons_zero, List.set_cons_succ])) | (refine PlanB.pass rfl rfl ?_; (try simp only [Act.put, List.setIfInBounds_toArray, List.set_cons_zero, List.set_cons_succ])))
                    refine PlanB.step rfl rfl (fun Kk hK => ?_)
                    go_simp
                    refine (HY.out _ hbk).mono ?_
                    rintro e wn ⟨rfl, hb'⟩
                    refine hK.out _ _ hb' ?_
                    have hbn := hbk.trans (hb'.mono hbk.size)
                    clear hK Kk hbk
                    have hbk := hbn
                    clear hbn hb'
                    (try simp only [Act.put, List.setIfInBounds_toArray, List.set_cons_zero, List.set_cons_succ])
                    repeat (first | (refine PlanB.take (v := ?_) rfl rfl ?_ ?_; rotate_left; (focus (intro W hW; have hWb := hbk.trans (hW.mono hbk.size); obtain ⟨a0, a1⟩ := HC.out W hWb; obtain ⟨s0, s1⟩ := HSB.out W hWb; go_simp; (try with_reducible rfl); done)); (try simp only [Act.put, List.setIfInBounds_toArray, List.set_cons_zero, List.set_cons_succ])) | (refine PlanB.skip rfl rfl ?_; (try simp only [Act.put, List.setIfInBounds_toArray, List.set_cons_zero, List.set_cons_succ])) | (refine PlanB.pass rfl rfl ?_; (try simp only [Act.put, List.setIfInBounds_toArray, List.set_cons_zero, List.set_cons_succ])))
                    refine PlanB.step rfl rfl (fun Kk hK => ?_)
                    go_simp
                    refine (HS.out _).mono ?_
                    rintro e wn ⟨rfl, hb'⟩
                    refine hK.out _ _ hb' ?_
                    have hbn := hbk.trans (hb'.mono hbk.size)
                    clear hK Kk hbk
                    have hbk := hbn
                    clear hbn hb'
                    (try simp only [Act.put, List.setIfInBounds_toArray, List.set_cons_zero, List.set_cons_succ])
                    repeat (first | (refine PlanB.take (v := ?_) rfl rfl ?_ ?_; rotate_left; (focus (intro W hW; have hWb := hbk.trans (hW.mono hbk.size); obtain ⟨a0, a1⟩ := HC.out W hWb; obtain ⟨s0, s1⟩ := HSB.out W hWb; go_simp; (try with_reducible rfl); done)); (try simp only [Act.put, List.setIfInBounds_toArray, List.set_cons_zero, List.set_cons_succ])) | (refine PlanB.skip rfl rfl ?_; (try simp only [Act.put, List.setIfInBounds_toArray, List.set_cons_zero, List.set_cons_succ])) | (refine PlanB.pass rfl rfl ?_; (try simp only [Act.put, List.setIfInBounds_toArray, List.set_cons_zero, List.set_cons_succ])))
                    simp only [PlanB]
                    have HBF := Lib.hid hbk
                    go_wp2_with fail
                    go_roundw
                    case rel => exact ⟨i + 1, by omega, by go_num, HBF.out⟩
                    case measure => simp [intOf]; omega
        · go_wp2_with fail
          go_ret
          exact ⟨rfl, HE2.out _ HBW.out⟩
    · have H03 := Lib.hid h3
      subst h1 h2
      clear HGOOD HQZ
      go_wp2_with fail
      refine (awake_any _).mono ?_
      rintro e wz ⟨rfl, hb⟩
      have HZ := Lib.hid (HKB.out.trans (hb.mono HKB.out.size)); clear hb
      go_wp2_with fail
      go_ret
      exact ⟨rfl, HEND.out _ HZ.out⟩
  · have H01 := Lib.hid h1
    clear HGOOD HQZ
    go_wp2_with fail
    refine (awake_any _).mono ?_
    rintro e wz ⟨rfl, hb⟩
    have HZ := Lib.hid (HKB.out.trans (hb.mono HKB.out.size)); clear hb
    go_wp2_with fail
    go_ret
    exact ⟨rfl, HEND.out _ HZ.out⟩
end Go.Proofs.Ytdkdolcocblhkaa
namespace Go.Proofs.Ytdkdolcocblhkaa
open Go.ChangeShapes Go.WideShapes Go.ChangeAt Go.RowKit Go.Joins

set_option maxRecDepth 100000 in
theorem changeOutside_lifted (os : Os) (started : os.Started) (H : Type) (enc : TypeId × Value → H) (F : Stop.Interp) :
    ReturnsInHanded {} Try.checked os 10 .any ((Rows.OpenSpec.upto Rows.changeOutsideSpec).pre6 enc Try.prog Try.f10 Rows.changeOutsideUptoRow.domain false) (((Rows.OpenSpec.upto Rows.changeOutsideSpec).at F).post enc Try.prog Try.f10 false true false false) := by
  refine returnsInHanded_of_cond_sized (C := Try.checked) (s := Rows.OpenSpec.upto Rows.changeOutsideSpec) (k := Rows.uptoSmall) rfl prog_own started (by kernel_rfl) Try.func10
    (OpenSpec.witness (enc := enc) (C := Try.checked) (s := Rows.OpenSpec.upto Rows.changeOutsideSpec) (k := Rows.uptoSmall) rfl false ⟨#[], #[.slice none 0 0, .slice none 0 0, .agg #[.string ⟨#[]⟩, .string ⟨#[]⟩]], []⟩ 8 (by kernel_rfl) (by kernel_rfl) (by kernel_rfl)
      (x := ([.nil, .nil, .agg [.lit (.string []), .lit (.string [])]], [], [])) (by kernel_rfl) rfl (by kernel_rfl)) ?_
  intro W base args ds gs before hval0 hW _ hk hsz0 _
  have hval : ∀ (j : Nat) t v, Try.f10.params[j]? = some t → args[j]? = some v → Value.okWide Try.prog W .any base t v := hval0
  have hW' := hW
  obtain ⟨p, q, hA0, hV, rfl, _, _⟩ := hW
  have hA : DataW.TrodAll enc Try.prog W 0 (fun _ => true) true Try.f10.params.toList args.toList ds p := hA0
  obtain ⟨rfl, rfl⟩ := trodVars_none hV
  have hsz : (DataW.weightsEach Try.prog Try.f10.params.toList ds).all (· ≤ reachBytes) = true := by
    have h0 : (Rows.OpenSpec.upto Rows.changeOutsideSpec).bare.plain.varTypes Try.checked.prog = [] := rfl
    rw [h0, List.append_nil, List.append_nil] at hsz0
    exact hsz0
  rw [Try.params10] at hA hval hsz
  have hb : Rows.uptoBulkAll (ds ++ []) ≤ 1048576 := of_decide_eq_true hk
  rw [List.append_nil] at hb
  obtain ⟨v0, v1, v2, d0, d1, d2, p0, p1, p2, rfl, rfl, rfl, h0, h1, h2⟩ := trodAll_three hA
  obtain ⟨l0, hr0, hz0⟩ := open_pairs (hval 0 30 v0 rfl rfl) h0
  have hn0 := hz0.reachP hsz (j := 0) rfl rfl
  have hs0 := hz0.textsP hsz (j := 0) rfl rfl
  obtain ⟨l1, hr1, hz1⟩ := open_chgs (hval 1 24 v1 rfl rfl) h1
  have hn1 := hz1.reachC hsz (j := 1) rfl rfl
  have hs1 := hz1.textsC hsz (j := 1) rfl rfl
  obtain ⟨s2, rfl, hk2, hv2⟩ := open_span (hval 2 48 v2 rfl rfl) h2 (weights_all hsz (j := 2) rfl rfl)
  have hb0 := hz0.bulk
  have hb1 := hz1.bulk
  simp only [Rows.uptoBulkAll] at hb
  refine (changeOutside_walk l0 l1 s2 hk2 hv2 (smallP_of hs0) (small_of hs1) _ _ W hr0 hr1 (by omega)).mono fun e W' ⟨he, hbe⟩ => ⟨_, he, ?_⟩
  exact law_post prog_laid (by kernel_rfl) rfl rfl Try.underlying4 (fun ds h => by match ds, h with | [a, b, c], _ => rfl) hW' hbe

set_option maxRecDepth 100000 in
theorem changeOutside_holds : Rows.ChangeOutsideUptoSaid :=
  OpenClaim.holds_of_cond 10 Try.f10 rfl rfl rfl rfl rfl rfl rfl ⟨rfl, rfl, rfl, rfl, rfl⟩ rfl rfl rfl rfl rfl (by kernel_rfl) Try.func10 (by kernel_rfl)
    (of_decide_eq_true (by kernel_rfl)) (by unfold Func.isWrapper; rw [if_neg (by decide +kernel)]; exact ⟨rfl, rfl⟩)
    (fun os started H enc _ F => changeOutside_lifted os started H enc F)

#print axioms changeOutside_holds
end Go.Proofs.Ytdkdolcocblhkaa

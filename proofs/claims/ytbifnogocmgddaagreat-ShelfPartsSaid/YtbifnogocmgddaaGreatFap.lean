/- What cutting changes to a span does to pairs; two pieces of a span; pure. The program's Empty and Meet (for a seat with past's texts). What the program's Cut answers (for a seat with past's texts; cut1 and cutP are ShP's). -/
import Derived.Test.YtbifnogocmgddaaGreatFac
import Derived.Test.YtbifnogocmgddaaGreatFab
import Derived.Test.YtbifnogocmgddaaGreatFae
import Derived.Test.YtbifnogocmgddaaGreatFam
namespace Go.Proofs.YtbifnogocmgddaaGreat
open Go.RowKit

/-- what is left of a change in a span -/
def cut1 (s : K × K) (c : Chg) : List Chg :=
  if c.kind = 3 then (if (meet s (cspan c)).1 < (meet s (cspan c)).2 then [⟨3, (meet s (cspan c)).1, (meet s (cspan c)).2⟩] else []) else if hasB s c.key then [c] else []
def cutP (s : K × K) (cs : List Chg) : List Chg := cs.flatMap (cut1 s)
theorem has_meet {a b : K × K} (k : K) : has (meet a b) k ↔ has a k ∧ has b k := by
  unfold meet has
  have h1 : mx a.1 b.1 ≤ k ↔ a.1 ≤ k ∧ b.1 ≤ k := by
    rcases mx_cases a.1 b.1 with ⟨h0, h⟩ | ⟨h0, h⟩ <;> rw [h] <;> grind
  have h2 : k < mn a.2 b.2 ↔ k < a.2 ∧ k < b.2 := by
    rcases mn_cases a.2 b.2 with ⟨h0, h⟩ | ⟨h0, h⟩ <;> rw [h] <;> grind
  by_cases h : mn a.2 b.2 ≤ mx a.1 b.1
  · rw [if_pos h]
    have h3 : ¬ (mx a.1 b.1 ≤ k ∧ k < mn a.2 b.2) := by grind
    rw [h1, h2] at h3
    simp only
    constructor
    · rintro ⟨h4, h5⟩
      exact absurd h5 (by grind)
    · rintro ⟨⟨e1, e2⟩, e3, e4⟩
      exact absurd ⟨⟨e1, e3⟩, e2, e4⟩ h3
  · rw [if_neg h]
    simp only
    rw [h1, h2]
    constructor
    · rintro ⟨⟨e1, e3⟩, e2, e4⟩; exact ⟨⟨e1, e2⟩, e3, e4⟩
    · rintro ⟨⟨e1, e2⟩, e3, e4⟩; exact ⟨⟨e1, e3⟩, e2, e4⟩
theorem has_nonempty {a : K × K} {k : K} (h : has a k) : a.1 < a.2 := by
  obtain ⟨h1, h2⟩ := h
  grind
theorem cut1_apply (s : K × K) (c : Chg) (Z : List (K × K)) (p : K × K) (hp : has s p.1) : p ∈ applyP Z (cut1 s c) ↔ p ∈ oneP Z c := by
  rw [mem_oneP]
  unfold cut1
  by_cases h3 : c.kind = 3
  · rw [if_pos h3]
    have h1 : ¬ c.kind = 1 := by omega
    by_cases hm : (meet s (cspan c)).1 < (meet s (cspan c)).2
    · rw [if_pos hm]
      show p ∈ oneP Z _ ↔ _
      have e : cspan ⟨3, (meet s (cspan c)).1, (meet s (cspan c)).2⟩ = meet s (cspan c) := by unfold cspan; simp
      rw [mem_oneP, e, has_meet]
      simp [h1, hp]
    · rw [if_neg hm]
      show p ∈ Z ↔ _
      have : ¬ has (cspan c) p.1 := fun h => hm (has_nonempty ((has_meet p.1).2 ⟨hp, h⟩))
      simp [h1, this]
  · rw [if_neg h3]
    by_cases hs : hasB s c.key = true
    · rw [if_pos hs]
      show p ∈ oneP Z c ↔ _
      rw [mem_oneP]
    · rw [if_neg hs]
      show p ∈ Z ↔ _
      have hne : p.1 ≠ c.key := fun h => hs ((hasB_iff s c.key).2 (h ▸ hp))
      have : ¬ has (cspan c) p.1 := fun h => hne ((has_cspan c h3 _).1 h)
      constructor
      · intro h; exact .inl ⟨h, this⟩
      · rintro (⟨h, _⟩ | ⟨_, rfl⟩)
        · exact h
        · exact absurd rfl hne
theorem cut_apply (s : K × K) (p : K × K) (hp : has s p.1) : ∀ (cs : List Chg) (Z Z' : List (K × K)), (p ∈ Z ↔ p ∈ Z') → (p ∈ applyP Z (cutP s cs) ↔ p ∈ applyP Z' cs)
  | [], Z, Z', h => by simpa [cutP, applyP] using h
  | c :: r, Z, Z', h => by
    have e : cutP s (c :: r) = cut1 s c ++ cutP s r := by simp [cutP]
    rw [e, applyP_append]
    have e2 : applyP Z' (c :: r) = applyP (oneP Z' c) r := rfl
    rw [e2]
    refine cut_apply s p hp r _ _ ?_
    rw [cut1_apply s c Z p hp, mem_oneP, mem_oneP, h]
theorem cut_in (s : K × K) (l : List (K × K)) (cs : List Chg) (p : K × K) (hp : has s p.1) : p ∈ applyP l (cutP s cs) ↔ p ∈ applyP l cs := cut_apply s p hp cs l l Iff.rfl
/-- what is left lies in the span -/
theorem cut1_key (s : K × K) (c d : Chg) (h : d ∈ cut1 s c) : has s d.key := by
  unfold cut1 at h
  by_cases h3 : c.kind = 3
  · rw [if_pos h3] at h
    by_cases hm : (meet s (cspan c)).1 < (meet s (cspan c)).2
    · rw [if_pos hm] at h
      rw [List.mem_singleton] at h
      subst h
      exact ((has_meet _).1 (show has (meet s (cspan c)) (meet s (cspan c)).1 from ⟨by grind, hm⟩)).1
    · rw [if_neg hm] at h
      cases h
  · rw [if_neg h3] at h
    by_cases hs : hasB s c.key = true
    · rw [if_pos hs, List.mem_singleton] at h
      subst h
      exact (hasB_iff s _).1 hs
    · rw [if_neg hs] at h
      cases h
theorem cut_only (s : K × K) (cs : List Chg) (p : K × K) (h : p ∈ applyP [] (cutP s cs)) : has s p.1 :=
  all_applyP (R := fun p => has s p.1) (by simp) (fun c hc => by
    obtain ⟨d, _, hd⟩ := List.mem_flatMap.1 hc
    exact cut1_key s d c hd) p h
theorem cut_all (s : K × K) (cs : List Chg) (p : K × K) : p ∈ applyP [] (cutP s cs) ↔ has s p.1 ∧ p ∈ applyP [] cs :=
  ⟨fun h => ⟨cut_only s cs p h, (cut_in s [] cs p (cut_only s cs p h)).1 h⟩, fun h => (cut_in s [] cs p h.1).2 h.2⟩
theorem rises_ext : ∀ {a b : List (K × K)}, Rises a → Rises b → (∀ p, p ∈ a ↔ p ∈ b) → a = b
  | [], [], _, _, _ => rfl
  | [], y :: b, _, _, h => by have := (h y).2 (by simp); cases this
  | x :: a, [], _, _, h => by have := (h x).1 (by simp); cases this
  | x :: a, y :: b, ha, hb, h => by
    obtain ⟨a1, a2⟩ := rises_cons.1 ha
    obtain ⟨b1, b2⟩ := rises_cons.1 hb
    have e : x = y := by
      rcases List.mem_cons.1 ((h x).1 (by simp)) with e | e
      · exact e
      · rcases List.mem_cons.1 ((h y).2 (by simp)) with e' | e'
        · exact e'.symm
        · have k1 := b1 x e
          have k2 := a1 y e'
          exact absurd k1 (by grind)
    subst e
    rw [rises_ext a2 b2 (fun p => ?_)]
    constructor
    · intro hp
      rcases List.mem_cons.1 ((h p).1 (List.mem_cons_of_mem _ hp)) with e | e
      · subst e
        exact absurd (a1 p hp) (by grind)
      · exact e
    · intro hp
      rcases List.mem_cons.1 ((h p).2 (List.mem_cons_of_mem _ hp)) with e | e
      · subst e
        exact absurd (b1 p hp) (by grind)
      · exact e
/-- two pieces have together what one of both has -/
theorem cut_parts (x m y : K) (h1 : x ≤ m) (h2 : m ≤ y) (cs : List Chg) : applyP [] (cutP (x, y) cs) = applyP [] (cutP (x, m) cs) ++ applyP [] (cutP (m, y) cs) := by
  have r0 : Rises ([] : List (K × K)) := List.Pairwise.nil
  refine rises_ext (rises_applyP r0 _) (rises_append.2 ⟨rises_applyP r0 _, rises_applyP r0 _, fun p hp q hq => ?_⟩) (fun p => ?_)
  · have k1 := (cut_only _ cs p hp).2
    have k2 := (cut_only _ cs q hq).1
    simp only at k1 k2
    grind
  · rw [List.mem_append, cut_all, cut_all, cut_all]
    unfold has
    simp only
    constructor
    · rintro ⟨⟨k1, k2⟩, k3⟩
      by_cases hm : p.1 < m
      · exact .inl ⟨⟨k1, hm⟩, k3⟩
      · exact .inr ⟨⟨by grind, k2⟩, k3⟩
    · rintro (⟨⟨k1, k2⟩, k3⟩ | ⟨⟨k1, k2⟩, k3⟩)
      · exact ⟨⟨k1, by grind⟩, k3⟩
      · exact ⟨⟨by grind, k2⟩, k3⟩
end Go.Proofs.YtbifnogocmgddaaGreat
namespace Go.Proofs.YtbifnogocmgddaaGreat
open Go.RowKit
attribute [local go_sem] less_eq same_eq le_eq ge_eq gt_eq

set_option maxHeartbeats 400000 in
theorem empty_any (s : K × K) (w : World) : Calls Tryz.prog 17 #[.agg #[.string s.1, .string s.2]] w fun e w' => e = .returned (.bool (decide (s.2 ≤ s.1))) ∧ Below w.heap.size w w' := by
  go_enter Tryz.func17, Tryz.ntmps17
  go_wp2
  go_ret
  exact ⟨rfl, (Below.refl _ _).alloc (Nat.le_refl _) _⟩

set_option maxHeartbeats 400000 in
theorem meet_any (a b : K × K) (w : World) : Calls Tryz.prog 45 #[.agg #[.string a.1, .string a.2], .agg #[.string b.1, .string b.2]] w fun e w' => e = .returned (spv (meet a b)) ∧ Below w.heap.size w w' := by
  have hmax := fun (w : World) (ts : Array TypeId) (t : TypeId) (x y : ByteArray) => (Lib.run_max_strs (P := Tryz.prog) w ts t x y)
  have hmin := fun (w : World) (ts : Array TypeId) (t : TypeId) (x y : ByteArray) => (Lib.run_min_strs (P := Tryz.prog) w ts t x y)
  simp only [maxS_eq, minS_eq] at hmax hmin
  by_cases h : mn a.2 b.2 ≤ mx a.1 b.1
  · have e : meet a b = (⟨#[]⟩, ⟨#[]⟩) := by rw [meet, if_pos h]
    rw [e]
    go_enter Tryz.func45, Tryz.ntmps45
    go_wp2
    refine bodyPost_ret (v := .agg #[.string ⟨#[]⟩, .string ⟨#[]⟩]) (by simp [results, Tryz.results45, go_sem]) rfl ⟨rfl, ?_⟩
    ((repeat' (first | exact Below.refl _ _ | refine Below.alloc ?_ ?_ _ | refine Below.setCell ?_ ?_ _ | refine Below.drew ?_)); all_goals ((try simp only [World.size_alloc]); omega))
  · have e : meet a b = (mx a.1 b.1, mn a.2 b.2) := by rw [meet, if_neg h]
    rw [e]
    go_enter Tryz.func45, Tryz.ntmps45
    go_wp2
    refine bodyPost_ret (v := .agg #[.string (mx a.1 b.1), .string (mn a.2 b.2)]) (by simp [results, Tryz.results45, go_sem]) rfl ⟨rfl, ?_⟩
    ((repeat' (first | exact Below.refl _ _ | refine Below.alloc ?_ ?_ _ | refine Below.setCell ?_ ?_ _ | refine Below.drew ?_)); all_goals ((try simp only [World.size_alloc]); omega))

end Go.Proofs.YtbifnogocmgddaaGreat
namespace Go.Proofs.YtbifnogocmgddaaGreat
open Go.RowKit
attribute [local go_sem] less_eq same_eq le_eq ge_eq gt_eq

set_option maxHeartbeats 1000000 in
set_option maxRecDepth 100000 in
theorem cwipe_any (p : K × K) (w : World) : Calls Tryz.prog 47 #[.agg #[.string p.1, .string p.2]] w fun e w' => e = .returned (.agg #[.int .i64 3, .string p.1, .string p.2]) ∧ Below w.heap.size w w' := by
  go_enter Tryz.func47, Tryz.ntmps47
  go_wp2_with fail
  refine bodyPost_ret (v := .agg #[.int .i64 3, .string p.1, .string p.2]) (by simp [results, Tryz.results47, go_sem]) rfl ⟨rfl, ?_⟩
  ((repeat' (first | exact Below.refl _ _ | refine Below.alloc ?_ ?_ _ | refine Below.setCell ?_ ?_ _ | refine Below.drew ?_)); all_goals ((try simp only [World.size_alloc]); omega))
theorem RdC.oneS (w : World) (s : Chg) : RdC (w.alloc (.cells #[.int .i64 s.kind, .string s.key, .string s.val] 67)) (w.heap.size + 1) (.slice (some ⟨w.heap.size, 0, none⟩) 1 1) [s] := by
  refine ⟨_, 1, rfl, Nat.le_refl _, fun i hi => ⟨w.heap.size, 0, rfl, Nat.lt_succ_self _, fun j u hu => ?_⟩⟩
  obtain rfl : i = 0 := by simp at hi; omega
  match j, hu with
  | 0, hu =>
    simp only [encC, List.getElem_cons_zero, List.getElem?_cons_zero, Option.some.injEq] at hu
    subst hu
    exact World.cell?_alloc_at _ _ _ _ rfl
  | 1, hu =>
    simp only [encC, List.getElem_cons_zero, List.getElem?_cons_succ, List.getElem?_cons_zero, Option.some.injEq] at hu
    subst hu
    exact World.cell?_alloc_at _ _ _ _ rfl
  | 2, hu =>
    simp only [encC, List.getElem_cons_zero, List.getElem?_cons_succ, List.getElem?_cons_zero, Option.some.injEq] at hu
    subst hu
    exact World.cell?_alloc_at _ _ _ _ rfl
  | j + 3, hu => simp [encC] at hu
theorem wpList_addCs {ops : Array Oper} {rest : List Oper} {o : Oper} {a : Act} {Q : Exit → Act → World → Prop} {w : World} (hgd : Region.wanted o (yielded ops a.tmps) = true) (s x : Operand)
    (ho : o.op = .call { callee := .builtin .append, args := #[s, x], argTypes := #[22, 22] })
    (base : Nat) (v : Value) (l : List Chg) (hs : a.eval s = v) (hown : OwnC w base v l) (B : Nat) (v2 : Value) (p : List Chg) (hx : a.eval x = v2) (hp : RdC w B v2 p)
    (hlen : l.length + p.length ≤ 5629499533000) (hbase : base ≤ w.heap.size) (C : Nat) (w0 : World) (hb : Below C w0 w) (hC : C ≤ base)
    (h : ∀ A' c' w', Hid (OwnC w' base (.slice A' (l ++ p).length c') (l ++ p)) → Hid (Below C w0 w') → Hid (base ≤ w'.heap.size) → wpList Tryz.prog ops Q rest (a.put o.dst (.slice A' (l ++ p).length c')) w') : wpList Tryz.prog ops Q (o :: rest) a w := by
  obtain ⟨i0, hi, hz0, hz1, hz2⟩ := info_parts info_chg
  refine BigFrame.wpList_want hgd fun K hK => ?_
  refine wp_addAny (enc := encC) (k := 3) 22 67 40 i0 _ Tryz.underlying22 hi hz0 hz1 hz2 rfl (by decide) encC_len encC_one s x ho base v l hs hown B v2 p hx hp (by unfold maxLen; omega) (by omega) hbase fun A' c' w' h1 h2 => ?_
  exact hK _ _ (h A' c' w' (Lib.hid h1) (Lib.hid (hown.grown hb h2 hC (Nat.le_trans hC hbase))) (Lib.hid (Nat.le_trans hbase h2.size)))

theorem frozen_new (w : World) (c : Array Value) (t : TypeId) (j : Nat) : (w.alloc (.cells c t)).frozen? ⟨w.heap.size, j, none⟩ = false := by
  rw [frozen?_alloc_cells]
  simp [World.frozen?]
theorem two_put (w : World) (G : Nat) (x y : Value) {a b : Value} (h0 : w.cell? ⟨G, 0, none⟩ = some a) (h1 : w.cell? ⟨G, 1, none⟩ = some b) (_z0 : w.frozen? ⟨G, 0, none⟩ = false) (z1 : w.frozen? ⟨G, 1, none⟩ = false) :
    (w.setCell ⟨G, 0, none⟩ x).cell? ⟨G, 1, none⟩ = some b ∧ (w.setCell ⟨G, 0, none⟩ x).frozen? ⟨G, 1, none⟩ = false ∧
    ((w.setCell ⟨G, 0, none⟩ x).setCell ⟨G, 1, none⟩ y).cell? ⟨G, 0, none⟩ = some x ∧ ((w.setCell ⟨G, 0, none⟩ x).setCell ⟨G, 1, none⟩ y).cell? ⟨G, 1, none⟩ = some y := by
  have e : (⟨G, 0, none⟩ : Addr) ≠ ⟨G, 1, none⟩ := by simp
  have k1 := (World.cell?_setCell_other w ⟨G, 0, none⟩ ⟨G, 1, none⟩ x e).trans h1
  refine ⟨k1, ?_, ?_, World.cell?_setCell_same _ _ _ k1⟩
  · rw [World.frozen?_setCell]; exact z1
  · rw [World.cell?_setCell_other _ _ _ _ e.symm]; exact World.cell?_setCell_same _ _ _ h0
theorem wpList_addCg {ops : Array Oper} {rest : List Oper} {o : Oper} {a : Act} {Q : Exit → Act → World → Prop} {w : World} (hgd : Region.wanted o (yielded ops a.tmps) = true) (s x : Operand)
    (ho : o.op = .call { callee := .builtin .append, args := #[s, x], argTypes := #[22, 22] })
    (base : Nat) (v : Value) (l : List Chg) (hs : a.eval s = v) (hown : OwnC w base v l) (B : Nat) (v2 : Value) (p : List Chg) (hx : a.eval x = v2) (hp : RdC w B v2 p)
    (hlen : l.length + p.length ≤ 5629499533000) (hbase : base ≤ w.heap.size) (C : Nat) (w0 : World) (hb : Below C w0 w) (hC : C ≤ base)
    (h : ∀ A' c' w', Hid (OwnC w' base (.slice A' (l ++ p).length c') (l ++ p)) → Hid (Below C w0 w') → Hid (base ≤ w'.heap.size) → (∀ q : Addr, q.block < w.heap.size → v.ownBlock ≠ some q.block → w'.cell? q = w.cell? q) → wpList Tryz.prog ops Q rest (a.put o.dst (.slice A' (l ++ p).length c')) w') : wpList Tryz.prog ops Q (o :: rest) a w := by
  obtain ⟨i0, hi, hz0, hz1, hz2⟩ := info_parts info_chg
  refine BigFrame.wpList_want hgd fun K hK => ?_
  refine wp_addAny (enc := encC) (k := 3) 22 67 40 i0 _ Tryz.underlying22 hi hz0 hz1 hz2 rfl (by decide) encC_len encC_one s x ho base v l hs hown B v2 p hx hp (by unfold maxLen; omega) (by omega) hbase fun A' c' w' h1 h2 => ?_
  exact hK _ _ (h A' c' w' (Lib.hid h1) (Lib.hid (hown.grown hb h2 hC (Nat.le_trans hC hbase))) (Lib.hid (Nat.le_trans hbase h2.size)) fun q hq hne => World.cell?_of_block (h2.block q.block hq (fun e => hne e.symm)))
theorem cut1_len (s : K × K) (c : Chg) : (cut1 s c).length ≤ 1 := by
  unfold cut1
  split
  · split <;> simp
  · split <;> simp
theorem cutP_len (s : K × K) : ∀ cs : List Chg, (cutP s cs).length ≤ cs.length
  | [] => by simp [cutP]
  | c :: r => by
    have h1 := cut1_len s c
    have h2 := cutP_len s r
    simp only [cutP, List.flatMap_cons, List.length_append, List.length_cons] at h2 ⊢
    omega

theorem meet_single (s : K × K) (c : Chg) (hc : c.kind ≠ 3) : hasB s c.key = true ↔ ¬ (meet s (cspan c)).2 ≤ (meet s (cspan c)).1 := by
  have h1 := next_gt c.key
  have h2 := next_gap c.key s.1
  have e1 := mx_cases s.1 c.key
  have e2 := mn_cases s.2 (c.key ++ ⟨#[0]⟩)
  unfold cspan meet hasB
  rw [if_neg hc]
  simp only [Bool.and_eq_true, decide_eq_true_eq]
  split
  · rename_i h
    simp only
    constructor
    · rintro ⟨h3, h4⟩; grind
    · intro h3; exact absurd (Std.IsPreorder.le_refl _) h3
  · rename_i h
    simp only
    constructor
    · intro _; exact h
    · intro _
      constructor
      · rcases h2 with h5 | h5
        · exact h5
        · exfalso; apply h; grind
      · grind
theorem Own.putAway {α : Type} {enc : α → List Value} {k : Nat} {e : TypeId} {w : World} {base b : Nat} {v : Value} {l : List α} (h : Own enc k e w base v l) (hne : v.ownBlock ≠ some b) (j : Nat) (u : Value) : Own enc k e (w.setCell ⟨b, j, none⟩ u) base v l :=
  ownsRow_setCell_other h (a := ⟨b, j, none⟩) hne u

/-- what Cut answers: an error, or changes of the call's own -/
def CutIs (w : World) (base : Nat) (v' : Value) (q e : Int) (big : Prop) (L : List Chg) : Prop :=
  (q = e ∧ q ≠ 0 ∧ v' = .slice none 0 0) ∨ (e = 0 ∧ big ∧ q = 6 ∧ v' = .slice none 0 0) ∨ (e = 0 ∧ ¬ big ∧ q = 0 ∧ OwnC w base v' L)
theorem CutIs.err {w : World} {base : Nat} {q : Int} {big : Prop} {L : List Chg} (h : q ≠ 0) : CutIs w base (.slice none 0 0) q q big L := .inl ⟨rfl, h, rfl⟩
theorem CutIs.large {w : World} {base : Nat} {big : Prop} {L : List Chg} (h : big) : CutIs w base (.slice none 0 0) 6 0 big L := .inr (.inl ⟨rfl, h, rfl, rfl⟩)
theorem CutIs.ok {w : World} {base : Nat} {v' : Value} {big : Prop} {L : List Chg} (h : ¬ big) (ho : OwnC w base v' L) : CutIs w base v' 0 0 big L := .inr (.inr ⟨rfl, h, rfl, ho⟩)

set_option maxHeartbeats 16000000 in
set_option maxRecDepth 100000 in
theorem pcut_any (s : K × K) (l : List Chg) (hs : ∀ c ∈ l, smallC c) (v : Value) (w : World) (hv : RdC w w.heap.size v l) (hl : l.length ≤ 5629499532000) :
    Calls Tryz.prog 24 #[spv s, v] w fun e w' => ∃ v' q, e = .returned (.tuple #[v', .int .i64 q]) ∧ Below w.heap.size w w' ∧ CutIs w' w.heap.size v' q (allAns l) (s.1.size > 17 ∨ s.2.size > 17) (cutP s l) := by
  have hfirst := fun W (h : RdC W W.heap.size v l) => first_any l hs v W h (by omega)
  obtain ⟨A, cc, rfl, hcc, hi⟩ := hv.at
  have HF := Lib.hid hfirst; clear hfirst
  have HV := Lib.hid hv; clear hv
  have HI := Lib.hid hi; clear hi
  have HS := Lib.hid hs; clear hs
  unfold spv
  obtain ⟨R, hR⟩ : ∃ R, R = cutP s l := ⟨_, rfl⟩
  rw [← hR]
  have HR := Lib.hid hR; clear hR
  obtain ⟨s1, s2⟩ := s
  obtain ⟨big, hbig⟩ : ∃ big : Prop, big = (s1.size > 17 ∨ s2.size > 17) := ⟨_, rfl⟩
  simp only [gt_iff_lt] at hbig HR ⊢
  rw [← hbig]
  have HBG := Lib.hid hbig; clear hbig
  generalize allAns l = q at HF ⊢
  go_enter Tryz.func24, Tryz.ntmps24
  go_wp2_with fail
  refine (HF.out _ ((HV.out.below ((Below.refl _ w).alloc (Nat.le_refl _) _) (Nat.le_refl _)).mono (by simp))).mono ?_
  rintro e w1 ⟨rfl, hb1⟩
  have hb01 : Below w.heap.size w w1 := ((Below.refl _ w).alloc (Nat.le_refl _) _).trans (hb1.mono (by simp))
  have hlt1 : w.heap.size < w1.heap.size := by have := hb1.size; simp at this; omega
  have hsw := (Whole.fresh w 31 [.string s1, .string s2]).below hb1 (by simp)
  obtain ⟨g, hg⟩ : ∃ g, g = w1.heap.size := ⟨_, rfl⟩
  have hsc : ∀ W, Below g w1 W → W.cell? ⟨w.heap.size, 0, none⟩ = some (.string s1) ∧ W.cell? ⟨w.heap.size, 1, none⟩ = some (.string s2) := fun W hW => by
    have h := hsw.below hW (by rw [hg]; exact hlt1)
    exact ⟨h.cell 0 _ rfl, h.cell 1 _ rfl⟩
  have hic : ∀ i (_ : i < l.length), ∃ b o, A = some ⟨b, o, none⟩ ∧ ∀ W, Below g w1 W → W.cell? ⟨b, o + i * 3, none⟩ = some (.int .i64 l[i].kind) ∧ W.cell? ⟨b, o + i * 3 + 1, none⟩ = some (.string l[i].key) ∧ W.cell? ⟨b, o + i * 3 + 2, none⟩ = some (.string l[i].val) := fun i h => by
    obtain ⟨b, o, hA, hbB, k0, k1, k2⟩ := HI.out i h
    have hbB2 : b < g := by omega
    rw [← hb01.cell (p := ⟨b, o + i * 3, none⟩) hbB] at k0
    rw [← hb01.cell (p := ⟨b, o + i * 3 + 1, none⟩) hbB] at k1
    rw [← hb01.cell (p := ⟨b, o + i * 3 + 2, none⟩) hbB] at k2
    exact ⟨b, o, hA, fun W hW => ⟨(hW.cell (p := ⟨b, _, none⟩) hbB2).trans k0, (hW.cell (p := ⟨b, _, none⟩) hbB2).trans k1, (hW.cell (p := ⟨b, _, none⟩) hbB2).trans k2⟩⟩
  have HG := Lib.hid hg
  have HSZ := Lib.hid (show w1.heap.size = g from hg.symm)
  have HSC := Lib.hid hsc; clear hsc
  have HIC := Lib.hid hic; clear hic
  have HB01 := Lib.hid hb01; clear hb01
  clear hb1 hsw hg HV HI
  by_cases h0 : ¬ q = 0
  · have H0 := Lib.hid h0
    go_wp2_with fail
    go_ret2
    exact ⟨_, _, rfl, HB01.out, CutIs.err H0.out⟩
  obtain rfl : q = 0 := Classical.not_not.1 h0
  clear h0
  obtain ⟨p0, p1⟩ := HSC.out w1 (Below.refl _ _)
  by_cases hs1 : 17 < s1.size
  · have hs1' : (17 : Int) < (s1.size : Int) := by omega
    have HB1 := Lib.hid (show big by rw [HBG.out]; exact .inl hs1)
    clear hs1
    go_wp2_with fail
    go_ret2
    exact ⟨_, _, rfl, HB01.out, CutIs.large HB1.out⟩
  have hs1' : ¬ (17 : Int) < (s1.size : Int) := by omega
  by_cases hs2 : 17 < s2.size
  · have hs2' : (17 : Int) < (s2.size : Int) := by omega
    have HB1 := Lib.hid (show big by rw [HBG.out]; exact .inr hs2)
    clear hs1 hs2
    go_wp2_with fail
    go_ret2
    exact ⟨_, _, rfl, HB01.out, CutIs.large HB1.out⟩
  have hs2' : ¬ (17 : Int) < (s2.size : Int) := by omega
  have HNB := Lib.hid (show ¬ big by rw [HBG.out]; omega)
  clear hs1 hs2
  go_wp2_with fail
  clear hs1' hs2' p0 p1
  go_loopw [7, 28] (fun ov iv wr => ∃ (i : Nat) (out : List Chg) (A' : Option Addr) (c' : Nat), i ≤ l.length ∧ iv = .int .i64 i ∧ ov = .slice A' out.length c' ∧ OwnC wr g (.slice A' out.length c') out ∧ out = cutP (s1, s2) (l.take i) ∧ Below g w1 wr ∧ g ≤ wr.heap.size) (fun _ iv _ => l.length - (intOf iv).toNat)
  case atStart => exact ⟨0, [], none, 0, Nat.zero_le _, rfl, rfl, Own.nil _ _, rfl, Below.refl _ _, by rw [HSZ.out]; exact Nat.le_refl _⟩
  case round =>
    obtain ⟨i, out, A', c', hil, rfl, rfl, ho, hout, hbw, hbs⟩ := hrel
    have hol : out.length ≤ i := by
      rw [hout]
      exact Nat.le_trans (cutP_len _ _) (by rw [List.length_take]; omega)
    have HBW := Lib.hid hbw; clear hbw
    have HBS := Lib.hid hbs; clear hbs
    have HO := Lib.hid ho; clear ho
    have HOUT := Lib.hid hout; clear hout
    by_cases hlt : i < l.length
    · obtain ⟨b, o, rfl, hcell⟩ := HIC.out i hlt
      have hnext : cutP (s1, s2) (l.take (i + 1)) = out ++ cut1 (s1, s2) l[i] := by
        rw [List.take_succ_eq_append_getElem hlt, HOUT.out, cutP, cutP, List.flatMap_append]; simp
      have hsm := (HS.out _ (List.getElem_mem hlt)).1
      generalize l[i] = z at hcell hnext hsm
      obtain ⟨kz, xz, yz⟩ := z
      have hsp := fun W => reach_any ⟨kz, xz, yz⟩ W hsm
      have hrel := meet_single (s1, s2) ⟨kz, xz, yz⟩
      unfold cval at hsp
      simp only at hcell hsp
      have hmt := fun W => meet_any (s1, s2) (cspan ⟨kz, xz, yz⟩) W
      rw [cut1] at hnext
      simp only at hnext
      simp only [ne_eq] at hrel
      generalize cspan ⟨kz, xz, yz⟩ = q at hsp hmt hnext hrel
      obtain ⟨q1, q2⟩ := q
      generalize meet (s1, s2) (q1, q2) = m at hmt hnext hrel
      obtain ⟨m1, m2⟩ := m
      unfold spv at hsp hmt
      simp only at hsp hmt hnext hrel
      have HREL := Lib.hid hrel; clear hrel
      obtain ⟨k0, k1, k2⟩ := hcell wr HBW.out
      obtain ⟨w5, hw5⟩ : ∃ w5, w5 = wr.alloc (.cells #[.int .i64 kz, .string xz, .string yz] 67) := ⟨_, rfl⟩
      obtain ⟨g5, hg5⟩ : ∃ g5, g5 = wr.heap.size + 1 := ⟨_, rfl⟩
      have hsz5 : w5.heap.size = g5 := by rw [hw5, hg5]; simp
      have hb5 : Below g w1 w5 := by rw [hw5]; exact HBW.out.alloc HBS.out _
      have hs5 : g ≤ g5 := by have := HBS.out; omega
      have hc5 : ∀ W, Below g5 w5 W → W.cell? ⟨wr.heap.size, 0, none⟩ = some (.int .i64 kz) ∧ W.cell? ⟨wr.heap.size, 1, none⟩ = some (.string xz) ∧ W.cell? ⟨wr.heap.size, 2, none⟩ = some (.string yz) := fun W hW => by
        have hlt : wr.heap.size < g5 := by omega
        subst hw5
        exact ⟨(hW.cell (p := ⟨wr.heap.size, 0, none⟩) hlt).trans (World.cell?_alloc_at _ _ _ _ rfl), (hW.cell (p := ⟨wr.heap.size, 1, none⟩) hlt).trans (World.cell?_alloc_at _ _ _ _ rfl), (hW.cell (p := ⟨wr.heap.size, 2, none⟩) hlt).trans (World.cell?_alloc_at _ _ _ _ rfl)⟩
      have hsc5 : ∀ W, Below g5 w5 W → W.cell? ⟨w.heap.size, 0, none⟩ = some (.string s1) ∧ W.cell? ⟨w.heap.size, 1, none⟩ = some (.string s2) := fun W hW => HSC.out W (hb5.trans (hW.mono hs5))
      have ho5 : OwnC w5 g (.slice A' out.length c') out := by rw [hw5]; exact HO.out.alloc _
      have HO5 := Lib.hid ho5; clear ho5
      have HW5 := Lib.hid hw5; clear hw5
      have HSZ5 := Lib.hid hsz5; clear hsz5
      have HB5 := Lib.hid hb5; clear hb5
      have HC5 := Lib.hid hc5; clear hc5
      have HSC5 := Lib.hid hsc5; clear hsc5
      have HG5 := Lib.hid hg5
      have HN := Lib.hid hnext; clear hnext
      have HSP := Lib.hid hsp; clear hsp
      have HMT := Lib.hid hmt; clear hmt
      go_wp2_with fail
      rw [← HW5.out]
      refine wp_region_planT (fun W => Below g5 w5 W) (.take 0 (.take 1 (.fork 2 (.fork 3 (.step 4 (.step 5 .done)) 4 (.step 3 (.step 5 .done))) 4 (.step 2 (.step 3 (.step 5 .done)))))) (by kernel_rfl) (by kernel_rfl) (fun _ _ d _ _ h => by cases d <;> exact h) ((Below.refl _ _).drew) ?_
      have hkwd : Below g5 w5 w5.drew := (Below.refl _ _).drew
      have hswd : g5 ≤ w5.drew.heap.size := by rw [show w5.drew.heap.size = w5.heap.size from rfl, HSZ5.out]; exact Nat.le_refl _
      generalize w5.drew = wd at hkwd hswd ⊢
      refine PlanT.takeI (v := ?_) rfl rfl ?_ ?_; rotate_left; (focus (intro W hW; obtain ⟨q0, q1, q2⟩ := HC5.out W hW; obtain ⟨k0, k1⟩ := HSC5.out W hW; go_simp; (try with_reducible rfl); done)); (try simp only [Act.put, List.setIfInBounds_toArray, List.set_cons_zero, List.set_cons_succ])
      refine PlanT.takeI (v := ?_) rfl rfl ?_ ?_; rotate_left; (focus (intro W hW; obtain ⟨q0, q1, q2⟩ := HC5.out W hW; obtain ⟨k0, k1⟩ := HSC5.out W hW; go_simp; (try with_reducible rfl); done)); (try simp only [Act.put, List.setIfInBounds_toArray, List.set_cons_zero, List.set_cons_succ])
      refine ⟨?_, ?_⟩
      · refine wpOp_stepT rfl rfl (fun Kk hK => ?_)
        go_simp
        go_at_call 46
        refine (HSP.out _).mono ?_
        rintro e w6 ⟨rfl, hb⟩
        have hkw6 : Below g5 w5 w6 := hkwd.trans (hb.mono hswd)
        have hsw6 : g5 ≤ w6.heap.size := Nat.le_trans hswd hb.size
        refine hK.out _ _ hkw6 ?_
        clear hK Kk
        refine ⟨?_, ?_⟩
        · refine wpOp_stepT rfl rfl (fun Kk hK => ?_)
          go_simp
          go_at_call 45
          refine (HMT.out _).mono ?_
          rintro e w7 ⟨rfl, hb⟩
          have hkw7 : Below g5 w5 w7 := hkw6.trans (hb.mono hsw6)
          have hsw7 : g5 ≤ w7.heap.size := Nat.le_trans hsw6 hb.size
          refine hK.out _ _ hkw7 ?_
          clear hK Kk
          refine wpOp_stepT rfl rfl (fun Kk hK => ?_)
          go_simp
          obtain ⟨w8, hw8⟩ : ∃ w8, w8 = w7.alloc (.cells #[.string ⟨#[]⟩, .string ⟨#[]⟩] 31) := ⟨_, rfl⟩
          obtain ⟨G, hG⟩ : ∃ G, G = w7.heap.size := ⟨_, rfl⟩
          have hkw8 : Below g5 w5 w8 := by rw [hw8]; exact hkw7.alloc hsw7 _
          have hsw8 : g5 ≤ w8.heap.size := by rw [hw8]; simp; omega
          rw [← hw8, ← hG]
          have hc0 : w8.cell? ⟨G, 0, none⟩ = some (.string ⟨#[]⟩) := by subst hw8; subst hG; exact World.cell?_alloc_at _ _ _ _ rfl
          have hc1 : w8.cell? ⟨G, 1, none⟩ = some (.string ⟨#[]⟩) := by subst hw8; subst hG; exact World.cell?_alloc_at _ _ _ _ rfl
          have hGlt : G < w8.heap.size := by subst hw8; subst hG; simp
          have hGge : g5 ≤ G := by subst hG; exact hsw7
          have hG_ : ∀ W, Below w8.heap.size w8 W → W.cell? ⟨G, 0, none⟩ = some (.string ⟨#[]⟩) ∧ W.cell? ⟨G, 1, none⟩ = some (.string ⟨#[]⟩) ∧ W.frozen? ⟨G, 0, none⟩ = false ∧ W.frozen? ⟨G, 1, none⟩ = false := fun W hW => ⟨(hW.cell (p := ⟨G, 0, none⟩) hGlt).trans hc0, (hW.cell (p := ⟨G, 1, none⟩) hGlt).trans hc1, (hW.frozen (p := ⟨G, 0, none⟩) hGlt).trans (by subst hw8; subst hG; exact frozen_new _ _ _ _), (hW.frozen (p := ⟨G, 1, none⟩) hGlt).trans (by subst hw8; subst hG; exact frozen_new _ _ _ _)⟩
          have hgw8 : Below w8.heap.size w8 w8 := Below.refl _ _
          clear hw8 hG hc0 hc1
          refine hK.out _ _ hkw8 ?_
          clear hK Kk
          refine wpOp_stepT rfl rfl (fun Kk hK => ?_)
          obtain ⟨c0, c1, z0, z1⟩ := hG_ w8 hgw8
          obtain ⟨d0, d1, d2, d3⟩ := two_put w8 G (.string m1) (.string m2) c0 c1 z0 z1
          go_simp
          obtain ⟨w9, hw9⟩ : ∃ w9, w9 = (w8.setCell ⟨G, 0, none⟩ (.string m1)).setCell ⟨G, 1, none⟩ (.string m2) := ⟨_, rfl⟩
          have hk9 : Below g5 w5 w9 := by rw [hw9]; exact (hkw8.setCell hGge _).setCell hGge _
          have hs9 : g5 ≤ w9.heap.size := Nat.le_trans (by rw [HSZ5.out]; exact Nat.le_refl _) hk9.size
          have hG9 : G < w9.heap.size := by rw [hw9]; simp only [World.setCell, Array.size_modify]; exact Nat.lt_of_lt_of_le hGlt hgw8.size
          rw [← hw9] at d2 d3 ⊢
          clear hw9 c0 c1 z0 z1 d0 d1
          refine hK.out _ _ hk9 ?_
          clear hK Kk
          simp only [PlanT]
          have ho9 : OwnC w9 g (.slice A' out.length c') out := HO5.out.below hk9 (by rw [HSZ5.out]; exact Nat.le_refl _)
          have hb9 : Below g w1 w9 := HB5.out.trans (hk9.mono hs5)
          have hgs9 : g ≤ w9.heap.size := Nat.le_trans hs5 hs9
          have hcw9 : Whole w9 wr.heap.size 67 [.int .i64 kz, .string xz, .string yz] := by
            have h := Whole.fresh wr 67 [.int .i64 kz, .string xz, .string yz]
            have h5 : Whole w5 wr.heap.size 67 [.int .i64 kz, .string xz, .string yz] := by rw [HW5.out]; exact h
            exact h5.below hk9 (by rw [HG5.out]; exact Nat.lt_succ_self _)
          have hem := fun W => empty_any (m1, m2) W
          simp only at hem
          have HEM := Lib.hid hem; clear hem
          have HO9 := Lib.hid ho9; clear ho9
          have HB9 := Lib.hid hb9; clear hb9
          have HC9 := Lib.hid hcw9; clear hcw9
          have hne9 : (Value.slice A' out.length c').ownBlock ≠ some wr.heap.size := fun e => Nat.lt_irrefl _ (HO.out.low e).2
          have hn := HN.out
          have hr := HREL.out
          by_cases hm : m2 ≤ m1
          · have hn2 : cutP (s1, s2) (l.take (i + 1)) = out := by
              rw [hn]
              by_cases hk3 : kz = 3
              · rw [if_pos hk3, if_neg (by grind), List.append_nil]
              · rw [if_neg hk3, if_neg (fun h => (hr hk3).1 h hm), List.append_nil]
            have HN2 := Lib.hid hn2; clear hn2 hn hr
            rw [show decide (m2 ≤ m1) = true from decide_eq_true hm] at HEM
            go_wp2_with fail
            refine (HEM.out _).mono ?_
            rintro e w10 ⟨rfl, hb10⟩
            have HO10 := Lib.hid (show OwnC w10 g (.slice A' out.length c') out from HO9.out.below hb10 (Nat.le_refl _))
            have HB10 := Lib.hid (show Below g w1 w10 from HB9.out.trans (hb10.mono hgs9))
            have hgs10 : g ≤ w10.heap.size := Nat.le_trans hgs9 hb10.size
            clear hb10
            go_wp2_with fail
            go_roundw
            case rel => exact ⟨i + 1, out, A', c', by omega, by go_num, rfl, HO10.out, by rw [HN2.out], HB10.out, hgs10⟩
            case measure => simp [intOf]; omega
          rw [show decide (m2 ≤ m1) = false from decide_eq_false hm] at HEM
          by_cases hk3 : kz = 3
          · subst hk3
            have hn2 : cutP (s1, s2) (l.take (i + 1)) = out ++ [⟨3, m1, m2⟩] := by rw [hn, if_pos rfl, if_pos (by grind)]
            have HN2 := Lib.hid hn2; clear hn2 hn hr
            have hwp := fun W => cwipe_any (m1, m2) W
            simp only at hwp
            have HWP := Lib.hid hwp; clear hwp
            go_wp2_with fail
            refine (HEM.out _).mono ?_
            rintro e w10 ⟨rfl, hb10⟩
            have HO10 := Lib.hid (show OwnC w10 g (.slice A' out.length c') out from HO9.out.below hb10 (Nat.le_refl _))
            have HB10 := Lib.hid (show Below g w1 w10 from HB9.out.trans (hb10.mono hgs9))
            have hgs10 : g ≤ w10.heap.size := Nat.le_trans hgs9 hb10.size
            have HC10 := Lib.hid (HC9.out.below hb10 HC9.out.size)
            have d4 := (hb10.cell (p := ⟨G, 0, none⟩) hG9).trans d2
            have d5 := (hb10.cell (p := ⟨G, 1, none⟩) hG9).trans d3
            have x0 := HC10.out.cell 0 _ rfl
            clear hb10 d2 d3
            go_wp2_with fail
            refine (HWP.out _).mono ?_
            rintro e w12 ⟨rfl, hb12⟩
            have HO12 := Lib.hid (show OwnC w12 g (.slice A' out.length c') out from HO10.out.below hb12 (Nat.le_refl _))
            have HB12 := Lib.hid (show Below g w1 w12 from HB10.out.trans (hb12.mono hgs10))
            have hgs12 : g ≤ w12.heap.size := Nat.le_trans hgs10 hb12.size
            have HC12 := Lib.hid (HC10.out.below hb12 HC10.out.size)
            clear hb12 d4 d5 x0
            have hp1 := HC12.out.put 0 (.int .i64 3)
            have hp2 := hp1.put 1 (.string m1)
            have hp3 := hp2.put 2 (.string m2)
            simp only [List.set_cons_zero, List.set_cons_succ] at hp1 hp2 hp3
            have r0 := HC12.out.cell 0 _ rfl
            have z0 := HC12.out.frozen 0
            have r1 := hp1.cell 1 _ rfl
            have z1 := hp1.frozen 1
            have r2 := hp2.cell 2 _ rfl
            have z2 := hp2.frozen 2
            have t0 := hp3.cell 0 _ rfl
            have t1 := hp3.cell 1 _ rfl
            have t2 := hp3.cell 2 _ rfl
            have HO13 := Lib.hid (((HO12.out.putAway hne9 0 (.int .i64 3)).putAway hne9 1 (.string m1)).putAway hne9 2 (.string m2))
            have HB13 := Lib.hid (((HB12.out.setCell (p := ⟨wr.heap.size, 0, none⟩) HBS.out (.int .i64 3)).setCell (p := ⟨wr.heap.size, 1, none⟩) HBS.out (.string m1)).setCell (p := ⟨wr.heap.size, 2, none⟩) HBS.out (.string m2))
            have hz13 : (((w12.setCell ⟨wr.heap.size, 0, none⟩ (.int .i64 3)).setCell ⟨wr.heap.size, 1, none⟩ (.string m1)).setCell ⟨wr.heap.size, 2, none⟩ (.string m2)).heap.size = w12.heap.size := by simp [World.setCell]
            have hrd13 := RdC.oneS (((w12.setCell ⟨wr.heap.size, 0, none⟩ (.int .i64 3)).setCell ⟨wr.heap.size, 1, none⟩ (.string m1)).setCell ⟨wr.heap.size, 2, none⟩ (.string m2)) ⟨3, m1, m2⟩
            rw [hz13] at hrd13
            have HRD := Lib.hid hrd13; clear hrd13
            have HZ13 := Lib.hid hz13; clear hz13
            clear hp1 hp2 hp3
            go_wp2_with (at_builtin; go_must (refine wpList_addCs rfl _ _ rfl g (.slice A' out.length c') out rfl ?x1 (w12.heap.size + 1) _ [⟨3, m1, m2⟩] rfl HRD.out (by simp; omega) ?x2 g w1 ?x3 (Nat.le_refl _) ?x4))
            case x1 => exact HO13.out.alloc _
            case x2 => (try simp only [World.size_alloc]); rw [HZ13.out]; omega
            case x3 => exact HB13.out.alloc (by rw [HZ13.out]; exact hgs12) _
            intro A2 c2 w11 ho11 hb11 hz11
            go_wp2_with fail
            go_roundw
            case rel => exact ⟨i + 1, out ++ [⟨3, m1, m2⟩], A2, c2, by omega, by go_num, by simp, by simpa using ho11.out, by rw [HN2.out], hb11.out, hz11.out⟩
            case measure => simp [intOf]; omega
          · have hn2 : cutP (s1, s2) (l.take (i + 1)) = out ++ [⟨kz, xz, yz⟩] := by rw [hn, if_neg hk3, if_pos ((hr hk3).2 hm)]
            have HN2 := Lib.hid hn2; clear hn2 hn hr
            go_wp2_with fail
            refine (HEM.out _).mono ?_
            rintro e w10 ⟨rfl, hb10⟩
            have HO10 := Lib.hid (show OwnC w10 g (.slice A' out.length c') out from HO9.out.below hb10 (Nat.le_refl _))
            have HB10 := Lib.hid (show Below g w1 w10 from HB9.out.trans (hb10.mono hgs9))
            have hgs10 : g ≤ w10.heap.size := Nat.le_trans hgs9 hb10.size
            have HC10 := Lib.hid (HC9.out.below hb10 HC9.out.size)
            have x0 := HC10.out.cell 0 _ rfl
            have x1 := HC10.out.cell 1 _ rfl
            have x2 := HC10.out.cell 2 _ rfl
            clear hb10 d2 d3
            go_wp2_with (at_builtin; go_must (refine wpList_addCs rfl _ _ rfl g (.slice A' out.length c') out rfl ?x5 (w10.heap.size + 1) _ [⟨kz, xz, yz⟩] rfl (RdC.oneS w10 ⟨kz, xz, yz⟩) (by simp; omega) ?x6 g w1 ?x7 (Nat.le_refl _) ?x8))
            case x5 => exact HO10.out.alloc _
            case x6 => (try simp only [World.size_alloc]); omega
            case x7 => exact HB10.out.alloc hgs10 _
            intro A2 c2 w11 ho11 hb11 hz11
            go_wp2_with fail
            go_roundw
            case rel => exact ⟨i + 1, out ++ [⟨kz, xz, yz⟩], A2, c2, by omega, by go_num, by simp, by simpa using ho11.out, by rw [HN2.out], hb11.out, hz11.out⟩
            case measure => simp [intOf]; omega
        · refine wpOp_stepT rfl rfl (fun Kk hK => ?_)
          go_simp
          obtain ⟨w7, hw7⟩ : ∃ w7, w7 = w6.alloc (.cells #[.string ⟨#[]⟩, .string ⟨#[]⟩] 31) := ⟨_, rfl⟩
          obtain ⟨G, hG⟩ : ∃ G, G = w6.heap.size := ⟨_, rfl⟩
          have hkw7 : Below g5 w5 w7 := by rw [hw7]; exact hkw6.alloc hsw6 _
          have hsw7 : g5 ≤ w7.heap.size := by rw [hw7]; simp; omega
          rw [← hw7, ← hG]
          have hc0 : w7.cell? ⟨G, 0, none⟩ = some (.string ⟨#[]⟩) := by subst hw7; subst hG; exact World.cell?_alloc_at _ _ _ _ rfl
          have hc1 : w7.cell? ⟨G, 1, none⟩ = some (.string ⟨#[]⟩) := by subst hw7; subst hG; exact World.cell?_alloc_at _ _ _ _ rfl
          have hGlt : G < w7.heap.size := by subst hw7; subst hG; simp
          have hGge : g5 ≤ G := by subst hG; exact hsw6
          have hG_ : ∀ W, Below w7.heap.size w7 W → W.cell? ⟨G, 0, none⟩ = some (.string ⟨#[]⟩) ∧ W.cell? ⟨G, 1, none⟩ = some (.string ⟨#[]⟩) ∧ W.frozen? ⟨G, 0, none⟩ = false ∧ W.frozen? ⟨G, 1, none⟩ = false := fun W hW => ⟨(hW.cell (p := ⟨G, 0, none⟩) hGlt).trans hc0, (hW.cell (p := ⟨G, 1, none⟩) hGlt).trans hc1, (hW.frozen (p := ⟨G, 0, none⟩) hGlt).trans (by subst hw7; subst hG; exact frozen_new _ _ _ _), (hW.frozen (p := ⟨G, 1, none⟩) hGlt).trans (by subst hw7; subst hG; exact frozen_new _ _ _ _)⟩
          have hgw7 : Below w7.heap.size w7 w7 := Below.refl _ _
          clear hw7 hG hc0 hc1
          refine hK.out _ _ hkw7 ?_
          clear hK Kk
          refine wpOp_stepT rfl rfl (fun Kk hK => ?_)
          go_simp
          go_at_call 45
          refine (HMT.out _).mono ?_
          rintro e w8 ⟨rfl, hb⟩
          have hkw8 : Below g5 w5 w8 := hkw7.trans (hb.mono hsw7)
          have hsw8 : g5 ≤ w8.heap.size := Nat.le_trans hsw7 hb.size
          have hgw8 : Below w7.heap.size w7 w8 := hgw7.trans (hb.mono hgw7.size)
          refine hK.out _ _ hkw8 ?_
          clear hK Kk
          refine wpOp_stepT rfl rfl (fun Kk hK => ?_)
          obtain ⟨c0, c1, z0, z1⟩ := hG_ w8 hgw8
          obtain ⟨d0, d1, d2, d3⟩ := two_put w8 G (.string m1) (.string m2) c0 c1 z0 z1
          go_simp
          obtain ⟨w9, hw9⟩ : ∃ w9, w9 = (w8.setCell ⟨G, 0, none⟩ (.string m1)).setCell ⟨G, 1, none⟩ (.string m2) := ⟨_, rfl⟩
          have hk9 : Below g5 w5 w9 := by rw [hw9]; exact (hkw8.setCell hGge _).setCell hGge _
          have hs9 : g5 ≤ w9.heap.size := Nat.le_trans (by rw [HSZ5.out]; exact Nat.le_refl _) hk9.size
          have hG9 : G < w9.heap.size := by rw [hw9]; simp only [World.setCell, Array.size_modify]; exact Nat.lt_of_lt_of_le hGlt hgw8.size
          rw [← hw9] at d2 d3 ⊢
          clear hw9 c0 c1 z0 z1 d0 d1
          refine hK.out _ _ hk9 ?_
          clear hK Kk
          simp only [PlanT]
          have ho9 : OwnC w9 g (.slice A' out.length c') out := HO5.out.below hk9 (by rw [HSZ5.out]; exact Nat.le_refl _)
          have hb9 : Below g w1 w9 := HB5.out.trans (hk9.mono hs5)
          have hgs9 : g ≤ w9.heap.size := Nat.le_trans hs5 hs9
          have hcw9 : Whole w9 wr.heap.size 67 [.int .i64 kz, .string xz, .string yz] := by
            have h := Whole.fresh wr 67 [.int .i64 kz, .string xz, .string yz]
            have h5 : Whole w5 wr.heap.size 67 [.int .i64 kz, .string xz, .string yz] := by rw [HW5.out]; exact h
            exact h5.below hk9 (by rw [HG5.out]; exact Nat.lt_succ_self _)
          have hem := fun W => empty_any (m1, m2) W
          simp only at hem
          have HEM := Lib.hid hem; clear hem
          have HO9 := Lib.hid ho9; clear ho9
          have HB9 := Lib.hid hb9; clear hb9
          have HC9 := Lib.hid hcw9; clear hcw9
          have hne9 : (Value.slice A' out.length c').ownBlock ≠ some wr.heap.size := fun e => Nat.lt_irrefl _ (HO.out.low e).2
          have hn := HN.out
          have hr := HREL.out
          by_cases hm : m2 ≤ m1
          · have hn2 : cutP (s1, s2) (l.take (i + 1)) = out := by
              rw [hn]
              by_cases hk3 : kz = 3
              · rw [if_pos hk3, if_neg (by grind), List.append_nil]
              · rw [if_neg hk3, if_neg (fun h => (hr hk3).1 h hm), List.append_nil]
            have HN2 := Lib.hid hn2; clear hn2 hn hr
            rw [show decide (m2 ≤ m1) = true from decide_eq_true hm] at HEM
            go_wp2_with fail
            refine (HEM.out _).mono ?_
            rintro e w10 ⟨rfl, hb10⟩
            have HO10 := Lib.hid (show OwnC w10 g (.slice A' out.length c') out from HO9.out.below hb10 (Nat.le_refl _))
            have HB10 := Lib.hid (show Below g w1 w10 from HB9.out.trans (hb10.mono hgs9))
            have hgs10 : g ≤ w10.heap.size := Nat.le_trans hgs9 hb10.size
            clear hb10
            go_wp2_with fail
            go_roundw
            case rel => exact ⟨i + 1, out, A', c', by omega, by go_num, rfl, HO10.out, by rw [HN2.out], HB10.out, hgs10⟩
            case measure => simp [intOf]; omega
          rw [show decide (m2 ≤ m1) = false from decide_eq_false hm] at HEM
          by_cases hk3 : kz = 3
          · subst hk3
            have hn2 : cutP (s1, s2) (l.take (i + 1)) = out ++ [⟨3, m1, m2⟩] := by rw [hn, if_pos rfl, if_pos (by grind)]
            have HN2 := Lib.hid hn2; clear hn2 hn hr
            have hwp := fun W => cwipe_any (m1, m2) W
            simp only at hwp
            have HWP := Lib.hid hwp; clear hwp
            go_wp2_with fail
            refine (HEM.out _).mono ?_
            rintro e w10 ⟨rfl, hb10⟩
            have HO10 := Lib.hid (show OwnC w10 g (.slice A' out.length c') out from HO9.out.below hb10 (Nat.le_refl _))
            have HB10 := Lib.hid (show Below g w1 w10 from HB9.out.trans (hb10.mono hgs9))
            have hgs10 : g ≤ w10.heap.size := Nat.le_trans hgs9 hb10.size
            have HC10 := Lib.hid (HC9.out.below hb10 HC9.out.size)
            have d4 := (hb10.cell (p := ⟨G, 0, none⟩) hG9).trans d2
            have d5 := (hb10.cell (p := ⟨G, 1, none⟩) hG9).trans d3
            have x0 := HC10.out.cell 0 _ rfl
            clear hb10 d2 d3
            go_wp2_with fail
            refine (HWP.out _).mono ?_
            rintro e w12 ⟨rfl, hb12⟩
            have HO12 := Lib.hid (show OwnC w12 g (.slice A' out.length c') out from HO10.out.below hb12 (Nat.le_refl _))
            have HB12 := Lib.hid (show Below g w1 w12 from HB10.out.trans (hb12.mono hgs10))
            have hgs12 : g ≤ w12.heap.size := Nat.le_trans hgs10 hb12.size
            have HC12 := Lib.hid (HC10.out.below hb12 HC10.out.size)
            clear hb12 d4 d5 x0
            have hp1 := HC12.out.put 0 (.int .i64 3)
            have hp2 := hp1.put 1 (.string m1)
            have hp3 := hp2.put 2 (.string m2)
            simp only [List.set_cons_zero, List.set_cons_succ] at hp1 hp2 hp3
            have r0 := HC12.out.cell 0 _ rfl
            have z0 := HC12.out.frozen 0
            have r1 := hp1.cell 1 _ rfl
            have z1 := hp1.frozen 1
            have r2 := hp2.cell 2 _ rfl
            have z2 := hp2.frozen 2
            have t0 := hp3.cell 0 _ rfl
            have t1 := hp3.cell 1 _ rfl
            have t2 := hp3.cell 2 _ rfl
            have HO13 := Lib.hid (((HO12.out.putAway hne9 0 (.int .i64 3)).putAway hne9 1 (.string m1)).putAway hne9 2 (.string m2))
            have HB13 := Lib.hid (((HB12.out.setCell (p := ⟨wr.heap.size, 0, none⟩) HBS.out (.int .i64 3)).setCell (p := ⟨wr.heap.size, 1, none⟩) HBS.out (.string m1)).setCell (p := ⟨wr.heap.size, 2, none⟩) HBS.out (.string m2))
            have hz13 : (((w12.setCell ⟨wr.heap.size, 0, none⟩ (.int .i64 3)).setCell ⟨wr.heap.size, 1, none⟩ (.string m1)).setCell ⟨wr.heap.size, 2, none⟩ (.string m2)).heap.size = w12.heap.size := by simp [World.setCell]
            have hrd13 := RdC.oneS (((w12.setCell ⟨wr.heap.size, 0, none⟩ (.int .i64 3)).setCell ⟨wr.heap.size, 1, none⟩ (.string m1)).setCell ⟨wr.heap.size, 2, none⟩ (.string m2)) ⟨3, m1, m2⟩
            rw [hz13] at hrd13
            have HRD := Lib.hid hrd13; clear hrd13
            have HZ13 := Lib.hid hz13; clear hz13
            clear hp1 hp2 hp3
            go_wp2_with (at_builtin; go_must (refine wpList_addCs rfl _ _ rfl g (.slice A' out.length c') out rfl ?y1 (w12.heap.size + 1) _ [⟨3, m1, m2⟩] rfl HRD.out (by simp; omega) ?y2 g w1 ?y3 (Nat.le_refl _) ?y4))
            case y1 => exact HO13.out.alloc _
            case y2 => (try simp only [World.size_alloc]); rw [HZ13.out]; omega
            case y3 => exact HB13.out.alloc (by rw [HZ13.out]; exact hgs12) _
            intro A2 c2 w11 ho11 hb11 hz11
            go_wp2_with fail
            go_roundw
            case rel => exact ⟨i + 1, out ++ [⟨3, m1, m2⟩], A2, c2, by omega, by go_num, by simp, by simpa using ho11.out, by rw [HN2.out], hb11.out, hz11.out⟩
            case measure => simp [intOf]; omega
          · have hn2 : cutP (s1, s2) (l.take (i + 1)) = out ++ [⟨kz, xz, yz⟩] := by rw [hn, if_neg hk3, if_pos ((hr hk3).2 hm)]
            have HN2 := Lib.hid hn2; clear hn2 hn hr
            go_wp2_with fail
            refine (HEM.out _).mono ?_
            rintro e w10 ⟨rfl, hb10⟩
            have HO10 := Lib.hid (show OwnC w10 g (.slice A' out.length c') out from HO9.out.below hb10 (Nat.le_refl _))
            have HB10 := Lib.hid (show Below g w1 w10 from HB9.out.trans (hb10.mono hgs9))
            have hgs10 : g ≤ w10.heap.size := Nat.le_trans hgs9 hb10.size
            have HC10 := Lib.hid (HC9.out.below hb10 HC9.out.size)
            have x0 := HC10.out.cell 0 _ rfl
            have x1 := HC10.out.cell 1 _ rfl
            have x2 := HC10.out.cell 2 _ rfl
            clear hb10 d2 d3
            go_wp2_with (at_builtin; go_must (refine wpList_addCs rfl _ _ rfl g (.slice A' out.length c') out rfl ?y5 (w10.heap.size + 1) _ [⟨kz, xz, yz⟩] rfl (RdC.oneS w10 ⟨kz, xz, yz⟩) (by simp; omega) ?y6 g w1 ?y7 (Nat.le_refl _) ?y8))
            case y5 => exact HO10.out.alloc _
            case y6 => (try simp only [World.size_alloc]); omega
            case y7 => exact HB10.out.alloc hgs10 _
            intro A2 c2 w11 ho11 hb11 hz11
            go_wp2_with fail
            go_roundw
            case rel => exact ⟨i + 1, out ++ [⟨kz, xz, yz⟩], A2, c2, by omega, by go_num, by simp, by simpa using ho11.out, by rw [HN2.out], hb11.out, hz11.out⟩
            case measure => simp [intOf]; omega
      · refine wpOp_stepT rfl rfl (fun Kk hK => ?_)
        go_simp
        obtain ⟨w6, hw6⟩ : ∃ w6, w6 = wd.alloc (.cells #[.string ⟨#[]⟩, .string ⟨#[]⟩] 31) := ⟨_, rfl⟩
        obtain ⟨G, hG⟩ : ∃ G, G = wd.heap.size := ⟨_, rfl⟩
        have hkw6 : Below g5 w5 w6 := by rw [hw6]; exact hkwd.alloc hswd _
        have hsw6 : g5 ≤ w6.heap.size := by rw [hw6]; simp; omega
        rw [← hw6, ← hG]
        have hc0 : w6.cell? ⟨G, 0, none⟩ = some (.string ⟨#[]⟩) := by subst hw6; subst hG; exact World.cell?_alloc_at _ _ _ _ rfl
        have hc1 : w6.cell? ⟨G, 1, none⟩ = some (.string ⟨#[]⟩) := by subst hw6; subst hG; exact World.cell?_alloc_at _ _ _ _ rfl
        have hGlt : G < w6.heap.size := by subst hw6; subst hG; simp
        have hGge : g5 ≤ G := by subst hG; exact hswd
        have hG_ : ∀ W, Below w6.heap.size w6 W → W.cell? ⟨G, 0, none⟩ = some (.string ⟨#[]⟩) ∧ W.cell? ⟨G, 1, none⟩ = some (.string ⟨#[]⟩) ∧ W.frozen? ⟨G, 0, none⟩ = false ∧ W.frozen? ⟨G, 1, none⟩ = false := fun W hW => ⟨(hW.cell (p := ⟨G, 0, none⟩) hGlt).trans hc0, (hW.cell (p := ⟨G, 1, none⟩) hGlt).trans hc1, (hW.frozen (p := ⟨G, 0, none⟩) hGlt).trans (by subst hw6; subst hG; exact frozen_new _ _ _ _), (hW.frozen (p := ⟨G, 1, none⟩) hGlt).trans (by subst hw6; subst hG; exact frozen_new _ _ _ _)⟩
        have hgw6 : Below w6.heap.size w6 w6 := Below.refl _ _
        clear hw6 hG hc0 hc1
        refine hK.out _ _ hkw6 ?_
        clear hK Kk
        refine wpOp_stepT rfl rfl (fun Kk hK => ?_)
        go_simp
        go_at_call 46
        refine (HSP.out _).mono ?_
        rintro e w7 ⟨rfl, hb⟩
        have hkw7 : Below g5 w5 w7 := hkw6.trans (hb.mono hsw6)
        have hsw7 : g5 ≤ w7.heap.size := Nat.le_trans hsw6 hb.size
        have hgw7 : Below w6.heap.size w6 w7 := hgw6.trans (hb.mono hgw6.size)
        refine hK.out _ _ hkw7 ?_
        clear hK Kk
        refine wpOp_stepT rfl rfl (fun Kk hK => ?_)
        go_simp
        go_at_call 45
        refine (HMT.out _).mono ?_
        rintro e w8 ⟨rfl, hb⟩
        have hkw8 : Below g5 w5 w8 := hkw7.trans (hb.mono hsw7)
        have hsw8 : g5 ≤ w8.heap.size := Nat.le_trans hsw7 hb.size
        have hgw8 : Below w6.heap.size w6 w8 := hgw7.trans (hb.mono hgw7.size)
        refine hK.out _ _ hkw8 ?_
        clear hK Kk
        refine wpOp_stepT rfl rfl (fun Kk hK => ?_)
        obtain ⟨c0, c1, z0, z1⟩ := hG_ w8 hgw8
        obtain ⟨d0, d1, d2, d3⟩ := two_put w8 G (.string m1) (.string m2) c0 c1 z0 z1
        go_simp
        obtain ⟨w9, hw9⟩ : ∃ w9, w9 = (w8.setCell ⟨G, 0, none⟩ (.string m1)).setCell ⟨G, 1, none⟩ (.string m2) := ⟨_, rfl⟩
        have hk9 : Below g5 w5 w9 := by rw [hw9]; exact (hkw8.setCell hGge _).setCell hGge _
        have hs9 : g5 ≤ w9.heap.size := Nat.le_trans (by rw [HSZ5.out]; exact Nat.le_refl _) hk9.size
        have hG9 : G < w9.heap.size := by rw [hw9]; simp only [World.setCell, Array.size_modify]; exact Nat.lt_of_lt_of_le hGlt hgw8.size
        rw [← hw9] at d2 d3 ⊢
        clear hw9 c0 c1 z0 z1 d0 d1
        refine hK.out _ _ hk9 ?_
        clear hK Kk
        simp only [PlanT]
        have ho9 : OwnC w9 g (.slice A' out.length c') out := HO5.out.below hk9 (by rw [HSZ5.out]; exact Nat.le_refl _)
        have hb9 : Below g w1 w9 := HB5.out.trans (hk9.mono hs5)
        have hgs9 : g ≤ w9.heap.size := Nat.le_trans hs5 hs9
        have hcw9 : Whole w9 wr.heap.size 67 [.int .i64 kz, .string xz, .string yz] := by
          have h := Whole.fresh wr 67 [.int .i64 kz, .string xz, .string yz]
          have h5 : Whole w5 wr.heap.size 67 [.int .i64 kz, .string xz, .string yz] := by rw [HW5.out]; exact h
          exact h5.below hk9 (by rw [HG5.out]; exact Nat.lt_succ_self _)
        have hem := fun W => empty_any (m1, m2) W
        simp only at hem
        have HEM := Lib.hid hem; clear hem
        have HO9 := Lib.hid ho9; clear ho9
        have HB9 := Lib.hid hb9; clear hb9
        have HC9 := Lib.hid hcw9; clear hcw9
        have hne9 : (Value.slice A' out.length c').ownBlock ≠ some wr.heap.size := fun e => Nat.lt_irrefl _ (HO.out.low e).2
        have hn := HN.out
        have hr := HREL.out
        by_cases hm : m2 ≤ m1
        · have hn2 : cutP (s1, s2) (l.take (i + 1)) = out := by
            rw [hn]
            by_cases hk3 : kz = 3
            · rw [if_pos hk3, if_neg (by grind), List.append_nil]
            · rw [if_neg hk3, if_neg (fun h => (hr hk3).1 h hm), List.append_nil]
          have HN2 := Lib.hid hn2; clear hn2 hn hr
          rw [show decide (m2 ≤ m1) = true from decide_eq_true hm] at HEM
          go_wp2_with fail
          refine (HEM.out _).mono ?_
          rintro e w10 ⟨rfl, hb10⟩
          have HO10 := Lib.hid (show OwnC w10 g (.slice A' out.length c') out from HO9.out.below hb10 (Nat.le_refl _))
          have HB10 := Lib.hid (show Below g w1 w10 from HB9.out.trans (hb10.mono hgs9))
          have hgs10 : g ≤ w10.heap.size := Nat.le_trans hgs9 hb10.size
          clear hb10
          go_wp2_with fail
          go_roundw
          case rel => exact ⟨i + 1, out, A', c', by omega, by go_num, rfl, HO10.out, by rw [HN2.out], HB10.out, hgs10⟩
          case measure => simp [intOf]; omega
        rw [show decide (m2 ≤ m1) = false from decide_eq_false hm] at HEM
        by_cases hk3 : kz = 3
        · subst hk3
          have hn2 : cutP (s1, s2) (l.take (i + 1)) = out ++ [⟨3, m1, m2⟩] := by rw [hn, if_pos rfl, if_pos (by grind)]
          have HN2 := Lib.hid hn2; clear hn2 hn hr
          have hwp := fun W => cwipe_any (m1, m2) W
          simp only at hwp
          have HWP := Lib.hid hwp; clear hwp
          go_wp2_with fail
          refine (HEM.out _).mono ?_
          rintro e w10 ⟨rfl, hb10⟩
          have HO10 := Lib.hid (show OwnC w10 g (.slice A' out.length c') out from HO9.out.below hb10 (Nat.le_refl _))
          have HB10 := Lib.hid (show Below g w1 w10 from HB9.out.trans (hb10.mono hgs9))
          have hgs10 : g ≤ w10.heap.size := Nat.le_trans hgs9 hb10.size
          have HC10 := Lib.hid (HC9.out.below hb10 HC9.out.size)
          have d4 := (hb10.cell (p := ⟨G, 0, none⟩) hG9).trans d2
          have d5 := (hb10.cell (p := ⟨G, 1, none⟩) hG9).trans d3
          have x0 := HC10.out.cell 0 _ rfl
          clear hb10 d2 d3
          go_wp2_with fail
          refine (HWP.out _).mono ?_
          rintro e w12 ⟨rfl, hb12⟩
          have HO12 := Lib.hid (show OwnC w12 g (.slice A' out.length c') out from HO10.out.below hb12 (Nat.le_refl _))
          have HB12 := Lib.hid (show Below g w1 w12 from HB10.out.trans (hb12.mono hgs10))
          have hgs12 : g ≤ w12.heap.size := Nat.le_trans hgs10 hb12.size
          have HC12 := Lib.hid (HC10.out.below hb12 HC10.out.size)
          clear hb12 d4 d5 x0
          have hp1 := HC12.out.put 0 (.int .i64 3)
          have hp2 := hp1.put 1 (.string m1)
          have hp3 := hp2.put 2 (.string m2)
          simp only [List.set_cons_zero, List.set_cons_succ] at hp1 hp2 hp3
          have r0 := HC12.out.cell 0 _ rfl
          have z0 := HC12.out.frozen 0
          have r1 := hp1.cell 1 _ rfl
          have z1 := hp1.frozen 1
          have r2 := hp2.cell 2 _ rfl
          have z2 := hp2.frozen 2
          have t0 := hp3.cell 0 _ rfl
          have t1 := hp3.cell 1 _ rfl
          have t2 := hp3.cell 2 _ rfl
          have HO13 := Lib.hid (((HO12.out.putAway hne9 0 (.int .i64 3)).putAway hne9 1 (.string m1)).putAway hne9 2 (.string m2))
          have HB13 := Lib.hid (((HB12.out.setCell (p := ⟨wr.heap.size, 0, none⟩) HBS.out (.int .i64 3)).setCell (p := ⟨wr.heap.size, 1, none⟩) HBS.out (.string m1)).setCell (p := ⟨wr.heap.size, 2, none⟩) HBS.out (.string m2))
          have hz13 : (((w12.setCell ⟨wr.heap.size, 0, none⟩ (.int .i64 3)).setCell ⟨wr.heap.size, 1, none⟩ (.string m1)).setCell ⟨wr.heap.size, 2, none⟩ (.string m2)).heap.size = w12.heap.size := by simp [World.setCell]
          have hrd13 := RdC.oneS (((w12.setCell ⟨wr.heap.size, 0, none⟩ (.int .i64 3)).setCell ⟨wr.heap.size, 1, none⟩ (.string m1)).setCell ⟨wr.heap.size, 2, none⟩ (.string m2)) ⟨3, m1, m2⟩
          rw [hz13] at hrd13
          have HRD := Lib.hid hrd13; clear hrd13
          have HZ13 := Lib.hid hz13; clear hz13
          clear hp1 hp2 hp3
          go_wp2_with (at_builtin; go_must (refine wpList_addCs rfl _ _ rfl g (.slice A' out.length c') out rfl ?z1 (w12.heap.size + 1) _ [⟨3, m1, m2⟩] rfl HRD.out (by simp; omega) ?z2 g w1 ?z3 (Nat.le_refl _) ?z4))
          case z1 => exact HO13.out.alloc _
          case z2 => (try simp only [World.size_alloc]); rw [HZ13.out]; omega
          case z3 => exact HB13.out.alloc (by rw [HZ13.out]; exact hgs12) _
          intro A2 c2 w11 ho11 hb11 hz11
          go_wp2_with fail
          go_roundw
          case rel => exact ⟨i + 1, out ++ [⟨3, m1, m2⟩], A2, c2, by omega, by go_num, by simp, by simpa using ho11.out, by rw [HN2.out], hb11.out, hz11.out⟩
          case measure => simp [intOf]; omega
        · have hn2 : cutP (s1, s2) (l.take (i + 1)) = out ++ [⟨kz, xz, yz⟩] := by rw [hn, if_neg hk3, if_pos ((hr hk3).2 hm)]
          have HN2 := Lib.hid hn2; clear hn2 hn hr
          go_wp2_with fail
          refine (HEM.out _).mono ?_
          rintro e w10 ⟨rfl, hb10⟩
          have HO10 := Lib.hid (show OwnC w10 g (.slice A' out.length c') out from HO9.out.below hb10 (Nat.le_refl _))
          have HB10 := Lib.hid (show Below g w1 w10 from HB9.out.trans (hb10.mono hgs9))
          have hgs10 : g ≤ w10.heap.size := Nat.le_trans hgs9 hb10.size
          have HC10 := Lib.hid (HC9.out.below hb10 HC9.out.size)
          have x0 := HC10.out.cell 0 _ rfl
          have x1 := HC10.out.cell 1 _ rfl
          have x2 := HC10.out.cell 2 _ rfl
          clear hb10 d2 d3
          go_wp2_with (at_builtin; go_must (refine wpList_addCs rfl _ _ rfl g (.slice A' out.length c') out rfl ?z5 (w10.heap.size + 1) _ [⟨kz, xz, yz⟩] rfl (RdC.oneS w10 ⟨kz, xz, yz⟩) (by simp; omega) ?z6 g w1 ?z7 (Nat.le_refl _) ?z8))
          case z5 => exact HO10.out.alloc _
          case z6 => (try simp only [World.size_alloc]); omega
          case z7 => exact HB10.out.alloc hgs10 _
          intro A2 c2 w11 ho11 hb11 hz11
          go_wp2_with fail
          go_roundw
          case rel => exact ⟨i + 1, out ++ [⟨kz, xz, yz⟩], A2, c2, by omega, by go_num, by simp, by simpa using ho11.out, by rw [HN2.out], hb11.out, hz11.out⟩
          case measure => simp [intOf]; omega
    · obtain rfl : i = l.length := by omega
      have hfin : R = out := by rw [HR.out, HOUT.out, List.take_length]
      subst hfin
      have hwz : w.heap.size ≤ g := by rw [HG.out]; omega
      go_wp2_with fail
      go_ret2
      exact ⟨_, _, rfl, HB01.out.trans (HBW.out.mono hwz), CutIs.ok HNB.out (HO.out.lower hwz)⟩
end Go.Proofs.YtbifnogocmgddaaGreat

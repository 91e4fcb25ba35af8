/- Changes and pairs: their cells, slices of them; what the reference's Check, All and Span answer. -/
import Derived.Test.YteelnholmlabmaaSame
import Derived.Test.YteelnholmlabmaaPlanB
namespace Go.Proofs.Yteelnholmlabmaa
open Go.RowKit
attribute [local go_sem] less_eq same_eq le_eq ge_eq gt_eq

structure Chg where
  kind : Int
  key : K
  val : K
instance : DecidableEq Chg := fun a b => decidable_of_iff (a.kind = b.kind ∧ a.key = b.key ∧ a.val = b.val) ⟨fun h => by cases a; cases b; simp only at h; obtain ⟨rfl, rfl, rfl⟩ := h; rfl, fun h => by subst h; exact ⟨rfl, rfl, rfl⟩⟩
def cval (c : Chg) : Value := .agg #[.int .i64 c.kind, .string c.key, .string c.val]
def encC (c : Chg) : List Value := [.int .i64 c.kind, .string c.key, .string c.val]
theorem encC_len (c : Chg) : (encC c).length = 3 := rfl
theorem encC_one (c : Chg) : ∀ u ∈ encC c, u.oneCell' = true := by
  intro u hu
  simp [encC] at hu
  rcases hu with rfl | rfl | rfl <;> rfl
abbrev RdC (w : World) (B : Nat) (v : Value) (l : List Chg) : Prop := Rd encC 3 w B v l
abbrev OwnC (w : World) (base : Nat) (v : Value) (l : List Chg) : Prop := Own encC 3 67 w base v l
abbrev RdP (w : World) (B : Nat) (v : Value) (l : List (K × K)) : Prop := Rd cellsS 2 w B v l
abbrev OwnP (w : World) (base : Nat) (v : Value) (l : List (K × K)) : Prop := Own cellsS 2 72 w base v l
theorem info_chg : (Try.prog.info? 67).map (fun i => (i.zero, i.size, i.bytes)) = some (some (.agg #[.int .i64 0, .string ⟨#[]⟩, .string ⟨#[]⟩]), 3, 40) := by kernel_rfl
theorem info_pair : (Try.prog.info? 72).map (fun i => (i.zero, i.size, i.bytes)) = some (some (.agg #[.string ⟨#[]⟩, .string ⟨#[]⟩]), 2, 32) := by kernel_rfl

theorem RdC.at {w : World} {B : Nat} {v : Value} {l : List Chg} (h : RdC w B v l) : ∃ A c, v = .slice A l.length c ∧ l.length ≤ c ∧ ∀ i (_ : i < l.length), ∃ b o, A = some ⟨b, o, none⟩ ∧ b < B ∧
    w.cell? ⟨b, o + i * 3, none⟩ = some (.int .i64 l[i].kind) ∧ w.cell? ⟨b, o + i * 3 + 1, none⟩ = some (.string l[i].key) ∧ w.cell? ⟨b, o + i * 3 + 2, none⟩ = some (.string l[i].val) := by
  obtain ⟨A, c, hv, hc, hi⟩ := h
  refine ⟨A, c, hv, hc, fun i hs => ?_⟩
  obtain ⟨b, o, hA, hB, h1⟩ := hi i hs
  exact ⟨b, o, hA, hB, h1 0 _ rfl, h1 1 _ rfl, h1 2 _ rfl⟩
theorem RdP.at {w : World} {B : Nat} {v : Value} {l : List (K × K)} (h : RdP w B v l) : ∃ A c, v = .slice A l.length c ∧ l.length ≤ c ∧ ∀ i (_ : i < l.length), ∃ b o, A = some ⟨b, o, none⟩ ∧ b < B ∧
    w.cell? ⟨b, o + i * 2, none⟩ = some (.string l[i].1) ∧ w.cell? ⟨b, o + i * 2 + 1, none⟩ = some (.string l[i].2) := by
  obtain ⟨A, c, hv, hc, hi⟩ := h
  refine ⟨A, c, hv, hc, fun i hs => ?_⟩
  obtain ⟨b, o, hA, hB, h1⟩ := hi i hs
  exact ⟨b, o, hA, hB, h1 0 _ rfl, h1 1 _ rfl⟩

/-- what Check answers -/
def checkAns (c : Chg) : Int :=
  if c.kind = 1 then (if c.key.size > 16 ∨ c.val.size > 64 then 6 else 0)
  else if c.kind = 2 then (if c.key.size > 16 ∨ c.val.size > 0 then 6 else 0)
  else if c.kind = 3 then (if c.key.size > 17 ∨ c.val.size > 17 then 6 else if c.val < c.key then 5 else 0)
  else 1
/-- the keys that a change names -/
def cspan (c : Chg) : K × K := if c.kind = 3 then (c.key, c.val) else (c.key, c.key ++ ⟨#[0]⟩)

set_option maxHeartbeats 4000000 in
set_option maxRecDepth 100000 in
theorem rcheck_any (c : Chg) (w : World) (hk : c.key.size < 9223372036854775807) (hv : c.val.size < 9223372036854775807) : Calls Try.prog 46 #[cval c] w fun e w' => e = .returned (.int .i64 (checkAns c)) ∧ Below w.heap.size w w' := by
  obtain ⟨k, x, y⟩ := c
  obtain ⟨R, hR⟩ : ∃ R, R = checkAns ⟨k, x, y⟩ := ⟨_, rfl⟩
  rw [← hR]
  unfold checkAns at hR
  unfold cval
  simp only at hR hk hv ⊢
  go_enter Try.func46, Try.ntmps46
  go_wp2_with fail
  have HB := Lib.hid (((Below.refl _ w).alloc (Nat.le_refl _) (.cells #[.int .i64 k, .string x, .string y] 67)).drew)
  have HC := Lib.hid (show ∀ W, Below (w.alloc (.cells #[.int .i64 k, .string x, .string y] 67)).drew.heap.size (w.alloc (.cells #[.int .i64 k, .string x, .string y] 67)).drew W →
      W.cell? ⟨w.heap.size, 0, none⟩ = some (.int .i64 k) ∧ W.cell? ⟨w.heap.size, 1, none⟩ = some (.string x) ∧ W.cell? ⟨w.heap.size, 2, none⟩ = some (.string y) from fun W hW => by
    have hlt : w.heap.size < (w.alloc (.cells #[.int .i64 k, .string x, .string y] 67)).drew.heap.size := by show _ < (w.alloc _).heap.size; simp
    exact ⟨(hW.cell (p := ⟨w.heap.size, 0, none⟩) hlt).trans (World.cell?_alloc_at _ _ _ _ rfl), (hW.cell (p := ⟨w.heap.size, 1, none⟩) hlt).trans (World.cell?_alloc_at _ _ _ _ rfl), (hW.cell (p := ⟨w.heap.size, 2, none⟩) hlt).trans (World.cell?_alloc_at _ _ _ _ rfl)⟩)
  refine wp_region_planB [(true, 0), (true, 1), (true, 2), (true, 3), (true, 4), (true, 5), (true, 6), (true, 7)] (by kernel_rfl) (by kernel_rfl) (fun _ _ d _ _ h => by cases d <;> exact h) ?_
  generalize (w.alloc (.cells #[.int .i64 k, .string x, .string y] 67)).drew = w1 at HB HC ⊢
  obtain ⟨g, hg⟩ : ∃ g, g = w.heap.size := ⟨_, rfl⟩
  rw [← hg] at HC ⊢
  clear hg
  repeat (refine PlanB.take (v := ?_) rfl rfl ?_ ?_; rotate_left; (focus (intro W hW; obtain ⟨k0, k1, k2⟩ := HC.out W hW; go_simp; (try with_reducible rfl); done)); (try simp only [Act.put, List.setIfInBounds_toArray, List.set_cons_zero, List.set_cons_succ]))
  simp only [PlanB]
  obtain ⟨k0, k1, k2⟩ := HC.out w1 (Below.refl _ _)
  by_cases h1 : k = 1
  · rw [if_pos h1] at hR
    subst h1
    by_cases ha : x.size > 16
    · rw [if_pos (.inl ha)] at hR
      have HR := Lib.hid hR; clear hR
      have ha1 : (16 : Int) < (x.size : Int) := by omega
      go_wp2_with fail
      go_ret
      exact ⟨by rw [HR.out]; rfl, HB.out⟩
    by_cases hb : y.size > 64
    · rw [if_pos (.inr hb)] at hR
      have HR := Lib.hid hR; clear hR
      have ha1 : ¬ (16 : Int) < (x.size : Int) := by omega
      have hb1 : (64 : Int) < (y.size : Int) := by omega
      go_wp2_with fail
      go_ret
      exact ⟨by rw [HR.out]; rfl, HB.out⟩
    rw [if_neg (by omega)] at hR
    have ha1 : ¬ (16 : Int) < (x.size : Int) := by omega
    have hb1 : ¬ (64 : Int) < (y.size : Int) := by omega
    have HR := Lib.hid hR; clear hR
    go_wp2_with fail
    go_ret
    exact ⟨by rw [HR.out]; rfl, HB.out⟩
  by_cases h2 : k = 2
  · rw [if_neg h1, if_pos h2] at hR
    subst h2
    clear h1
    by_cases ha : x.size > 16
    · rw [if_pos (.inl ha)] at hR
      have HR := Lib.hid hR; clear hR
      have ha1 : (16 : Int) < (x.size : Int) := by omega
      go_wp2_with fail
      go_ret
      exact ⟨by rw [HR.out]; rfl, HB.out⟩
    by_cases hb : y.size > 0
    · rw [if_pos (.inr hb)] at hR
      have HR := Lib.hid hR; clear hR
      have ha1 : ¬ (16 : Int) < (x.size : Int) := by omega
      have hb1 : (0 : Int) < (y.size : Int) := by omega
      go_wp2_with fail
      go_ret
      exact ⟨by rw [HR.out]; rfl, HB.out⟩
    rw [if_neg (by omega)] at hR
    have ha1 : ¬ (16 : Int) < (x.size : Int) := by omega
    have hb1 : ¬ (0 : Int) < (y.size : Int) := by omega
    have HR := Lib.hid hR; clear hR
    go_wp2_with fail
    go_ret
    exact ⟨by rw [HR.out]; rfl, HB.out⟩
  by_cases h3 : k = 3
  · rw [if_neg h1, if_neg h2, if_pos h3] at hR
    subst h3
    clear h1 h2
    by_cases ha : x.size > 17
    · rw [if_pos (.inl ha)] at hR
      have HR := Lib.hid hR; clear hR
      have ha1 : (17 : Int) < (x.size : Int) := by omega
      go_wp2_with fail
      go_ret
      exact ⟨by rw [HR.out]; rfl, HB.out⟩
    by_cases hb : y.size > 17
    · rw [if_pos (.inr hb)] at hR
      have HR := Lib.hid hR; clear hR
      have ha1 : ¬ (17 : Int) < (x.size : Int) := by omega
      have hb1 : (17 : Int) < (y.size : Int) := by omega
      go_wp2_with fail
      go_ret
      exact ⟨by rw [HR.out]; rfl, HB.out⟩
    rw [if_neg (by omega)] at hR
    have ha1 : ¬ (17 : Int) < (x.size : Int) := by omega
    have hb1 : ¬ (17 : Int) < (y.size : Int) := by omega
    by_cases hl : y < x
    · rw [if_pos hl] at hR
      have HR := Lib.hid hR; clear hR
      go_wp2_with fail
      go_ret
      exact ⟨by rw [HR.out]; rfl, HB.out⟩
    rw [if_neg hl] at hR
    have HR := Lib.hid hR; clear hR
    go_wp2_with fail
    go_ret
    exact ⟨by rw [HR.out]; rfl, HB.out⟩
  rw [if_neg h1, if_neg h2, if_neg h3] at hR
  have HR := Lib.hid hR; clear hR
  go_wp2_with fail
  go_ret
  exact ⟨by rw [HR.out]; rfl, HB.out⟩
end Go.Proofs.Yteelnholmlabmaa

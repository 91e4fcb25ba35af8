/- What a slice reads as, and which blocks it does not lie in: for whatever element type. -/
import Derived.Test.YteelnholmlabmaaMv
namespace Go.Proofs.Yteelnholmlabmaa
open Go.RowKit

section
variable {α : Type} {enc : α → List Value} {k : Nat} {e : TypeId}
/-- cells below block B, in no block of G -/
def RdG (enc : α → List Value) (k : Nat) (w : World) (B : Nat) (G : Nat → Prop) (v : Value) (l : List α) : Prop :=
  ∃ A c, v = .slice A l.length c ∧ l.length ≤ c ∧ ∀ i (_ : i < l.length), ∃ b o, A = some ⟨b, o, none⟩ ∧ b < B ∧ ¬ G b ∧ ∀ j u, (enc l[i])[j]? = some u → w.cell? ⟨b, o + i * k + j, none⟩ = some u
variable {w w' : World} {B B' : Nat} {G G' : Nat → Prop} {v : Value} {l : List α}
theorem RdG.rd (h : RdG enc k w B G v l) : Rd enc k w B v l := by
  obtain ⟨A, c, rfl, hc, hi⟩ := h
  refine ⟨A, c, rfl, hc, fun i hs => ?_⟩
  obtain ⟨b, o, hA, hb, _, h1⟩ := hi i hs
  exact ⟨b, o, hA, hb, h1⟩
theorem RdG.of (h : Rd enc k w B v l) (hG : ∀ b, b < B → ¬ G b) : RdG enc k w B G v l := by
  obtain ⟨A, c, rfl, hc, hi⟩ := h
  refine ⟨A, c, rfl, hc, fun i hs => ?_⟩
  obtain ⟨b, o, hA, hb, h1⟩ := hi i hs
  exact ⟨b, o, hA, hb, hG b hb, h1⟩
theorem RdG.mv {D : Nat → Prop} (h : RdG enc k w B G v l) (hm : Mv D w w') (hB : B ≤ w.heap.size) (hD : ∀ b, b < B → D b → G b) : RdG enc k w' B G v l := by
  obtain ⟨A, c, rfl, hc, hi⟩ := h
  refine ⟨A, c, rfl, hc, fun i hs => ?_⟩
  obtain ⟨b, o, hA, hb, hg, h1⟩ := hi i hs
  exact ⟨b, o, hA, hb, hg, fun j u hu => by rw [World.cell?_of_block (w := w) (hm.block b (by omega) (fun h => hg (hD b hb h)))]; exact h1 j u hu⟩
theorem RdG.mono (h : RdG enc k w B G v l) (hB : B ≤ B') (hG : ∀ b, b < B → G' b → G b) : RdG enc k w B' G' v l := by
  obtain ⟨A, c, rfl, hc, hi⟩ := h
  refine ⟨A, c, rfl, hc, fun i hs => ?_⟩
  obtain ⟨b, o, hA, hb, hg, h1⟩ := hi i hs
  exact ⟨b, o, hA, by omega, fun h => hg (hG b hb h), h1⟩
theorem RdG.none_ (w : World) (B : Nat) (G : Nat → Prop) (A : Option Addr) (c : Nat) : RdG enc k w B G (.slice A 0 c) [] := ⟨A, c, rfl, Nat.zero_le _, fun i hi => by simp at hi⟩
theorem RdG.or {G1 G2 : Nat → Prop} (h : RdG enc k w B G1 v l) (h2 : RdG enc k w B G2 v l) : RdG enc k w B (fun i => G1 i ∨ G2 i) v l := by
  obtain ⟨A, c, rfl, hc, hi⟩ := h
  obtain ⟨A2, c2, ee, hc2, hi2⟩ := h2
  injection ee with e1 _ e3
  subst e1 e3
  refine ⟨A, c, rfl, hc, fun i hs => ?_⟩
  obtain ⟨b, o, hA, hb, hg, h1⟩ := hi i hs
  obtain ⟨b2, o2, hA2, _, hg2, _⟩ := hi2 i hs
  rw [hA] at hA2
  injection hA2 with hA2
  injection hA2 with e4
  subst e4
  exact ⟨b, o, hA, hb, fun h => h.elim hg hg2, h1⟩
/-- what is owned from base on -/
theorem RdG.own {base : Nat} (hk : ∀ x, (enc x).length = k) (h : Own enc k e w base v l) (hG : ∀ b, base ≤ b → b < w.heap.size → v.ownBlock = some b → ¬ G b) : RdG enc k w w.heap.size G v l := by
  obtain ⟨A, c, hv, hc, hi⟩ := Own.rd hk h
  refine ⟨A, c, hv, hc, fun i hs => ?_⟩
  obtain ⟨b, o, hA, hb, h1⟩ := hi i hs
  refine ⟨b, o, hA, hb, ?_, h1⟩
  rcases h.form with ⟨_, e0⟩ | ⟨g, cap, ee, hg, _, _⟩
  · rw [e0] at hs; simp at hs
  · rw [hv, hA] at ee
    injection ee with ee _ _
    injection ee with ee
    injection ee with ee _ _
    subst ee
    exact hG b hg hb (by rw [hv, hA]; rfl)
/-- those from n on -/
theorem RdG.drop {A : Option Addr} {c m : Nat} (h : RdG enc k w B G (.slice A m c) l) (n c' : Nat) (hn : n ≤ l.length) (hc' : l.length - n ≤ c') (A' : Option Addr) (hA' : n < l.length → A' = A.map (·.add (n * k))) :
    RdG enc k w B G (.slice A' (l.length - n) c') (l.drop n) := by
  obtain ⟨A0, c0, hv, hc, hi⟩ := h
  injection hv with h1 h2 h3
  subst h1 h3
  refine ⟨A', c', by simp, by simpa using hc', fun i hs => ?_⟩
  have hs' : n + i < l.length := by simp at hs; omega
  obtain ⟨b, o, hA, hb, hg, h1⟩ := hi (n + i) hs'
  refine ⟨b, o + n * k, ?_, hb, hg, fun j u hu => ?_⟩
  · rw [hA' (by omega), hA]
    simp only [Option.map_some, Option.some.injEq]
    unfold Addr.add
    split
    · rename_i hz; rw [hz]; rfl
    · rfl
  · have := h1 j u (by simpa using hu)
    rwa [show o + (n + i) * k + j = o + n * k + i * k + j by rw [Nat.add_mul]; omega] at this
end
end Go.Proofs.Yteelnholmlabmaa

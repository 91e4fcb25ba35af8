/- Two Pasts of the program, side by side. -/
import Derived.Test.YtpfhkijnaiopoaaPAwk
import Derived.Test.YtpfhkijnaiopoaaRSame
import Derived.Test.YtpfhkijnaiopoaaPActs
namespace Go.Proofs.Ytpfhkijnaiopoaa
open Go.RowKit

structure Two (w : World) (base q1 q2 : Nat) (G1 G2 : Nat → Prop) (n1 n2 : Nat) (p1 p2 : Pa) : Prop where
  a : PaAt w base q1 G1 n1 p1
  b : PaAt w base q2 G2 n2 p2
  off : ∀ i, G1 i → ¬ G2 i
section
variable {w w' : World} {base q1 q2 n1 n2 n' : Nat} {G1 G2 G' : Nat → Prop} {p1 p2 p' : Pa}
theorem Two.same (h : Two w base q1 q2 G1 G2 n1 n2 p1 p2) (hb : Below w.heap.size w w') : Two w' base q1 q2 G1 G2 n1 n2 p1 p2 := ⟨h.a.same hb, h.b.same hb, h.off⟩
theorem Two.one (h : Two w base q1 q2 G1 G2 n1 n2 p1 p2) (hk : PaAt w' base q1 G' n' p') (hG : ∀ i, G' i → G1 i ∨ w.heap.size ≤ i) (hm : Mv G1 w w') : Two w' base q1 q2 G' G2 n' n2 p' p2 :=
  ⟨hk, h.b.mv hm fun i hi hd => h.off i hd hi, fun i hi hd => by
    rcases hG i hi with k | k
    · exact h.off i k hd
    · have := (h.b.low.2 i hd).2; omega⟩
theorem Two.two (h : Two w base q1 q2 G1 G2 n1 n2 p1 p2) (hk : PaAt w' base q2 G' n' p') (hG : ∀ i, G' i → G2 i ∨ w.heap.size ≤ i) (hm : Mv G2 w w') : Two w' base q1 q2 G1 G' n1 n' p1 p' :=
  ⟨h.a.mv hm h.off, hk, fun i hi hd => by
    rcases hG i hd with k | k
    · exact h.off i hi k
    · have := (h.a.low.2 i hi).2; omega⟩
/-- what came in is none of the program's blocks -/
theorem PaAt.came {α : Type} {enc : α → List Value} {k B : Nat} {w : World} {base q n : Nat} {G : Nat → Prop} {p : Pa} {v : Value} {l : List α} (h : PaAt w base q G n p) (hB : B ≤ base) (hr : Rd enc k w B v l) : RdG enc k w w.heap.size G v l :=
  (RdG.of (G := G) hr fun b hb hg => by have := (h.low.2 b hg).1; omega).mono (Nat.le_trans hB h.low.1) fun _ _ h => h
end
theorem add_bad {p : Pa} {v : Int} {cs : List Chg} (h1 : ¬ v ≤ p.last) (h2 : allAns cs ≠ 0) : p.add v cs = (allAns cs, p) := by
  unfold Pa.add
  rw [if_neg h1, if_pos h2]
theorem add_good {p : Pa} {v : Int} {cs : List Chg} (h1 : ¬ v ≤ p.last) (h2 : allAns cs = 0) : p.add v cs = (0, { p with last := v, l := p.l ++ [(v, applyP (p.at_ p.last) cs)] }) := by
  unfold Pa.add
  rw [if_neg h1, if_neg (by simpa using h2)]
theorem list_good {p : Pa} {s : K × K} {v most : Int} (h1 : ¬ v < p.first) (h2 : ¬ p.last < v) (h3 : ¬ most < 0) : p.list s v most = (((p.at_ v).filter (fun x => hasB s x.1)).take most.toNat, 0) := by
  have hk : p.known v = 0 := by unfold Pa.known; rw [if_neg h1, if_neg h2]
  unfold Pa.list
  rw [hk, if_neg (by simp), if_neg h3]
theorem list_old {p : Pa} {s : K × K} {v most : Int} (h1 : v < p.first) : p.list s v most = ([], 7) := by
  have hk : p.known v = 7 := by unfold Pa.known; rw [if_pos h1]
  unfold Pa.list
  rw [hk, if_pos (by decide)]
theorem list_new {p : Pa} {s : K × K} {v most : Int} (h1 : ¬ v < p.first) (h2 : p.last < v) : p.list s v most = ([], 8) := by
  have hk : p.known v = 8 := by unfold Pa.known; rw [if_neg h1, if_pos h2]
  unfold Pa.list
  rw [hk, if_pos (by decide)]
theorem back_new {p : Pa} {v : Int} (h1 : ¬ v < p.first) (h2 : p.last < v) : p.back v = (8, p) := by
  have hk : p.known v = 8 := by unfold Pa.known; rw [if_neg h1, if_pos h2]
  unfold Pa.back
  rw [hk, if_pos (by decide)]
theorem back_good {p : Pa} {v : Int} (h1 : ¬ v < p.first) (h2 : ¬ p.last < v) : p.back v = (0, { p with last := v, l := p.l.filter fun x => decide (x.1 ≤ v) }) := by
  have hk : p.known v = 0 := by unfold Pa.known; rw [if_neg h1, if_neg h2]
  unfold Pa.back
  rw [hk, if_neg (by simp)]
end Go.Proofs.Ytpfhkijnaiopoaa

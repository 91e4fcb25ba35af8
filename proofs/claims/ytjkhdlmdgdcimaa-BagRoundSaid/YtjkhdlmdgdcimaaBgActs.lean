/- Acts of a bag as they come in; the program's bag beside the reference's. -/
import Derived.Test.YtjkhdlmdgdcimaaBgAwk
import Derived.Test.YtjkhdlmdgdcimaaRBe
namespace Go.Proofs.Ytjkhdlmdgdcimaa
open Go.RowKit

/-- one act, as it came in -/
structure GAct where
  what : Int
  n : Int
  at_ : Int
  v : Value
  l : List UInt8
  turn : UInt8
def encGA (a : GAct) : List Value := [.int .i64 a.what, .int .i64 a.n, .int .i64 a.at_, a.v, .int .u8 (a.turn.toNat : Int)]
theorem RdGA.at {w : World} {B : Nat} {v : Value} {l : List GAct} (h : Rd encGA 5 w B v l) : ∃ A c, v = .slice A l.length c ∧ l.length ≤ c ∧ ∀ i (_ : i < l.length), ∃ b o, A = some ⟨b, o, none⟩ ∧ b < B ∧
    w.cell? ⟨b, o + i * 5, none⟩ = some (.int .i64 l[i].what) ∧ w.cell? ⟨b, o + i * 5 + 1, none⟩ = some (.int .i64 l[i].n) ∧ w.cell? ⟨b, o + i * 5 + 2, none⟩ = some (.int .i64 l[i].at_) ∧ w.cell? ⟨b, o + i * 5 + 3, none⟩ = some l[i].v ∧ w.cell? ⟨b, o + i * 5 + 4, none⟩ = some (.int .u8 (l[i].turn.toNat : Int)) := by
  obtain ⟨A, c, hv, hc, hi⟩ := h
  refine ⟨A, c, hv, hc, fun i hs => ?_⟩
  obtain ⟨b, o, hA, hB, h1⟩ := hi i hs
  exact ⟨b, o, hA, hB, h1 0 _ rfl, h1 1 _ rfl, h1 2 _ rfl, h1 3 _ rfl, h1 4 _ rfl⟩

/-- the program's bag at its blocks G, the reference's at r and ov: apart -/
structure Mid (w : World) (base q r : Nat) (G : Nat → Prop) (ov : Option Nat) (b b0 : Bg) : Prop where
  bag : BagAt w base q G b
  ref : RbAt w base r ov b0
  off : ¬ G r
  row : ∀ g, ov = some g → ¬ G g
/-- a block that is none of theirs -/
structure Off (w : World) (G : Nat → Prop) (r : Nat) (ov : Option Nat) (g : Nat) : Prop where
  size : g < w.heap.size
  a : ¬ G g
  b : g ≠ r
  c : ov ≠ some g
section
variable {w w' : World} {base q r g : Nat} {G G' : Nat → Prop} {ov ov' : Option Nat} {b b0 b1 : Bg}
theorem Mid.prog (h : Mid w base q r G ov b0 b0) (hb : BagAt w' base q G' b1) (hn : ∀ i, G' i → G i ∨ w.heap.size ≤ i) (hm : Mv G w w') : Mid w' base q r G' ov b1 b0 := by
  refine ⟨hb, h.ref.mv hm h.off h.row, fun e => ?_, fun g hg e => ?_⟩
  · rcases hn r e with k | k
    · exact h.off k
    · have := h.ref.low.2.1; omega
  · rcases hn g e with k | k
    · exact h.row g hg k
    · have := (h.ref.row hg).2; omega
theorem Mid.refl' (h : Mid w base q r G ov b1 b0) (hw : RbWent w w' base r ov b1 ov') : Mid w' base q r G ov' b1 b1 := by
  refine ⟨h.bag.mv hw.moved (fun i hi => ?_), hw.now, h.off, fun g hg e => ?_⟩
  · rintro (rfl | h2)
    · exact h.off hi
    · exact h.row i h2.symm hi
  · rcases hw.new g hg with k | k
    · exact h.row g k e
    · have := (h.bag.low.2 g e).2; omega
theorem Mid.same (h : Mid w base q r G ov b b0) (hb : Below w.heap.size w w') : Mid w' base q r G ov b b0 :=
  ⟨h.bag.mv (Mv.of_new hb (fun _ => False)) (fun _ _ h => h), h.ref.mv (Mv.of_new hb (fun _ => False)) (fun h => h) (fun _ _ h => h), h.off, h.row⟩
theorem Mid.mv {D : Nat → Prop} (h : Mid w base q r G ov b b0) (hm : Mv D w w') (hd : ∀ i, D i → Off w G r ov i) : Mid w' base q r G ov b b0 :=
  ⟨h.bag.mv hm (fun i hi e => (hd i e).a hi), h.ref.mv hm (fun e => (hd r e).b rfl) (fun g hg e => (hd g e).c hg), h.off, h.row⟩
theorem Off.prog (h : Off w G r ov g) (hn : ∀ i, G' i → G i ∨ w.heap.size ≤ i) (hm : w.heap.size ≤ w'.heap.size) : Off w' G' r ov g := by
  refine ⟨Nat.lt_of_lt_of_le h.size hm, fun e => ?_, h.b, h.c⟩
  rcases hn g e with k | k
  · exact h.a k
  · have := h.size; omega
theorem Off.ref (h : Off w G r ov g) (hn : NewRow w ov ov') (hm : w.heap.size ≤ w'.heap.size) : Off w' G r ov' g :=
  ⟨Nat.lt_of_lt_of_le h.size hm, h.a, h.b, fun e => by
    rcases hn g e with k | k
    · exact h.c k
    · have := h.size; omega⟩
theorem Off.same (h : Off w G r ov g) (hm : w.heap.size ≤ w'.heap.size) : Off w' G r ov g := ⟨Nat.lt_of_lt_of_le h.size hm, h.a, h.b, h.c⟩
/-- what lies behind all that stood -/
theorem Off.fresh (h : Mid w base q r G ov b b0) (hg : w.heap.size ≤ g) (hs : g < w'.heap.size) : Off w' G r ov g :=
  ⟨hs, fun e => by have := (h.bag.low.2 g e).2; omega, fun e => by have := h.ref.low.2.1; omega, fun e => by have := (h.ref.row e).2; omega⟩
theorem Off.wprog (h : Off w G r ov g) (hm : Mv G w w') {T : TypeId} {cs : List Value} (hW : Whole w g T cs) : Whole w' g T cs := hm.whole hW h.a
theorem Off.wref (h : Off w G r ov g) (hm : Mv (RbD r ov) w w') {T : TypeId} {cs : List Value} (hW : Whole w g T cs) : Whole w' g T cs :=
  hm.whole hW (by rintro (e | e); exact h.b e; exact h.c e.symm)
theorem Mid.below (h : Mid w base q r G ov b b0) (hm : Mv G w w') : Below base w w' := hm.below h.bag.low.1 (fun i hi => (h.bag.low.2 i hi).1)
/-- what came out of the bag is none of the reference's blocks, and none that is off -/
theorem Mid.taken {l : List UInt8} {v : Value} (h : Mid w base q r G ov b0 b0) (hl : RdBG w' w'.heap.size (fun i => G' i ∨ Else w G i) v l) : RdBG w' w'.heap.size (RbD r ov) v l :=
  hl.mono (Nat.le_refl _) (fun i _ hi => .inr (by
    rcases hi with rfl | hi
    · exact ⟨h.off, h.ref.low.2.1⟩
    · exact ⟨h.row i hi.symm, (h.ref.row hi.symm).2⟩))
theorem Off.text {l : List UInt8} {v : Value} (h : Off w G r ov g) (hl : RdBG w' w'.heap.size (fun i => G' i ∨ Else w G i) v l) : RdBG w' w'.heap.size (fun i => i = g) v l :=
  hl.mono (Nat.le_refl _) (fun i _ hi => .inr (by rw [hi]; exact ⟨h.a, h.size⟩))
theorem RdBG.or {B : Nat} {G1 G2 : Nat → Prop} {l : List UInt8} {v : Value} (h : RdBG w B G1 v l) (h2 : RdBG w B G2 v l) : RdBG w B (fun i => G1 i ∨ G2 i) v l := by
  obtain ⟨A, c, rfl, hc, hi⟩ := h
  obtain ⟨A2, c2, e, hc2, hi2⟩ := h2
  injection e with e1 _ e3
  subst e1 e3
  refine ⟨A, c, rfl, hc, fun i hs => ?_⟩
  obtain ⟨b, o, hA, hb, hg, h1⟩ := hi i hs
  obtain ⟨b2, o2, hA2, _, hg2, _⟩ := hi2 i hs
  rw [hA] at hA2
  injection hA2 with hA2
  injection hA2 with e4
  subst e4
  exact ⟨b, o, hA, hb, fun h => h.elim hg hg2, h1⟩
end
end Go.Proofs.Ytjkhdlmdgdcimaa

/- Acts of a clock as they come in; the program's clock beside the reference's. -/
import Derived.Test.YtcigodaacdfagaaCAwk
import Derived.Test.YtcigodaacdfagaaRn
namespace Go.Proofs.Ytcigodaacdfagaa
open Go.RowKit

/-- one act, as it came in -/
structure CAct where
  what : Int
  bell : Int
  n : Int
def encCA (a : CAct) : List Value := [.int .i64 a.what, .int .i64 a.bell, .int .i64 a.n]
theorem RdCA.at {w : World} {B : Nat} {v : Value} {l : List CAct} (h : Rd encCA 3 w B v l) : ∃ A c, v = .slice A l.length c ∧ l.length ≤ c ∧ ∀ i (_ : i < l.length), ∃ b o, A = some ⟨b, o, none⟩ ∧ b < B ∧
    w.cell? ⟨b, o + i * 3, none⟩ = some (.int .i64 l[i].what) ∧ w.cell? ⟨b, o + i * 3 + 1, none⟩ = some (.int .i64 l[i].bell) ∧ w.cell? ⟨b, o + i * 3 + 2, none⟩ = some (.int .i64 l[i].n) := by
  obtain ⟨A, c, hv, hc, hi⟩ := h
  refine ⟨A, c, hv, hc, fun i hs => ?_⟩
  obtain ⟨b, o, hA, hB, h1⟩ := hi i hs
  exact ⟨b, o, hA, hB, h1 0 _ rfl, h1 1 _ rfl, h1 2 _ rfl⟩

/-- the program's clock at its blocks G, the reference's at Gr: apart -/
structure Mid (w : World) (base q r : Nat) (G Gr : Nat → Prop) (c c0 : Ck) : Prop where
  clk : CkAt w base q G c
  ref : RkAt w base r Gr c0
  off : ∀ i, G i → ¬ Gr i
section
variable {w w' : World} {base q r g : Nat} {G G' Gr : Nat → Prop} {c c0 c1 : Ck}
theorem Mid.prog (h : Mid w base q r G Gr c0 c0) (hb : CkAt w' base q G' c1) (hn : ∀ i, G' i → G i ∨ w.heap.size ≤ i) (hm : Mv G w w') : Mid w' base q r G' Gr c1 c0 :=
  ⟨hb, h.ref.mv hm fun i hi hg => h.off i hg hi, fun i hi hr => by
    rcases hn i hi with k | k
    · exact h.off i k hr
    · have := (h.ref.low.2 i hr).2; omega⟩
theorem Mid.nr (h : Mid w base q r G Gr c c0) : ¬ G r := fun hg => h.off r hg h.ref.me
theorem Mid.went (h : Mid w base q r G Gr c1 c0) (hw : RkWent w w' base r Gr c1) : ∃ Gr', Mid w' base q r G Gr' c1 c1 ∧ Mv (fun i => i = r) w w' := by
  obtain ⟨Gr', hr, hn, hm⟩ := hw
  refine ⟨Gr', ⟨h.clk.mv hm fun i hi e => h.nr (e ▸ hi), hr, fun i hi hg => ?_⟩, hm⟩
  rcases hn i hg with k | k
  · exact h.off i hi k
  · have := (h.clk.low.2 i hi).2; omega
theorem Mid.same (h : Mid w base q r G Gr c c0) (hb : Below w.heap.size w w') : Mid w' base q r G Gr c c0 :=
  ⟨h.clk.mv (Mv.of_new hb (fun _ => False)) (fun _ _ h => h), h.ref.new hb, h.off⟩
theorem Mid.drew (h : Mid w base q r G Gr c c0) : Mid w.drew base q r G Gr c c0 := h.same ((Below.refl _ w).drew)
theorem Mid.below (h : Mid w base q r G Gr c c0) (hm : Mv G w w') : Below base w w' := mv_below h.clk hm
theorem Mid.belowr (h : Mid w base q r G Gr c c0) (hm : Mv (fun i => i = r) w w') : Below base w w' := hm.below h.ref.low.1 fun i hi => by rw [hi]; exact (h.ref.low.2 r h.ref.me).1
/-- what lies behind all that stood is neither's -/
theorem Mid.fresh (h : Mid w base q r G Gr c c0) (hg : w.heap.size ≤ g) : ¬ G g ∧ g ≠ r :=
  ⟨fun hi => by have := (h.clk.low.2 g hi).2; omega, fun e => by have := (h.ref.low.2 r h.ref.me).2; omega⟩
end
theorem pass_len {c : Ck} (h : c.Ok) (n : Int) : (c.pass n).1.1.length ≤ 4096 := by
  have := h.len
  have h2 : (Ck.due c.l (c.now + n)).length ≤ c.l.length := (List.takeWhile_sublist _).length_le
  unfold Ck.pass
  split
  · simp
  · split
    · simp
    · simp only [List.length_map]; omega
end Go.Proofs.Ytcigodaacdfagaa

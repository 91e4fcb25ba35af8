/- What Num answers. -/
import Derived.Test.YtaenlkopjmgniaaRd
namespace Go.Proofs.Ytaenlkopjmgniaa
open Go.RowKit

set_option maxRecDepth 100000 in
theorem Below.drewN' {B : Nat} {w w' : World} (h : Below B w w') (n : Nat) : Below B w (w'.drewN n) := ⟨h.os, h.tape, h.output, h.size, h.block⟩
set_option maxRecDepth 100000 in
/-- what is kept behind the reading of a number into a block of one cell -/
theorem NumW.kept {w w' : World} {base p q used : Nat} {v : Value} {t : TypeId} {cs : List Value} {r : Nat × Nat × Nat} {o : Nat} (hw : Rdr w base p v (used : Int) 0) (hq : Whole w q t cs) (hne : q ≠ p) (hbq : base ≤ q) (h : NumW p q o used r w w') :
    Below base w w' ∧ ((r.2.2 = 0 ∧ Rdr w' base p v ((used + r.2.1 : Nat) : Int) 0 ∧ Whole w' q t (cs.set o (.int .i64 (r.1 : Int)))) ∨ (r.2.2 ≠ 0 ∧ Rdr w' base p v 0 (r.2.2 : Int) ∧ Whole w' q t cs)) := by
  rcases h with ⟨h0, k, rfl⟩ | ⟨h0, k, rfl⟩
  · refine ⟨Below.drewN' (((Below.refl _ _).setCell (p := ⟨q, o, none⟩) hbq _).setCell (p := ⟨p, 1, none⟩) hw.2 _) k, .inl ⟨h0, ⟨?_, hw.2⟩, ?_⟩⟩
    · exact ((hw.1.away (p := ⟨q, o, none⟩) (Ne.symm hne) _).put 1 _)
    · exact (hq.put o _).away (p := ⟨p, 1, none⟩) hne _
  · refine ⟨Below.drewN' (((Below.refl _ _).setCell (p := ⟨p, 1, none⟩) hw.2 _).setCell (p := ⟨p, 2, none⟩) hw.2 _) k, .inr ⟨h0, ⟨(hw.1.put 1 _).put 2 _, hw.2⟩, ?_⟩⟩
    exact (hq.away (p := ⟨p, 1, none⟩) hne _).away (p := ⟨p, 2, none⟩) hne _
set_option maxRecDepth 100000 in
theorem NumW.first {w w' : World} {base p q : Nat} {v : Value} {t : TypeId} {l : List UInt8} (hw : Rdr w base p v 0 0) (hq : Whole w q t [.int .i64 0]) (hne : q ≠ p) (hbq : base ≤ q) (h : NumW p q 0 0 (numAns l) w w') :
    Below base w w' ∧ Rdr w' base p v ((numAns l).2.1 : Int) ((numAns l).2.2 : Int) ∧ Whole w' q t [.int .i64 ((numAns l).1 : Int)] := by
  obtain ⟨hb, h⟩ := NumW.kept (used := 0) hw hq hne hbq h
  refine ⟨hb, ?_⟩
  rcases h with ⟨h0, h1, h2⟩ | ⟨h0, h1, h2⟩
  · rw [h0]; rw [Nat.zero_add] at h1; exact ⟨h1, h2⟩
  · rcases numAns_err l with h | h | h
    · exact absurd h h0
    · rw [h] at h1 ⊢; exact ⟨h1, h2⟩
    · rw [h] at h1 ⊢; exact ⟨h1, h2⟩

set_option maxRecDepth 100000 in
/-- two blocks stand as they are -/
def Both (q : Nat) (t : TypeId) (cq : List Value) (p : Nat) (tp : TypeId) (cp : List Value) (w0 : World) (B : Nat) (W : World) : Prop := Whole W q t cq ∧ Whole W p tp cp ∧ Below B w0 W

end Go.Proofs.Ytaenlkopjmgniaa

/- A region with a post of its own: what it leaves is said once, whatever order its operations come in. -/
import Derived.Test.YteelnholmlabmaaPlanT
namespace Go.Proofs.Yteelnholmlabmaa
open Go.RowKit
section
variable {P : Program} {ops : Array Oper} {Q : Exit → Act → World → Prop}
theorem wp_region_mid (R : Act → Act → World → Prop) {id : Nat} {b : Bool} {a : Act} {w : World} (h1 : (Code.region id ops b).wp P (fun e a' w' => e = .normal ∧ R a a' w') a w) (h2 : ∀ a' w', R a a' w' → Q .normal a' w') : (Code.region id ops b).wp P Q a w :=
  Code.wp_mono (fun e a' w' h => by obtain ⟨rfl, h⟩ := h; exact h2 a' w' h) h1
end
end Go.Proofs.Yteelnholmlabmaa

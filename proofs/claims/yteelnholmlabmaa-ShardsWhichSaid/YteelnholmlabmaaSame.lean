/- (For seats whose reference joins no spans.) A pair's cells. -/
import Derived.Test.YteelnholmlabmaaSmall
import Derived.Test.YteelnholmlabmaaMv
import Derived.OneCell
import Derived.OwnWalk
import Derived.Laws.OwnMore
namespace Go.Proofs.Yteelnholmlabmaa
open Go.RowKit

def cellsS (s : K × K) : List Value := [.string s.1, .string s.2]
theorem cellsS_len (s : K × K) : (cellsS s).length = 2 := rfl
theorem cellsS_one (s : K × K) : ∀ u ∈ cellsS s, u.oneCell' = true := by
  intro u hu
  simp [cellsS] at hu
  rcases hu with rfl | rfl <;> rfl
def hasB (s : K × K) (k : K) : Bool := decide (s.1 ≤ k) && decide (k < s.2)
end Go.Proofs.Yteelnholmlabmaa

/-
  No cell of these rows narrows 'for every input' (looked for: loops, veiled, ifaces, maps, wideKeys, modest, calm, conditions, laid).
  DERIVED. THE GIVEN ROWS OF THIS SEAT. 6 by the template 'for every input the law returns true; each argument reads behind the call as it read before'; 0 by the template 'total and deterministic' (their statements: YtjmojlhebjbgaaaTotals.lean).
  GIVEN WITH THE SEED: the statements are not yours to turn. If you find one false, say at which input.
  Laid BY PROGRAM, IN A SANDBOX (cutbox-rows.mjs): the forced cells as the released guide's own fill.sh prints them over the translation 10ce88473f490d78… (all of the seat's roots in one cut). By AI agents, Wed Nov 11 2026. No macro, syntax, notation, axiom, sorry.
-/
import Derived.Test.YtjmojlhebjbgaaaChecked
import GoSem.Claim
import GoSem.ClaimJoined
import GoSem.ClaimMapViews
import Derived.JoinedTies
import Derived.KernelRfl
namespace Go.Proofs.Ytjmojlhebjbgaaa
/- THE CELL 'sum', in the pinned program and in every row, IS THE sha256 OF THE DUMP (.gsa) THAT YtjmojlhebjbgaaaProg.lean LOADS. Nothing in Lean hashes anything: it is a label: what it is worth is what the hold of that sum in a sandbox is worth. -/
noncomputable def Try.pinned : Pinned := { name := "ytjmojlhebjbgaaa", sum := "10ce88473f490d788f39d16d8e0b1461e4d0b73fac7713652e412e754378e22b", checked := Try.checked }
namespace Rows
def none {H : Type} : Left H := { results := [], args := [] }

/-- 'roundhouselaw13.BallotLess': WHATEVER THE INPUT: true; the input reads as it did. -/
def ballotLessSpec : ChangeSpec := { name := "ballotLess", fn := fun _ => fun
  | [d1, d2, d3] => { results := [.lit (.bool true)], args := [d1, d2, d3] }
  | _ => none }
def ballotLessRow : OpenClaim := { program := "ytjmojlhebjbgaaa", sum := "10ce88473f490d788f39d16d8e0b1461e4d0b73fac7713652e412e754378e22b", func := "roundhouse/roundhouselaw13.BallotLess", spec := "ballotLess", apart := false }
def BallotLessSaid : Prop := ballotLessRow.holds Try.pinned (OpenSpec.ofChange ballotLessSpec)

/-- ITS FALSE NEIGHBOUR: 'it returns false'. Refute it at one input. -/
def ballotLessWrong : ChangeSpec := { name := "ballotLess", fn := fun _ => fun
  | [d1, d2, d3] => { results := [.lit (.bool false)], args := [d1, d2, d3] }
  | _ => none }
def BallotLessWrongFalsely : Prop := ballotLessRow.holds Try.pinned (OpenSpec.ofChange ballotLessWrong)

/-- 'roundhouselaw13.BallotVows': WHATEVER THE INPUT: true; the input reads as it did. -/
def ballotVowsSpec : ChangeSpec := { name := "ballotVows", fn := fun _ => fun
  | [d1, d2, d3] => { results := [.lit (.bool true)], args := [d1, d2, d3] }
  | _ => none }
def ballotVowsRow : OpenClaim := { program := "ytjmojlhebjbgaaa", sum := "10ce88473f490d788f39d16d8e0b1461e4d0b73fac7713652e412e754378e22b", func := "roundhouse/roundhouselaw13.BallotVows", spec := "ballotVows", apart := false }
def BallotVowsSaid : Prop := ballotVowsRow.holds Try.pinned (OpenSpec.ofChange ballotVowsSpec)

/-- ITS FALSE NEIGHBOUR: 'it returns false'. Refute it at one input. -/
def ballotVowsWrong : ChangeSpec := { name := "ballotVows", fn := fun _ => fun
  | [d1, d2, d3] => { results := [.lit (.bool false)], args := [d1, d2, d3] }
  | _ => none }
def BallotVowsWrongFalsely : Prop := ballotVowsRow.holds Try.pinned (OpenSpec.ofChange ballotVowsWrong)

/-- 'roundhouselaw13.BallotBest': WHATEVER THE INPUT: true; the input reads as it did. -/
def ballotBestSpec : ChangeSpec := { name := "ballotBest", fn := fun _ => fun
  | [d] => { results := [.lit (.bool true)], args := [d] }
  | _ => none }
def ballotBestRow : OpenClaim := { program := "ytjmojlhebjbgaaa", sum := "10ce88473f490d788f39d16d8e0b1461e4d0b73fac7713652e412e754378e22b", func := "roundhouse/roundhouselaw13.BallotBest", spec := "ballotBest", apart := false }
def BallotBestSaid : Prop := ballotBestRow.holds Try.pinned (OpenSpec.ofChange ballotBestSpec)

/-- ITS FALSE NEIGHBOUR: 'it returns false'. Refute it at one input. -/
def ballotBestWrong : ChangeSpec := { name := "ballotBest", fn := fun _ => fun
  | [d] => { results := [.lit (.bool false)], args := [d] }
  | _ => none }
def BallotBestWrongFalsely : Prop := ballotBestRow.holds Try.pinned (OpenSpec.ofChange ballotBestWrong)

/-- 'roundhouselaw13.BallotCodes': WHATEVER THE INPUT: true; the input reads as it did. -/
def ballotCodesSpec : ChangeSpec := { name := "ballotCodes", fn := fun _ => fun
  | [d1, d2] => { results := [.lit (.bool true)], args := [d1, d2] }
  | _ => none }
def ballotCodesRow : OpenClaim := { program := "ytjmojlhebjbgaaa", sum := "10ce88473f490d788f39d16d8e0b1461e4d0b73fac7713652e412e754378e22b", func := "roundhouse/roundhouselaw13.BallotCodes", spec := "ballotCodes", unfollowed := true, recurses := true, apart := false }
def BallotCodesSaid : Prop := ballotCodesRow.holds Try.pinned (OpenSpec.ofChange ballotCodesSpec)

/-- ITS FALSE NEIGHBOUR: 'it returns false'. Refute it at one input. -/
def ballotCodesWrong : ChangeSpec := { name := "ballotCodes", fn := fun _ => fun
  | [d1, d2] => { results := [.lit (.bool false)], args := [d1, d2] }
  | _ => none }
def BallotCodesWrongFalsely : Prop := ballotCodesRow.holds Try.pinned (OpenSpec.ofChange ballotCodesWrong)

/-- 'roundhouselaw13.BallotHolds': WHATEVER THE INPUT: true; the input reads as it did. -/
def ballotHoldsSpec : ChangeSpec := { name := "ballotHolds", fn := fun _ => fun
  | [d1, d2, d3, d4] => { results := [.lit (.bool true)], args := [d1, d2, d3, d4] }
  | _ => none }
def ballotHoldsRow : OpenClaim := { program := "ytjmojlhebjbgaaa", sum := "10ce88473f490d788f39d16d8e0b1461e4d0b73fac7713652e412e754378e22b", func := "roundhouse/roundhouselaw13.BallotHolds", spec := "ballotHolds", apart := false }
def BallotHoldsSaid : Prop := ballotHoldsRow.holds Try.pinned (OpenSpec.ofChange ballotHoldsSpec)

/-- ITS FALSE NEIGHBOUR: 'it returns false'. Refute it at one input. -/
def ballotHoldsWrong : ChangeSpec := { name := "ballotHolds", fn := fun _ => fun
  | [d1, d2, d3, d4] => { results := [.lit (.bool false)], args := [d1, d2, d3, d4] }
  | _ => none }
def BallotHoldsWrongFalsely : Prop := ballotHoldsRow.holds Try.pinned (OpenSpec.ofChange ballotHoldsWrong)

/-- 'roundhouselaw13.BallotOnce': WHATEVER THE INPUT: true; the input reads as it did. -/
def ballotOnceSpec : ChangeSpec := { name := "ballotOnce", fn := fun _ => fun
  | [d1, d2] => { results := [.lit (.bool true)], args := [d1, d2] }
  | _ => none }
def ballotOnceRow : OpenClaim := { program := "ytjmojlhebjbgaaa", sum := "10ce88473f490d788f39d16d8e0b1461e4d0b73fac7713652e412e754378e22b", func := "roundhouse/roundhouselaw13.BallotOnce", spec := "ballotOnce", apart := false }
def BallotOnceSaid : Prop := ballotOnceRow.holds Try.pinned (OpenSpec.ofChange ballotOnceSpec)

/-- ITS FALSE NEIGHBOUR: 'it returns false'. Refute it at one input. -/
def ballotOnceWrong : ChangeSpec := { name := "ballotOnce", fn := fun _ => fun
  | [d1, d2] => { results := [.lit (.bool false)], args := [d1, d2] }
  | _ => none }
def BallotOnceWrongFalsely : Prop := ballotOnceRow.holds Try.pinned (OpenSpec.ofChange ballotOnceWrong)

/- THE SECOND FORM. 'bulk': how many values and letters a reading holds, each counted each time it is reached (what is shared counts as often as it is met; a slice's spare places count too). A statement '..UptoSaid' is the law's where the arguments, and the package variables that the reading takes, are together of bulk at most 1048576: NARROWER than '..Said'. Prove '..Said' where nothing that the law and all that it calls make is longer than what came in: it says more and counts as full. Else prove '..UptoSaid'. A law counts once. -/
mutual
def uptoBulk {H : Type} : DataW H → Nat
  | .lit (.string bytes) => bytes.length + 1
  | .lit _ => 1
  | .nil => 1
  | .ptr d => uptoBulk d + 1
  | .slice elems spare => uptoBulkAll elems + uptoBulkAll spare + 1
  | .agg parts => uptoBulkAll parts + 1
  | .iface _ d => uptoBulk d + 1
  | .map entries => uptoBulkEntries entries + 1
  | .held _ => 1
def uptoBulkAll {H : Type} : List (DataW H) → Nat
  | [] => 0
  | d :: r => uptoBulk d + uptoBulkAll r
def uptoBulkEntries {H : Type} : List (Lit × DataW H) → Nat
  | [] => 0
  | x :: r => uptoBulkEntry x + uptoBulkEntries r
def uptoBulkEntry {H : Type} : Lit × DataW H → Nat
  | (.string bytes, d) => bytes.length + uptoBulk d + 1
  | (_, d) => uptoBulk d + 1
 end
def uptoSmall : (H : Type) → List (DataW H) → Bool := fun _ ds => decide (uptoBulkAll ds ≤ 1048576)
def OpenSpec.upto (s : _root_.Go.ChangeSpec) : _root_.Go.OpenSpec := { _root_.Go.OpenSpec.ofChange s with cond := some uptoSmall }

/-- 'roundhouselaw13.BallotLess', WHERE WHAT IT READS IS OF BULK AT MOST 1048576: true; the input reads as it did. -/
def ballotLessUptoRow : OpenClaim := { program := "ytjmojlhebjbgaaa", sum := "10ce88473f490d788f39d16d8e0b1461e4d0b73fac7713652e412e754378e22b", func := "roundhouse/roundhouselaw13.BallotLess", spec := "ballotLess", apart := false, narrowed := true }
def BallotLessUptoSaid : Prop := ballotLessUptoRow.holds Try.pinned (OpenSpec.upto ballotLessSpec)

/-- 'roundhouselaw13.BallotVows', WHERE WHAT IT READS IS OF BULK AT MOST 1048576: true; the input reads as it did. -/
def ballotVowsUptoRow : OpenClaim := { program := "ytjmojlhebjbgaaa", sum := "10ce88473f490d788f39d16d8e0b1461e4d0b73fac7713652e412e754378e22b", func := "roundhouse/roundhouselaw13.BallotVows", spec := "ballotVows", apart := false, narrowed := true }
def BallotVowsUptoSaid : Prop := ballotVowsUptoRow.holds Try.pinned (OpenSpec.upto ballotVowsSpec)

/-- 'roundhouselaw13.BallotBest', WHERE WHAT IT READS IS OF BULK AT MOST 1048576: true; the input reads as it did. -/
def ballotBestUptoRow : OpenClaim := { program := "ytjmojlhebjbgaaa", sum := "10ce88473f490d788f39d16d8e0b1461e4d0b73fac7713652e412e754378e22b", func := "roundhouse/roundhouselaw13.BallotBest", spec := "ballotBest", apart := false, narrowed := true }
def BallotBestUptoSaid : Prop := ballotBestUptoRow.holds Try.pinned (OpenSpec.upto ballotBestSpec)

/-- 'roundhouselaw13.BallotCodes', WHERE WHAT IT READS IS OF BULK AT MOST 1048576: true; the input reads as it did. -/
def ballotCodesUptoRow : OpenClaim := { program := "ytjmojlhebjbgaaa", sum := "10ce88473f490d788f39d16d8e0b1461e4d0b73fac7713652e412e754378e22b", func := "roundhouse/roundhouselaw13.BallotCodes", spec := "ballotCodes", unfollowed := true, recurses := true, apart := false, narrowed := true }
def BallotCodesUptoSaid : Prop := ballotCodesUptoRow.holds Try.pinned (OpenSpec.upto ballotCodesSpec)

/-- 'roundhouselaw13.BallotHolds', WHERE WHAT IT READS IS OF BULK AT MOST 1048576: true; the input reads as it did. -/
def ballotHoldsUptoRow : OpenClaim := { program := "ytjmojlhebjbgaaa", sum := "10ce88473f490d788f39d16d8e0b1461e4d0b73fac7713652e412e754378e22b", func := "roundhouse/roundhouselaw13.BallotHolds", spec := "ballotHolds", apart := false, narrowed := true }
def BallotHoldsUptoSaid : Prop := ballotHoldsUptoRow.holds Try.pinned (OpenSpec.upto ballotHoldsSpec)

/-- 'roundhouselaw13.BallotOnce', WHERE WHAT IT READS IS OF BULK AT MOST 1048576: true; the input reads as it did. -/
def ballotOnceUptoRow : OpenClaim := { program := "ytjmojlhebjbgaaa", sum := "10ce88473f490d788f39d16d8e0b1461e4d0b73fac7713652e412e754378e22b", func := "roundhouse/roundhouselaw13.BallotOnce", spec := "ballotOnce", apart := false, narrowed := true }
def BallotOnceUptoSaid : Prop := ballotOnceUptoRow.holds Try.pinned (OpenSpec.upto ballotOnceSpec)

end Rows
end Go.Proofs.Ytjmojlhebjbgaaa

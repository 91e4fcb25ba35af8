/-
  No cell of these rows narrows 'for every input' (looked for: loops, veiled, ifaces, maps, wideKeys, modest, calm, conditions, laid).
  DERIVED. THE GIVEN ROWS OF THIS SEAT. 5 by the template 'for every input the law returns true; each argument reads behind the call as it read before'; 0 by the template 'total and deterministic' (their statements: YtcmpbhcldaogiaaTotals.lean).
  GIVEN WITH THE SEED: the statements are not yours to turn. If you find one false, say at which input.
  Laid BY PROGRAM, IN A SANDBOX (cutbox-rows.mjs): the forced cells as the released guide's own fill.sh prints them over the translation dadb3851db8c5626… (all of the seat's roots in one cut). By AI agents, Wed Nov 11 2026. No macro, syntax, notation, axiom, sorry.
-/
import Derived.Test.YtcmpbhcldaogiaaChecked
import GoSem.Claim
import GoSem.ClaimJoined
import GoSem.ClaimMapViews
import Derived.JoinedTies
import Derived.KernelRfl
namespace Go.Proofs.Ytcmpbhcldaogiaa
/- THE CELL 'sum', in the pinned program and in every row, IS THE sha256 OF THE DUMP (.gsa) THAT YtcmpbhcldaogiaaProg.lean LOADS. Nothing in Lean hashes anything: it is a label: what it is worth is what the hold of that sum in a sandbox is worth. -/
noncomputable def Try.pinned : Pinned := { name := "ytcmpbhcldaogiaa", sum := "dadb3851db8c562630d02c2b855d1a8c8b18dc79998c833a8431b9a615a482eb", checked := Try.checked }
namespace Rows
def none {H : Type} : Left H := { results := [], args := [] }

/-- 'roundhouselaw11.MarksLate': WHATEVER THE INPUT: true; the input reads as it did. -/
def marksLateSpec : ChangeSpec := { name := "marksLate", fn := fun _ => fun
  | [d1, d2, d3, d4] => { results := [.lit (.bool true)], args := [d1, d2, d3, d4] }
  | _ => none }
def marksLateRow : OpenClaim := { program := "ytcmpbhcldaogiaa", sum := "dadb3851db8c562630d02c2b855d1a8c8b18dc79998c833a8431b9a615a482eb", func := "roundhouse/roundhouselaw11.MarksLate", spec := "marksLate", inPlace := ["slices.overlaps[roundhouse/marks.mark]"], unfollowed := true, recurses := true, apart := false }
def MarksLateSaid : Prop := marksLateRow.holds Try.pinned (OpenSpec.ofChange marksLateSpec)

/-- ITS FALSE NEIGHBOUR: 'it returns false'. Refute it at one input. -/
def marksLateWrong : ChangeSpec := { name := "marksLate", fn := fun _ => fun
  | [d1, d2, d3, d4] => { results := [.lit (.bool false)], args := [d1, d2, d3, d4] }
  | _ => none }
def MarksLateWrongFalsely : Prop := marksLateRow.holds Try.pinned (OpenSpec.ofChange marksLateWrong)

/-- 'roundhouselaw11.MarksSplit': WHATEVER THE INPUT: true; the input reads as it did. -/
def marksSplitSpec : ChangeSpec := { name := "marksSplit", fn := fun _ => fun
  | [d1, d2, d3] => { results := [.lit (.bool true)], args := [d1, d2, d3] }
  | _ => none }
def marksSplitRow : OpenClaim := { program := "ytcmpbhcldaogiaa", sum := "dadb3851db8c562630d02c2b855d1a8c8b18dc79998c833a8431b9a615a482eb", func := "roundhouse/roundhouselaw11.MarksSplit", spec := "marksSplit", inPlace := ["slices.overlaps[roundhouse/marks.mark]"], unfollowed := true, recurses := true, apart := false }
def MarksSplitSaid : Prop := marksSplitRow.holds Try.pinned (OpenSpec.ofChange marksSplitSpec)

/-- ITS FALSE NEIGHBOUR: 'it returns false'. Refute it at one input. -/
def marksSplitWrong : ChangeSpec := { name := "marksSplit", fn := fun _ => fun
  | [d1, d2, d3] => { results := [.lit (.bool false)], args := [d1, d2, d3] }
  | _ => none }
def MarksSplitWrongFalsely : Prop := marksSplitRow.holds Try.pinned (OpenSpec.ofChange marksSplitWrong)

/-- 'roundhouselaw11.MarksAgain': WHATEVER THE INPUT: true; the input reads as it did. -/
def marksAgainSpec : ChangeSpec := { name := "marksAgain", fn := fun _ => fun
  | [d1, d2, d3] => { results := [.lit (.bool true)], args := [d1, d2, d3] }
  | _ => none }
def marksAgainRow : OpenClaim := { program := "ytcmpbhcldaogiaa", sum := "dadb3851db8c562630d02c2b855d1a8c8b18dc79998c833a8431b9a615a482eb", func := "roundhouse/roundhouselaw11.MarksAgain", spec := "marksAgain", inPlace := ["slices.overlaps[roundhouse/marks.mark]"], unfollowed := true, recurses := true, apart := false }
def MarksAgainSaid : Prop := marksAgainRow.holds Try.pinned (OpenSpec.ofChange marksAgainSpec)

/-- ITS FALSE NEIGHBOUR: 'it returns false'. Refute it at one input. -/
def marksAgainWrong : ChangeSpec := { name := "marksAgain", fn := fun _ => fun
  | [d1, d2, d3] => { results := [.lit (.bool false)], args := [d1, d2, d3] }
  | _ => none }
def MarksAgainWrongFalsely : Prop := marksAgainRow.holds Try.pinned (OpenSpec.ofChange marksAgainWrong)

/-- 'roundhouselaw11.MarksNone': WHATEVER THE INPUT: true; the input reads as it did. -/
def marksNoneSpec : ChangeSpec := { name := "marksNone", fn := fun _ => fun
  | [d1, d2, d3] => { results := [.lit (.bool true)], args := [d1, d2, d3] }
  | _ => none }
def marksNoneRow : OpenClaim := { program := "ytcmpbhcldaogiaa", sum := "dadb3851db8c562630d02c2b855d1a8c8b18dc79998c833a8431b9a615a482eb", func := "roundhouse/roundhouselaw11.MarksNone", spec := "marksNone", inPlace := ["slices.overlaps[roundhouse/marks.mark]"], unfollowed := true, recurses := true, apart := false }
def MarksNoneSaid : Prop := marksNoneRow.holds Try.pinned (OpenSpec.ofChange marksNoneSpec)

/-- ITS FALSE NEIGHBOUR: 'it returns false'. Refute it at one input. -/
def marksNoneWrong : ChangeSpec := { name := "marksNone", fn := fun _ => fun
  | [d1, d2, d3] => { results := [.lit (.bool false)], args := [d1, d2, d3] }
  | _ => none }
def MarksNoneWrongFalsely : Prop := marksNoneRow.holds Try.pinned (OpenSpec.ofChange marksNoneWrong)

/-- 'roundhouselaw11.MarksWrites': WHATEVER THE INPUT: true; the input reads as it did. -/
def marksWritesSpec : ChangeSpec := { name := "marksWrites", fn := fun _ => fun
  | [d1, d2, d3] => { results := [.lit (.bool true)], args := [d1, d2, d3] }
  | _ => none }
def marksWritesRow : OpenClaim := { program := "ytcmpbhcldaogiaa", sum := "dadb3851db8c562630d02c2b855d1a8c8b18dc79998c833a8431b9a615a482eb", func := "roundhouse/roundhouselaw11.MarksWrites", spec := "marksWrites", inPlace := ["slices.overlaps[roundhouse/marks.mark]"], unfollowed := true, recurses := true, apart := false }
def MarksWritesSaid : Prop := marksWritesRow.holds Try.pinned (OpenSpec.ofChange marksWritesSpec)

/-- ITS FALSE NEIGHBOUR: 'it returns false'. Refute it at one input. -/
def marksWritesWrong : ChangeSpec := { name := "marksWrites", fn := fun _ => fun
  | [d1, d2, d3] => { results := [.lit (.bool false)], args := [d1, d2, d3] }
  | _ => none }
def MarksWritesWrongFalsely : Prop := marksWritesRow.holds Try.pinned (OpenSpec.ofChange marksWritesWrong)

/- THE SECOND FORM. 'bulk': how many values and letters a reading holds, each counted each time it is reached (what is shared counts as often as it is met; a slice's spare places count too). A statement '..UptoSaid' is the law's where the arguments, and the package variables that the reading takes, are together of bulk at most 1048576: NARROWER than '..Said'. Prove '..Said' where nothing that the law and all that it calls make is longer than what came in: it says more and counts as full. Else prove '..UptoSaid'. A law counts once. -/
mutual
def uptoBulk {H : Type} : DataW H → Nat
  | .lit (.string bytes) => bytes.length + 1
  | .lit _ => 1
  | .nil => 1
  | .ptr d => uptoBulk d + 1
  | .slice elems spare => uptoBulkAll elems + uptoBulkAll spare + 1
  | .agg parts => uptoBulkAll parts + 1
  | .iface _ d => uptoBulk d + 1
  | .map entries => uptoBulkEntries entries + 1
  | .held _ => 1
def uptoBulkAll {H : Type} : List (DataW H) → Nat
  | [] => 0
  | d :: r => uptoBulk d + uptoBulkAll r
def uptoBulkEntries {H : Type} : List (Lit × DataW H) → Nat
  | [] => 0
  | x :: r => uptoBulkEntry x + uptoBulkEntries r
def uptoBulkEntry {H : Type} : Lit × DataW H → Nat
  | (.string bytes, d) => bytes.length + uptoBulk d + 1
  | (_, d) => uptoBulk d + 1
 end
def uptoSmall : (H : Type) → List (DataW H) → Bool := fun _ ds => decide (uptoBulkAll ds ≤ 1048576)
def OpenSpec.upto (s : _root_.Go.ChangeSpec) : _root_.Go.OpenSpec := { _root_.Go.OpenSpec.ofChange s with cond := some uptoSmall }

/-- 'roundhouselaw11.MarksLate', WHERE WHAT IT READS IS OF BULK AT MOST 1048576: true; the input reads as it did. -/
def marksLateUptoRow : OpenClaim := { program := "ytcmpbhcldaogiaa", sum := "dadb3851db8c562630d02c2b855d1a8c8b18dc79998c833a8431b9a615a482eb", func := "roundhouse/roundhouselaw11.MarksLate", spec := "marksLate", inPlace := ["slices.overlaps[roundhouse/marks.mark]"], unfollowed := true, recurses := true, apart := false, narrowed := true }
def MarksLateUptoSaid : Prop := marksLateUptoRow.holds Try.pinned (OpenSpec.upto marksLateSpec)

/-- 'roundhouselaw11.MarksSplit', WHERE WHAT IT READS IS OF BULK AT MOST 1048576: true; the input reads as it did. -/
def marksSplitUptoRow : OpenClaim := { program := "ytcmpbhcldaogiaa", sum := "dadb3851db8c562630d02c2b855d1a8c8b18dc79998c833a8431b9a615a482eb", func := "roundhouse/roundhouselaw11.MarksSplit", spec := "marksSplit", inPlace := ["slices.overlaps[roundhouse/marks.mark]"], unfollowed := true, recurses := true, apart := false, narrowed := true }
def MarksSplitUptoSaid : Prop := marksSplitUptoRow.holds Try.pinned (OpenSpec.upto marksSplitSpec)

/-- 'roundhouselaw11.MarksAgain', WHERE WHAT IT READS IS OF BULK AT MOST 1048576: true; the input reads as it did. -/
def marksAgainUptoRow : OpenClaim := { program := "ytcmpbhcldaogiaa", sum := "dadb3851db8c562630d02c2b855d1a8c8b18dc79998c833a8431b9a615a482eb", func := "roundhouse/roundhouselaw11.MarksAgain", spec := "marksAgain", inPlace := ["slices.overlaps[roundhouse/marks.mark]"], unfollowed := true, recurses := true, apart := false, narrowed := true }
def MarksAgainUptoSaid : Prop := marksAgainUptoRow.holds Try.pinned (OpenSpec.upto marksAgainSpec)

/-- 'roundhouselaw11.MarksNone', WHERE WHAT IT READS IS OF BULK AT MOST 1048576: true; the input reads as it did. -/
def marksNoneUptoRow : OpenClaim := { program := "ytcmpbhcldaogiaa", sum := "dadb3851db8c562630d02c2b855d1a8c8b18dc79998c833a8431b9a615a482eb", func := "roundhouse/roundhouselaw11.MarksNone", spec := "marksNone", inPlace := ["slices.overlaps[roundhouse/marks.mark]"], unfollowed := true, recurses := true, apart := false, narrowed := true }
def MarksNoneUptoSaid : Prop := marksNoneUptoRow.holds Try.pinned (OpenSpec.upto marksNoneSpec)

/-- 'roundhouselaw11.MarksWrites', WHERE WHAT IT READS IS OF BULK AT MOST 1048576: true; the input reads as it did. -/
def marksWritesUptoRow : OpenClaim := { program := "ytcmpbhcldaogiaa", sum := "dadb3851db8c562630d02c2b855d1a8c8b18dc79998c833a8431b9a615a482eb", func := "roundhouse/roundhouselaw11.MarksWrites", spec := "marksWrites", inPlace := ["slices.overlaps[roundhouse/marks.mark]"], unfollowed := true, recurses := true, apart := false, narrowed := true }
def MarksWritesUptoSaid : Prop := marksWritesUptoRow.holds Try.pinned (OpenSpec.upto marksWritesSpec)

end Rows
end Go.Proofs.Ytcmpbhcldaogiaa

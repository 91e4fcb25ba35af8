/-
  No cell of these rows narrows 'for every input' (looked for: loops, veiled, ifaces, maps, wideKeys, modest, calm, conditions, laid).
  DERIVED. THE GIVEN ROWS OF THIS SEAT. 3 by the template 'for every input the law returns true; each argument reads behind the call as it read before'; 0 by the template 'total and deterministic' (their statements: YtgppgecglkellaaGreatTotals.lean).
  GIVEN WITH THE SEED: the statements are not yours to turn. If you find one false, say at which input.
  Laid BY PROGRAM, IN A SANDBOX (cutbox-rows.mjs): the forced cells as the released guide's own fill.sh prints them over the translation 95cf82432d4a5120… (all of the seat's roots in one cut). By AI agents, Wed Nov 11 2026. No macro, syntax, notation, axiom, sorry.
-/
import Derived.Test.YtgppgecglkellaaGreatChecked
import GoSem.Claim
import GoSem.ClaimJoined
import GoSem.ClaimMapViews
import Derived.JoinedTies
import Derived.KernelRfl
namespace Go.Proofs.YtgppgecglkellaaGreat
/- THE CELL 'sum', in the pinned program and in every row, IS THE sha256 OF THE DUMP (.gsa) THAT YtgppgecglkellaaGreatProg.lean LOADS. Nothing in Lean hashes anything: it is a label: what it is worth is what the hold of that sum in a sandbox is worth. -/
noncomputable def Tryz.pinned : Pinned := { name := "ytgppgecglkellaagreat", sum := "95cf82432d4a5120c4e6a58cae83c9472395bb57c30c701613d609a0b3121142", checked := Tryz.checked }
namespace Rows
def none {H : Type} : Left H := { results := [], args := [] }

/-- 'roundhouselaw17.RefereePlays': WHATEVER THE INPUT: true; the input reads as it did. -/
def refereePlaysSpec : ChangeSpec := { name := "refereePlays", fn := fun _ => fun
  | [d] => { results := [.lit (.bool true)], args := [d] }
  | _ => none }
def refereePlaysRow : OpenClaim := { program := "ytgppgecglkellaagreat", sum := "95cf82432d4a5120c4e6a58cae83c9472395bb57c30c701613d609a0b3121142", func := "roundhouse/roundhouselaw17.RefereePlays", spec := "refereePlays", inPlace := ["slices.overlaps[roundhouse/marks.mark]"], unfollowed := true, recurses := true, apart := false }
def RefereePlaysSaid : Prop := refereePlaysRow.holds Tryz.pinned (OpenSpec.ofChange refereePlaysSpec)

/-- ITS FALSE NEIGHBOUR: 'it returns false'. Refute it at one input. -/
def refereePlaysWrong : ChangeSpec := { name := "refereePlays", fn := fun _ => fun
  | [d] => { results := [.lit (.bool false)], args := [d] }
  | _ => none }
def RefereePlaysWrongFalsely : Prop := refereePlaysRow.holds Tryz.pinned (OpenSpec.ofChange refereePlaysWrong)

/-- 'roundhouselaw17.RefereeEpochs': WHATEVER THE INPUT: true; the input reads as it did. -/
def refereeEpochsSpec : ChangeSpec := { name := "refereeEpochs", fn := fun _ => fun
  | [d1, d2, d3, d4] => { results := [.lit (.bool true)], args := [d1, d2, d3, d4] }
  | _ => none }
def refereeEpochsRow : OpenClaim := { program := "ytgppgecglkellaagreat", sum := "95cf82432d4a5120c4e6a58cae83c9472395bb57c30c701613d609a0b3121142", func := "roundhouse/roundhouselaw17.RefereeEpochs", spec := "refereeEpochs", inPlace := ["slices.overlaps[roundhouse/marks.mark]"], unfollowed := true, recurses := true, apart := false }
def RefereeEpochsSaid : Prop := refereeEpochsRow.holds Tryz.pinned (OpenSpec.ofChange refereeEpochsSpec)

/-- ITS FALSE NEIGHBOUR: 'it returns false'. Refute it at one input. -/
def refereeEpochsWrong : ChangeSpec := { name := "refereeEpochs", fn := fun _ => fun
  | [d1, d2, d3, d4] => { results := [.lit (.bool false)], args := [d1, d2, d3, d4] }
  | _ => none }
def RefereeEpochsWrongFalsely : Prop := refereeEpochsRow.holds Tryz.pinned (OpenSpec.ofChange refereeEpochsWrong)

/-- 'roundhouselaw17.RefereeLate': WHATEVER THE INPUT: true; the input reads as it did. -/
def refereeLateSpec : ChangeSpec := { name := "refereeLate", fn := fun _ => fun
  | [d1, d2] => { results := [.lit (.bool true)], args := [d1, d2] }
  | _ => none }
def refereeLateRow : OpenClaim := { program := "ytgppgecglkellaagreat", sum := "95cf82432d4a5120c4e6a58cae83c9472395bb57c30c701613d609a0b3121142", func := "roundhouse/roundhouselaw17.RefereeLate", spec := "refereeLate", inPlace := ["slices.overlaps[roundhouse/marks.mark]"], unfollowed := true, recurses := true, apart := false }
def RefereeLateSaid : Prop := refereeLateRow.holds Tryz.pinned (OpenSpec.ofChange refereeLateSpec)

/-- ITS FALSE NEIGHBOUR: 'it returns false'. Refute it at one input. -/
def refereeLateWrong : ChangeSpec := { name := "refereeLate", fn := fun _ => fun
  | [d1, d2] => { results := [.lit (.bool false)], args := [d1, d2] }
  | _ => none }
def RefereeLateWrongFalsely : Prop := refereeLateRow.holds Tryz.pinned (OpenSpec.ofChange refereeLateWrong)

/- THE SECOND FORM. 'bulk': how many values and letters a reading holds, each counted each time it is reached (what is shared counts as often as it is met; a slice's spare places count too). A statement '..UptoSaid' is the law's where the arguments, and the package variables that the reading takes, are together of bulk at most 1048576: NARROWER than '..Said'. Prove '..Said' where nothing that the law and all that it calls make is longer than what came in: it says more and counts as full. Else prove '..UptoSaid'. A law counts once. -/
mutual
def uptoBulk {H : Type} : DataW H → Nat
  | .lit (.string bytes) => bytes.length + 1
  | .lit _ => 1
  | .nil => 1
  | .ptr d => uptoBulk d + 1
  | .slice elems spare => uptoBulkAll elems + uptoBulkAll spare + 1
  | .agg parts => uptoBulkAll parts + 1
  | .iface _ d => uptoBulk d + 1
  | .map entries => uptoBulkEntries entries + 1
  | .held _ => 1
def uptoBulkAll {H : Type} : List (DataW H) → Nat
  | [] => 0
  | d :: r => uptoBulk d + uptoBulkAll r
def uptoBulkEntries {H : Type} : List (Lit × DataW H) → Nat
  | [] => 0
  | x :: r => uptoBulkEntry x + uptoBulkEntries r
def uptoBulkEntry {H : Type} : Lit × DataW H → Nat
  | (.string bytes, d) => bytes.length + uptoBulk d + 1
  | (_, d) => uptoBulk d + 1
 end
def uptoSmall : (H : Type) → List (DataW H) → Bool := fun _ ds => decide (uptoBulkAll ds ≤ 1048576)
def OpenSpec.upto (s : _root_.Go.ChangeSpec) : _root_.Go.OpenSpec := { _root_.Go.OpenSpec.ofChange s with cond := some uptoSmall }

/-- 'roundhouselaw17.RefereePlays', WHERE WHAT IT READS IS OF BULK AT MOST 1048576: true; the input reads as it did. -/
def refereePlaysUptoRow : OpenClaim := { program := "ytgppgecglkellaagreat", sum := "95cf82432d4a5120c4e6a58cae83c9472395bb57c30c701613d609a0b3121142", func := "roundhouse/roundhouselaw17.RefereePlays", spec := "refereePlays", inPlace := ["slices.overlaps[roundhouse/marks.mark]"], unfollowed := true, recurses := true, apart := false, narrowed := true }
def RefereePlaysUptoSaid : Prop := refereePlaysUptoRow.holds Tryz.pinned (OpenSpec.upto refereePlaysSpec)

/-- 'roundhouselaw17.RefereeEpochs', WHERE WHAT IT READS IS OF BULK AT MOST 1048576: true; the input reads as it did. -/
def refereeEpochsUptoRow : OpenClaim := { program := "ytgppgecglkellaagreat", sum := "95cf82432d4a5120c4e6a58cae83c9472395bb57c30c701613d609a0b3121142", func := "roundhouse/roundhouselaw17.RefereeEpochs", spec := "refereeEpochs", inPlace := ["slices.overlaps[roundhouse/marks.mark]"], unfollowed := true, recurses := true, apart := false, narrowed := true }
def RefereeEpochsUptoSaid : Prop := refereeEpochsUptoRow.holds Tryz.pinned (OpenSpec.upto refereeEpochsSpec)

/-- 'roundhouselaw17.RefereeLate', WHERE WHAT IT READS IS OF BULK AT MOST 1048576: true; the input reads as it did. -/
def refereeLateUptoRow : OpenClaim := { program := "ytgppgecglkellaagreat", sum := "95cf82432d4a5120c4e6a58cae83c9472395bb57c30c701613d609a0b3121142", func := "roundhouse/roundhouselaw17.RefereeLate", spec := "refereeLate", inPlace := ["slices.overlaps[roundhouse/marks.mark]"], unfollowed := true, recurses := true, apart := false, narrowed := true }
def RefereeLateUptoSaid : Prop := refereeLateUptoRow.holds Tryz.pinned (OpenSpec.upto refereeLateSpec)

end Rows
end Go.Proofs.YtgppgecglkellaaGreat

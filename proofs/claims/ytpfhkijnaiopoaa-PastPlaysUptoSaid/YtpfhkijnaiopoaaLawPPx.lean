/- PastPlays's two ways in one. -/
import Derived.Test.YtpfhkijnaiopoaaLawPP
namespace Go.Proofs.Ytpfhkijnaiopoaa
open Go.RowKit
theorem pastPlays_walk (v : Int) (ps : Prs) (l : List PAct) (vp va : Value) (w : World) (hv : I64 v) (hp : RdP w w.heap.size vp ps) (hps : ∀ p ∈ ps, smallS p.1 ∧ smallS p.2) (hva : Rd encPA 7 w w.heap.size va l)
    (hall : ∀ a ∈ l, I64 a.ver ∧ I64 a.most ∧ smallS a.key ∧ smallS a.span.1 ∧ smallS a.span.2 ∧ RdC w w.heap.size a.v a.l ∧ ∀ c ∈ a.l, smallC c) (hl : l.length ≤ 1000000000000) (hbud : ps.length + bulk l ≤ many) :
    Calls Try.prog 3 #[.int .i64 v, vp, va] w fun e w' => e = .returned (.bool true) ∧ Below w.heap.size w w' := by
  by_cases h0 : v < 0
  · exact pastPlays_bad v ps vp va w hv hp hps (by omega) (.inl h0)
  · by_cases hs : soundP ps = true
    · exact pastPlays_good v ps l vp va w hv hp hps hva hall hl hbud h0 hs
    · exact pastPlays_bad v ps vp va w hv hp hps (by omega) (.inr ⟨h0, by simpa using hs⟩)
end Go.Proofs.Ytpfhkijnaiopoaa

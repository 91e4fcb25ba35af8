/- strings.Repeat of the byte 255, 17 times: the library's contract at this seat. -/
import Derived.Test.YteelnholmlabmaaShA
import Derived.Test.YteelnholmlabmaaLayR
namespace Go.Proofs.Yteelnholmlabmaa
open Go.RowKit Go.Shelf

theorem extra_rep : Builder.Extra Try.prog Try.laysRepeat_ren where
  sizeBuilder := by kernel_rfl
  liesBuilder := by kernel_rfl
  t5 := Try.laysRepeat.t5
  a5 := Try.laysRepeat.a5
  z5 := Try.laysRepeat.z5
  v5 := Try.laysRepeat.v5
  infoByte := by kernel_rfl
  cellsByte := by kernel_rfl
  sizeByte := by kernel_rfl
  neB5 := by decide
theorem prepeat_any (w : World) : Calls Try.prog 50 #[.string ⟨#[255]⟩, .int .i64 17] w fun e w' => e = .returned (.string topK) ∧ Below w.heap.size w w' := by
  have h := Any.strings_Repeat Try.laysRepeat extra_rep ⟨#[255]⟩ 17 w (by omega) (by decide)
  rw [show Try.laysRepeat_ren.f 105 = 50 by kernel_rfl] at h
  refine h.mono fun e w' ⟨he, hw⟩ => ⟨?_, hw⟩
  rw [he]
  rfl
end Go.Proofs.Yteelnholmlabmaa

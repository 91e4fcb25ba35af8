/- BagTwins is true for every input, and leaves its arguments as they were. No condition. -/
import Derived.Test.YtjkhdlmdgdcimaaBgOpen
import Derived.Deep.CondSized
import Derived.JoinedCond
import Derived.Test.YtjkhdlmdgdcimaaLawGT
namespace Go.Proofs.Ytjkhdlmdgdcimaa
open Go.ChangeShapes Go.WideShapes Go.ChangeAt Go.RowKit Go.Joins

set_option maxRecDepth 100000 in
theorem bagTwins_lifted (os : Os) (started : os.Started) (H : Type) (enc : TypeId × Value → H) :
    ReturnsInHanded {} Try.checked os 5 .any (Rows.bagTwinsSpec.pre6 enc Try.prog Try.f5 Rows.bagTwinsRow.domain false) (Rows.bagTwinsSpec.post enc Try.prog Try.f5 false true false false) := by
  refine law_lifted os started H enc (by kernel_rfl) Try.func5
    (ChangeSpec.witness6 (enc := enc) (C := Try.checked) false ⟨#[], #[.slice none 0 0, .int .u8 0, .int .u8 0], []⟩ 8 (by kernel_rfl) (by kernel_rfl) (by kernel_rfl) (by kernel_rfl)) (by kernel_rfl) rfl rfl
    (fun ds h => by match ds, h with | [a, b, c], _ => rfl) ?_
  intro W base args ds p hval0 hA0 hlt hsz0
  have hval : ∀ (j : Nat) t v, Try.f5.params[j]? = some t → args[j]? = some v → Value.okWide Try.prog W .any base t v := hval0
  have hA := hA0
  have hsz := hsz0
  rw [Try.params5] at hA hval hsz
  obtain ⟨v0, v1, v2, d0, d1, d2, p0, p1, p2, rfl, rfl, rfl, h0, h1, h2⟩ := trodAll_three hA
  obtain ⟨l0, hr0, hz0⟩ := open_bytes (hval 0 32 v0 rfl rfl) h0
  have hl0 := hz0.reach hsz (j := 0) rfl rfl
  obtain ⟨i1, rfl, rfl, rfl, hw1⟩ := open_int Try.underlying5 (hval 1 5 v1 rfl rfl) h1
  obtain ⟨n1, rfl, hn1⟩ := nat_of_wfu8 hw1
  obtain ⟨i2, rfl, rfl, rfl, hw2⟩ := open_int Try.underlying5 (hval 2 5 v2 rfl rfl) h2
  obtain ⟨n2, rfl, hn2⟩ := nat_of_wfu8 hw2
  exact (by have hx := bagTwins_walk l0 v0 n1 (UInt8.ofNat n2) W hr0 hl0 hn1; rwa [show (UInt8.ofNat n2).toNat = n2 by simp; omega] at hx)

set_option maxRecDepth 100000 in
theorem bagTwins_holds : Rows.BagTwinsSaid :=
  OpenClaim.holds_of_wide 5 Try.f5 rfl rfl rfl rfl rfl rfl rfl ⟨rfl, rfl, rfl, rfl, rfl⟩ rfl rfl rfl rfl rfl (by kernel_rfl) Try.func5 (by kernel_rfl)
    (of_decide_eq_true (by kernel_rfl)) (by unfold Func.isWrapper; rw [if_neg (by decide +kernel)]; exact ⟨rfl, rfl⟩)
    (fun os started H enc _ => bagTwins_lifted os started H enc)

#print axioms bagTwins_holds
end Go.Proofs.Ytjkhdlmdgdcimaa

/- ChestLocks is true for every input, and leaves its arguments as they were. No condition. -/
import Derived.Test.YtmigninibdecmaaGreatFaf
import Derived.Test.YtmigninibdecmaaGreatFaa
import Derived.Deep.CondSized
import Derived.JoinedCond
import Derived.Test.YtmigninibdecmaaGreatLawChL
namespace Go.Proofs.YtmigninibdecmaaGreat
open Go.ChangeShapes Go.WideShapes Go.ChangeAt Go.RowKit Go.Joins

set_option maxRecDepth 100000 in
theorem chestLocks_lifted (os : Os) (started : os.Started) (H : Type) (enc : TypeId × Value → H) :
    ReturnsInHanded {} Tryz.checked os 3 .any (Rows.chestLocksSpec.pre6 enc Tryz.prog Tryz.f3 Rows.chestLocksRow.domain false) (Rows.chestLocksSpec.post enc Tryz.prog Tryz.f3 false true false false) := by
  refine law_lifted os started H enc (by kernel_rfl) Tryz.func3
    (ChangeSpec.witness6 (enc := enc) (C := Tryz.checked) false ⟨#[], #[.int .u8 0, .int .u8 0, .int .u8 0], []⟩ 8 (by kernel_rfl) (by kernel_rfl) (by kernel_rfl) (by kernel_rfl)) (by kernel_rfl) rfl rfl
    (fun ds h => by match ds, h with | [a, b, c], _ => rfl) ?_
  intro W base args ds p hval0 hA0 hlt hsz0
  have hval : ∀ (j : Nat) t v, Tryz.f3.params[j]? = some t → args[j]? = some v → Value.okWide Tryz.prog W .any base t v := hval0
  have hA := hA0
  have hsz := hsz0
  rw [Tryz.params3] at hA hval hsz
  obtain ⟨v0, v1, v2, d0, d1, d2, p0, p1, p2, rfl, rfl, rfl, h0, h1, h2⟩ := trodAll_three hA
  obtain ⟨i0, rfl, rfl, rfl, hw0⟩ := open_int Tryz.underlying5 (hval 0 5 v0 rfl rfl) h0
  obtain ⟨n0, rfl, hn0⟩ := nat_of_wfu8 hw0
  obtain ⟨i1, rfl, rfl, rfl, hw1⟩ := open_int Tryz.underlying5 (hval 1 5 v1 rfl rfl) h1
  obtain ⟨n1, rfl, hn1⟩ := nat_of_wfu8 hw1
  obtain ⟨i2, rfl, rfl, rfl, hw2⟩ := open_int Tryz.underlying5 (hval 2 5 v2 rfl rfl) h2
  obtain ⟨n2, rfl, hn2⟩ := nat_of_wfu8 hw2
  exact chestLocks_walk n0 n1 n2 hn0 hn1 hn2 W

set_option maxRecDepth 100000 in
theorem chestLocks_holds : Rows.ChestLocksSaid :=
  OpenClaim.holds_of_wide 3 Tryz.f3 rfl rfl rfl rfl rfl rfl rfl ⟨rfl, rfl, rfl, rfl, rfl⟩ rfl rfl rfl rfl rfl (by kernel_rfl) Tryz.func3 (by kernel_rfl)
    (of_decide_eq_true (by kernel_rfl)) (by unfold Func.isWrapper; rw [if_neg (by decide +kernel)]; exact ⟨rfl, rfl⟩)
    (fun os started H enc _ => chestLocks_lifted os started H enc)

#print axioms chestLocks_holds
end Go.Proofs.YtmigninibdecmaaGreat

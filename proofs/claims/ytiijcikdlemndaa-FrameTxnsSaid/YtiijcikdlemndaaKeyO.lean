/- Texts in the order of their bytes; held against each other. -/
import Derived.Test.YtiijcikdlemndaaRows
import Derived.WalkKit
import Derived.WalkSpells
import Derived.WalkLawsBesides
import Derived.Lib.Hide
import Derived.Sort.Walk0
namespace Go.Proofs.Ytiijcikdlemndaa
open Go.RowKit

/-- keys stand in the order of their bytes -/
instance : LT ByteArray := ⟨fun a b => a.data.toList < b.data.toList⟩
instance : LE ByteArray := ⟨fun a b => a.data.toList ≤ b.data.toList⟩
instance : DecidableLT ByteArray := fun a b => inferInstanceAs (Decidable (a.data.toList < b.data.toList))
instance : DecidableLE ByteArray := fun a b => inferInstanceAs (Decidable (a.data.toList ≤ b.data.toList))
theorem key_ext {a b : ByteArray} (h : a.data.toList = b.data.toList) : a = b := by
  cases a; cases b; simp at h; simp [h]
instance : Std.LawfulOrderLT ByteArray := ⟨fun a b => Std.LawfulOrderLT.lt_iff a.data.toList b.data.toList⟩
instance : Std.IsLinearOrder ByteArray where
  le_refl a := Std.IsPreorder.le_refl a.data.toList
  le_trans a b c h k := Std.IsPreorder.le_trans a.data.toList b.data.toList c.data.toList h k
  le_antisymm a b h k := key_ext (Std.IsPartialOrder.le_antisymm a.data.toList b.data.toList h k)
  le_total a b := Std.IsLinearPreorder.le_total a.data.toList b.data.toList
abbrev K := ByteArray

theorem less_eq (a b : ByteArray) : Op.bytesLess a.toList b.toList = decide (a < b) := by
  rw [bytesLess_eq, Lib.toList_data, Lib.toList_data]; rfl
theorem same_eq (a b : ByteArray) : (a.toList == b.toList) = decide (a = b) := by
  rw [Bool.eq_iff_iff, beq_iff_eq, decide_eq_true_iff, Lib.toList_data, Lib.toList_data]
  exact ⟨key_ext, fun h => by rw [h]⟩
theorem le_eq (a b : ByteArray) : (decide (a < b) || decide (a = b)) = decide (a ≤ b) := by
  rw [Bool.eq_iff_iff]; simp; grind
theorem ge_eq (a b : ByteArray) : (!decide (a < b)) = decide (b ≤ a) := by
  rw [Bool.eq_iff_iff]; simp; grind
theorem gt_eq (a b : ByteArray) : (!decide (a ≤ b)) = decide (b < a) := by
  rw [Bool.eq_iff_iff]; simp; grind
end Go.Proofs.Ytiijcikdlemndaa

/- What the reference's Nums, Split and Ints answer. -/
import Derived.Test.YtiijcikdlemndaaRPut
import Derived.Test.YtiijcikdlemndaaRNum
import Derived.Test.YtiijcikdlemndaaInts
import Derived.Test.YtiijcikdlemndaaPlanB
namespace Go.Proofs.Ytiijcikdlemndaa
open Go.RowKit

/-- numbers' bytes, one behind the other -/
def encs (l : List Int) : List UInt8 := l.flatMap fun n => enc n.toNat
set_option maxRecDepth 100000 in
theorem encs_append (a b : List Int) : encs (a ++ b) = encs a ++ encs b := by simp [encs]
set_option maxRecDepth 100000 in
theorem encs_len (l : List Int) (h : ∀ n ∈ l, n < 9223372036854775808) : (encs l).length ≤ l.length * 9 := by
  induction l with
  | nil => simp [encs]
  | cons x r ih =>
    have h1 := ih (fun n hn => h n (by simp [hn]))
    have h2 := enc_len9 (n := x.toNat) (by have := h x (by simp); omega)
    have : encs (x :: r) = enc x.toNat ++ encs r := rfl
    rw [this, List.length_append, List.length_cons]
    omega
/-- what Nums answers -/
def numsAns (l : List Int) : List UInt8 × Int := if l.length > 4096 then ([], 6) else if l.any (· < 0) then ([], 5) else (encs l, 0)
end Go.Proofs.Ytiijcikdlemndaa

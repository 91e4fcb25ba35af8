/- A byte turned by another one, as the machine does it. -/
import Derived.Test.YtjkhdlmdgdcimaaBits
namespace Go.Proofs.Ytjkhdlmdgdcimaa
theorem xor8u (a b : UInt8) : bits .xor .u8 (a.toNat : Int) (b.toNat : Int) = ((a ^^^ b).toNat : Int) := by
  rw [xor8 a.toNat_lt b.toNat_lt, UInt8.toNat_xor]
end Go.Proofs.Ytjkhdlmdgdcimaa

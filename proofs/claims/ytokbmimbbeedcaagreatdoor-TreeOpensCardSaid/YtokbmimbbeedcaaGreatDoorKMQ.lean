/- A slice of metas as it comes in. -/
import Derived.Test.YtokbmimbbeedcaaGreatDoorKMC
import Derived.Test.YtokbmimbbeedcaaGreatDoorKDP
namespace Go.Proofs.YtokbmimbbeedcaaGreatDoor
open Go.ChangeShapes Go.WideShapes Go.ChangeAt Go.RowKit

theorem u64_lt {z : Int} (h : (Lit.int IntKind.u64 z).wf = true) : z.toNat < 18446744073709551616 := by
  have h0 := (Lit.wf_int_iff .u64 z).1 h
  simp [IntKind.min, IntKind.signed, IntKind.max, IntKind.bits] at h0
  omega
theorem u64_back {z : Int} (h : (Lit.int IntKind.u64 z).wf = true) : ((z.toNat : Nat) : Int) = z := by
  have h0 := (Lit.wf_int_iff .u64 z).1 h
  simp [IntKind.min, IntKind.signed, IntKind.max, IntKind.bits] at h0
  omega

section
variable {H : Type} {enc : TypeId × Value → H} {w : World} {held : Bool}

end
end Go.Proofs.YtokbmimbbeedcaaGreatDoor

/- The walks of Sum, More, Join, Seal. -/
import Derived.ScopeJumps
import Derived.Test.YtokbmimbbeedcaaGreatDoorKS5
namespace Go.Proofs.YtokbmimbbeedcaaGreatDoor.Sm
open Go Go.RowKit

attribute [local go_sem] Oper.semAt_some

def wholeN (h : Nat × Nat) : Nat := h.2 * 65536 + h.1
def sumN (s : List UInt8) : Nat := wholeN (addS (1, 0) s)
/-- A sum's four bytes. -/
def sealB (n : Nat) : List UInt8 := [(n / 16777216).toUInt8, (n / 65536).toUInt8, (n / 256).toUInt8, n.toUInt8]

end Go.Proofs.YtokbmimbbeedcaaGreatDoor.Sm

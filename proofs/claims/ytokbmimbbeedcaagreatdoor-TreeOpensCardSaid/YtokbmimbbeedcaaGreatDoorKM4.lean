/- The walks of word, told: the meta that a sector's bytes tell of. -/
import Derived.BigQuiet
import Derived.Laws.ResultCell
import Derived.IntWalk
import Derived.Test.YtokbmimbbeedcaaGreatDoorKP5
import Derived.Test.YtokbmimbbeedcaaGreatDoorKP8
namespace Go.Proofs.YtokbmimbbeedcaaGreatDoor
open Go Go.RowKit Sm
attribute [local go_sem] Oper.semAt_some

/-- The meta that bytes tell of. -/
def Mt.of (s : List UInt8) : Mt := ⟨getB (s.take 8), getB ((s.drop 8).take 4), getB ((s.drop 12).take 4), getB ((s.drop 16).take 4)⟩
end Go.Proofs.YtokbmimbbeedcaaGreatDoor

/- The walk of Decode of a meta. -/
namespace Go.Proofs.YtokbmimbbeedcaaGreatDoor
open Go Go.RowKit Sm
attribute [local go_sem] Oper.semAt_some

def Mt.zero : Mt := ⟨0, 0, 0, 0⟩
end Go.Proofs.YtokbmimbbeedcaaGreatDoor

/- The iterator over a string's bytes. -/
import Derived.OwnWalkIn
import Derived.TacticsInMore
import Derived.LoopNIn
import Derived.LoopIn
import Derived.Test.YtaolhhgfnhhgaaaKS1
import Derived.Test.YtaolhhgfnhhgaaaKR
namespace Go.Proofs.Ytaolhhgfnhhgaaa.Sm
open Go.RowKit

/-- What the iterator hands over. -/
def hands (s : List UInt8) (k : Nat) : Array Value := #[.int .i64 k, .int .u8 (s.getD k 0).toNat]

end Go.Proofs.Ytaolhhgfnhhgaaa.Sm

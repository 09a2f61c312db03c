/- Money: the document's own Right, Add, Sub, Mul, Move. -/
import Derived.OwnWalk
import Derived.Test.YtecalafjfbgbcaaDoorKC0
namespace Go.Proofs.YtecalafjfbgbcaaDoor
open Go Go.RowKit Sm
attribute [local go_sem] Oper.semAt_some

end Go.Proofs.YtecalafjfbgbcaaDoor

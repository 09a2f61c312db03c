/- The walk of Delete. -/
import Derived.Test.YtalnmaoidaldhaaKOC
import Derived.Test.YtalnmaoidaldhaaKND
namespace Go.Proofs.Ytalnmaoidaldhaa
open Go Go.RowKit Sm
attribute [local go_sem] Oper.semAt_some

def Nd.delP (n : Nd) (key : List UInt8) : Nd × Bool × Int := if n.leaf then (⟨n.ps.take (n.place key) ++ [] ++ n.ps.drop (n.past key), [], []⟩, decide (n.place key < n.past key), 0) else (Nd.zero, false, 60)

end Go.Proofs.Ytalnmaoidaldhaa

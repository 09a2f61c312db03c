/- The document's own Decode of a meta. -/
import Derived.Test.YtapmppiiphbcpaaKM4
import Derived.Test.YtapmppiiphbcpaaKPA
namespace Go.Proofs.Ytapmppiiphbcpaa
open Go Go.RowKit Sm
attribute [local go_sem] Oper.semAt_some

end Go.Proofs.Ytapmppiiphbcpaa

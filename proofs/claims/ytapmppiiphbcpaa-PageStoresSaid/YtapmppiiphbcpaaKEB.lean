/- The document's own Store and Load of metas. -/
import Derived.Test.YtapmppiiphbcpaaKEA
import Derived.Test.YtapmppiiphbcpaaKM8
namespace Go.Proofs.Ytapmppiiphbcpaa
open Go Go.RowKit Sm
attribute [local go_sem] Oper.semAt_some

theorem betterM_zero (a : Mt) : betterM a Mt.zero = a := if_neg (Nat.not_lt_zero _)
end Go.Proofs.Ytapmppiiphbcpaa

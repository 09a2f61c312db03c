/- The laws on accounts: AccountsKeep. -/
import Derived.Test.YtbbfmddechpnjaaDoorKJD
import Derived.Test.YtbbfmddechpnjaaDoorKJE1
import Derived.Test.YtbbfmddechpnjaaDoorKJE2
import Derived.Test.YtbbfmddechpnjaaDoorKJE3
namespace Go.Proofs.YtbbfmddechpnjaaDoor
open Go Go.RowKit Sm

theorem accountsKeep_any (a b : Ac) (ha : a.Ok) (hbk : b.Ok) (n : Int) (hn : I64 n) (w : World) (hS : MSent w) : Calls Tryd.prog 6 #[a.v, b.v, .int .i64 n] w fun e w' => e = .returned (.bool true) ∧ Below w.heap.size w w' := by
  by_cases c1 : (depositA a n).2 = 0 <;> by_cases c2 : (withdrawA a n).2 = 0
  · exact accountsKeep3 a b ha hbk n hn c1 c2 w hS
  · exact accountsKeep2 a b ha hbk n hn c1 c2 w hS
  · exact accountsKeep1 a b ha hbk n hn c1 c2 w hS
  · exact accountsKeep0 a b ha hbk n hn c1 c2 w hS
end Go.Proofs.YtbbfmddechpnjaaDoor

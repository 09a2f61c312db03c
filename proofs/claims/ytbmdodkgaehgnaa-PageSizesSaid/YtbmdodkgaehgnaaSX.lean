/- The walk of the document's own Join. -/
import Derived.Test.YtbmdodkgaehgnaaSW
namespace Go.Proofs.Ytbmdodkgaehgnaa.Sm
open Go Go.RowKit
attribute [local go_sem] Oper.semAt_some

end Go.Proofs.Ytbmdodkgaehgnaa.Sm

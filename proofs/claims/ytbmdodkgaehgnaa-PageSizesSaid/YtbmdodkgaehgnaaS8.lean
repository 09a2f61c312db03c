/- The walk of Open. -/
import Derived.Test.YtbmdodkgaehgnaaS9
import Derived.Deep.RegionHeld3
namespace Go.Proofs.Ytbmdodkgaehgnaa.Sm
open Go Go.RowKit
attribute [local go_sem] Oper.semAt_some

theorem below_then {w w1 w2 : World} (h : Below w.heap.size w w1) (k : Below w1.heap.size w1 w2) : Below w.heap.size w w2 := h.trans (k.mono h.size)
theorem bool_eq (h : Nat × Nat) (v : Nat) (h1 : h.1 < 65521) : (!((h.1 : Int) == (v : Int) % 65536) || !((h.2 : Int) == (v : Int) / 65536)) = !decide (v = wholeN h) := by
  unfold wholeN
  rw [Bool.eq_iff_iff]
  simp
  omega
/-- What is opened. -/
def opens (s : List UInt8) : Bool := decide (4 ≤ s.length) && decide (sealV (s.drop (s.length - 4)) = sumN (s.take (s.length - 4)))
def openR (s : List UInt8) : Value := if opens s then .tuple #[.string ⟨(s.take (s.length - 4)).toArray⟩, .int .i64 0] else .tuple #[.string ⟨#[]⟩, .int .i64 20]

end Go.Proofs.Ytbmdodkgaehgnaa.Sm

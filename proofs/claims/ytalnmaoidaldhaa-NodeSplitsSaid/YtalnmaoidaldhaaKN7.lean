/- The walk of Place (the document's own). -/
import Derived.Test.YtalnmaoidaldhaaKN6
namespace Go.Proofs.Ytalnmaoidaldhaa
open Go Go.RowKit Sm
attribute [local go_sem] Oper.semAt_some

/-- How many hold. -/
def cnt (f : Nat → Bool) : Nat → Nat
  | 0 => 0
  | k + 1 => cnt f k + if f k = true then 1 else 0
theorem cnt_le (f : Nat → Bool) : ∀ k, cnt f k ≤ k
  | 0 => Nat.le_refl _
  | k + 1 => by
    have := cnt_le f k
    unfold cnt
    split <;> omega
def lessP (n : Nd) (key : List UInt8) (i : Nat) : Bool := lessB (n.ps.getD i Pr.zero).k key
def mostK (n : Nd) (key : List UInt8) (i : Nat) : Bool := !lessB key (n.ks.getD i [])
def Nd.place (n : Nd) (key : List UInt8) : Nat := if n.right then cnt (lessP n key) n.ps.length + cnt (mostK n key) n.ks.length else 0

end Go.Proofs.Ytalnmaoidaldhaa

/- The walk of Delete (the document's own). -/
import Derived.Test.YtalnmaoidaldhaaKN6
namespace Go.Proofs.Ytalnmaoidaldhaa
open Go Go.RowKit Sm
attribute [local go_sem] Oper.semAt_some

def others (key : List UInt8) (p : Pr) : Bool := decide (p.k ≠ key)
/-- What Delete answers. -/
def Nd.del (n : Nd) (key : List UInt8) : Nd × Bool × Int := if n.leaf then (⟨n.ps.filter (others key), [], []⟩, decide ((n.ps.filter (others key)).length < n.ps.length), 0) else (Nd.zero, false, 60)
def DelPost (w : World) (t : Nd × Bool × Int) (e : Ending) (w' : World) : Prop := ∃ v1 v2 v3, e = .returned (.tuple #[.agg #[v1, v2, v3], .bool t.2.1, .int .i64 t.2.2]) ∧ NdOwn w' w.heap.size v1 v2 v3 t.1 ∧ Below w.heap.size w w'
theorem del_take (P : List Pr) (key : List UInt8) (k : Nat) (h : k < P.length) : (P.take (k + 1)).filter (others key) = (P.take k).filter (others key) ++ if others key (P.getD k Pr.zero) = true then [P.getD k Pr.zero] else [] := by
  have e : P.take (k + 1) = P.take k ++ [P.getD k Pr.zero] := by
    rw [List.take_add_one]; simp [List.getD, h]
  rw [e, List.filter_append]
  simp [List.filter_cons]

end Go.Proofs.Ytalnmaoidaldhaa

/- Money: the document's own Same; the program's Bytes, Parse stand-ins are in CQ. -/
import Derived.BigQuiet
import Derived.Test.YtgaahgnjmhnggaaKC2
namespace Go.Proofs.Ytgaahgnjmhnggaa
open Go Go.RowKit Sm
attribute [local go_sem] Oper.semAt_some

theorem take_nextI {a b : List Int} {m : Nat} (h1 : m < a.length) (h2 : m < b.length) (h : a.take m = b.take m) (he : a.getD m 0 = b.getD m 0) : a.take (m + 1) = b.take (m + 1) := by
  rw [List.take_add_one, List.take_add_one, h]
  have e1 : a[m]? = some (a.getD m 0) := by simp [List.getD, h1]
  have e2 : b[m]? = some (b.getD m 0) := by simp [List.getD, h2]
  rw [e1, e2, he]
theorem differI {a b : List Int} {m : Nat} (he : a.getD m 0 ≠ b.getD m 0) : a ≠ b := fun h => he (by rw [h])
theorem bc_drewN {B : Nat} {w w1 : World} (n : Nat) (h : Below B w w1) : Below B w (w1.drewN n) := ⟨h.os, h.tape, h.output, h.size, h.block⟩

end Go.Proofs.Ytgaahgnjmhnggaa

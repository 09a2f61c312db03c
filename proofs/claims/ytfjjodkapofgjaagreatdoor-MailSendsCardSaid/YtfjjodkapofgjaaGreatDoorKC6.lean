/- A slice of int64 as it comes in. -/
import Derived.ProofKit
import Derived.OpenShut
import Derived.ChangeMaps5
import Derived.Lib.SmallJoins
import Derived.Deep.Slices
import Derived.Deep.Fields
import Derived.Test.YtfjjodkapofgjaaGreatDoorKC5
import Derived.Test.YtfjjodkapofgjaaGreatDoorKCY
namespace Go.Proofs.YtfjjodkapofgjaaGreatDoor
open Go.ChangeShapes Go.WideShapes Go.ChangeAt Go.RowKit

section
variable {H : Type} {enc : TypeId × Value → H} {w : World} {held : Bool}

set_option maxRecDepth 10000 in
theorem open_i64s {base : Nat} {v : Value} {d : DataW H} {ps : List MemPlace} (hv : Value.okWide Tryz.prog w .any base 49 v) (h : DataW.Trod enc Tryz.prog w 0 (fun _ => true) held 49 v d ps) :
    ∃ p l lc, v = .slice p (List.length l) lc ∧ InL elL w p l lc ∧ (∀ a, p = some a → a.block < w.heap.size) := by
  obtain ⟨a, len, cap, rfl⟩ := okWide_slice Tryz.underlying49 hv
  obtain ⟨fuel, hf⟩ := h
  rcases Go.Deep.open_slice Tryz.underlying49 hf with ⟨hcs, -⟩ | ⟨a', len', cap', m, n, D, Pl, hcs, -, hl, hm, hmm, -, hi⟩
  · simp only [Value.cells, List.cons.injEq, Value.slice.injEq, and_true] at hcs
    obtain ⟨rfl, rfl, rfl⟩ := hcs
    exact ⟨none, [], 0, rfl, ⟨Els.nil _ _, fun a h => (by cases h), fun _ => rfl, Nat.le_refl _, by decide⟩, fun a ha => (by cases ha)⟩
  · simp only [Value.cells, List.cons.injEq, Value.slice.injEq, and_true] at hcs
    obtain ⟨rfl, rfl, rfl⟩ := hcs
    obtain ⟨hsp, hblk⟩ := slice_there' Tryz.underlying49 hv
    have hc4 : Tryz.prog.cellsOf 2 = 1 := by kernel_rfl
    have each : ∀ i, ∃ x : Int, i < len → w.cell? ⟨a'.block, a'.off + i, none⟩ = some (.int .i64 x) := by
      intro i
      by_cases him : i < len
      · obtain ⟨cs', hc, ht'⟩ := hi i (by rw [hmm]; simp only [if_true]; omega)
        rw [hc4, add_spot' hsp, Nat.mul_one] at hc
        obtain ⟨-, hcl, hat⟩ := World.cells?_some hc
        obtain ⟨c0, rfl⟩ : ∃ c0, cs' = [c0] := by
          match cs', hcl with
          | [c0], _ => exact ⟨_, rfl⟩
        obtain ⟨t, e0, -, w0⟩ := DataW.trod_int (k := .i64) Tryz.underlying2 ht'
        simp only [List.cons.injEq, and_true] at e0
        subst e0
        exact ⟨t, fun _ => hat 0 (by omega)⟩
      · exact ⟨0, fun h => absurd h him⟩
    obtain ⟨f, hf'⟩ := Classical.axiomOfChoice each
    refine ⟨some a', (List.range len).map f, cap, by simp, ⟨fun _ => ⟨a'.block, a'.off, ?_, fun i j hi' hj => ?_⟩, fun a h => (by cases h; exact hsp), fun h => (by cases h), by simpa using hl, Nat.le_trans hm (by decide +kernel)⟩, fun b hb => by cases hb; exact hblk⟩
    · cases a'; simp only at hsp; subst hsp; rfl
    · obtain rfl : j = 0 := by have : elL.z = 1 := rfl; omega
      have hi2 : i < len := by simpa using hi'
      rw [show elL.z = 1 from rfl, Nat.mul_one, Nat.add_zero, hf' i hi2]
      simp [elL, List.getD, hi2]
end
end Go.Proofs.YtfjjodkapofgjaaGreatDoor

/- A slice of numbers of thirty-two bits as it comes in. -/
import Derived.Lib.SmallJoins
import Derived.Test.YtapmppiiphbcpaaKEH
import Derived.Test.YtapmppiiphbcpaaKDP
import Derived.Test.YtapmppiiphbcpaaKMQ
import Derived.Test.YtapmppiiphbcpaaKPT
namespace Go.Proofs.Ytapmppiiphbcpaa
open Go.ChangeShapes Go.WideShapes Go.ChangeAt Go.RowKit

section
variable {H : Type} {enc : TypeId × Value → H} {w : World} {held : Bool}

set_option maxRecDepth 10000 in
theorem open_u32s {base : Nat} {v : Value} {d : DataW H} {ps : List MemPlace} (hv : Value.okWide Try.prog w .any base 45 v) (h : DataW.Trod enc Try.prog w 0 (fun _ => true) held 45 v d ps) :
    ∃ p l lc, v = .slice p (List.length l) lc ∧ U32L w p l ∧ (∀ a, p = some a → a.block < w.heap.size) ∧ l.length ≤ lc ∧ lc ≤ 9223372036854775807 := by
  obtain ⟨a, len, cap, rfl⟩ := okWide_slice Try.underlying45 hv
  obtain ⟨fuel, hf⟩ := h
  rcases Go.Deep.open_slice Try.underlying45 hf with ⟨hcs, -⟩ | ⟨a', len', cap', m, n, D, Pl, hcs, -, hl, hm, hmm, -, hi⟩
  · simp only [Value.cells, List.cons.injEq, Value.slice.injEq, and_true] at hcs
    obtain ⟨rfl, rfl, rfl⟩ := hcs
    exact ⟨none, [], 0, rfl, fun h => absurd rfl h, fun a ha => (by cases ha), Nat.le_refl _, by decide⟩
  · simp only [Value.cells, List.cons.injEq, Value.slice.injEq, and_true] at hcs
    obtain ⟨rfl, rfl, rfl⟩ := hcs
    obtain ⟨hsp, hblk⟩ := slice_there Try.underlying45 hv
    have hc4 : Try.prog.cellsOf 46 = 1 := by kernel_rfl
    have each : ∀ i, ∃ x : Nat, i < len → x < 4294967296 ∧ w.cell? ⟨a'.block, a'.off + i, none⟩ = some (.int .u32 x) := by
      intro i
      by_cases him : i < len
      · obtain ⟨cs', hc, ht'⟩ := hi i (by rw [hmm]; simp only [if_true]; omega)
        rw [hc4, add_spot hsp, Nat.mul_one] at hc
        obtain ⟨-, hcl, hat⟩ := World.cells?_some hc
        obtain ⟨c0, rfl⟩ : ∃ c0, cs' = [c0] := by
          match cs', hcl with
          | [c0], _ => exact ⟨_, rfl⟩
        obtain ⟨t, e0, -, w0⟩ := DataW.trod_int (k := .u32) Try.underlying46 ht'
        simp only [List.cons.injEq, and_true] at e0
        subst e0
        have hr := (Lit.wf_int_iff .u32 t).1 w0
        simp [IntKind.min, IntKind.signed, IntKind.max, IntKind.bits] at hr
        refine ⟨t.toNat, fun _ => ⟨by omega, ?_⟩⟩
        have := hat 0 (by omega)
        rw [show ((t.toNat : Nat) : Int) = t by omega]
        exact this
      · exact ⟨0, fun h => absurd h him⟩
    obtain ⟨f, hf'⟩ := Classical.axiomOfChoice each
    refine ⟨some a', (List.range len).map f, cap, by simp, fun _ => ⟨a'.block, a'.off, ?_, fun i x hx => ?_⟩, fun b hb => by cases hb; exact hblk, by simpa using hl, Nat.le_trans hm (by decide +kernel)⟩
    · cases a'; simp only at hsp; subst hsp; rfl
    · rw [List.getElem?_map] at hx
      have hlt : i < len := by
        by_cases h : i < len
        · exact h
        · rw [List.getElem?_eq_none (by simp; omega)] at hx; cases hx
      rw [List.getElem?_range hlt] at hx
      simp only [Option.map_some, Option.some.injEq] at hx
      subst hx
      exact hf' i hlt
end
end Go.Proofs.Ytapmppiiphbcpaa

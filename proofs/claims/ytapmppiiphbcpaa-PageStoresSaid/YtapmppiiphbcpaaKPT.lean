/- A slice of pages as it comes in. -/
import Derived.Test.YtapmppiiphbcpaaKPR
import Derived.Test.YtapmppiiphbcpaaKDP
namespace Go.Proofs.Ytapmppiiphbcpaa
open Go.ChangeShapes Go.WideShapes Go.ChangeAt Go.RowKit

section
variable {H : Type} {enc : TypeId × Value → H} {w : World} {held : Bool}

set_option maxRecDepth 10000 in
theorem open_pages {base : Nat} {v : Value} {d : DataW H} {ps : List MemPlace} (hv : Value.okWide Try.prog w .any base 44 v) (h : DataW.Trod enc Try.prog w 0 (fun _ => true) held 44 v d ps) :
    ∃ p l lc, v = .slice p (List.length l) lc ∧ Pages w p l ∧ (∀ a, p = some a → a.block < w.heap.size) ∧ l.length ≤ lc ∧ lc ≤ 9223372036854775807 := by
  obtain ⟨a, len, cap, rfl⟩ := okWide_slice Try.underlying44 hv
  obtain ⟨fuel, hf⟩ := h
  rcases Go.Deep.open_slice Try.underlying44 hf with ⟨hcs, -⟩ | ⟨a', len', cap', m, n, D, Pl, hcs, -, hl, hm, hmm, -, hi⟩
  · simp only [Value.cells, List.cons.injEq, Value.slice.injEq, and_true] at hcs
    obtain ⟨rfl, rfl, rfl⟩ := hcs
    exact ⟨none, [], 0, rfl, fun h => absurd rfl h, fun a ha => (by cases ha), Nat.le_refl _, by decide⟩
  · simp only [Value.cells, List.cons.injEq, Value.slice.injEq, and_true] at hcs
    obtain ⟨rfl, rfl, rfl⟩ := hcs
    obtain ⟨hsp, hblk⟩ := slice_there Try.underlying44 hv
    have hc4 : Try.prog.cellsOf 49 = 4 := by kernel_rfl
    have each : ∀ i, ∃ x : Pg, i < len → x.In ∧ w.cell? ⟨a'.block, a'.off + i * 4, none⟩ = some (.int .i64 x.kind) ∧ w.cell? ⟨a'.block, a'.off + i * 4 + 1, none⟩ = some (.int .u32 x.id)
        ∧ w.cell? ⟨a'.block, a'.off + i * 4 + 2, none⟩ = some (.int .u64 x.tx) ∧ w.cell? ⟨a'.block, a'.off + i * 4 + 3, none⟩ = some (.string ⟨x.body.toArray⟩) := by
      intro i
      by_cases him : i < len
      · obtain ⟨cs', hc, ht'⟩ := hi i (by rw [hmm]; simp only [if_true]; omega)
        rw [hc4, add_spot hsp] at hc
        obtain ⟨-, hcl, hat⟩ := World.cells?_some hc
        obtain ⟨y0, y1, y2, y3, n', -, hlen, h0, h1, h2, h3⟩ := Go.Joins.trod_struct4 Try.underlying49 ht'
        obtain ⟨c0, c1, c2, c3, rfl⟩ : ∃ c0 c1 c2 c3, cs' = [c0, c1, c2, c3] := by
          match cs', hcl with
          | [c0, c1, c2, c3], _ => exact ⟨_, _, _, _, rfl⟩
        obtain ⟨x, e0, -, w0⟩ := DataW.trod_int (k := .i64) Try.underlying3 h0
        obtain ⟨y, e1, -, w1⟩ := DataW.trod_int (k := .u32) Try.underlying46 h1
        obtain ⟨z, e2, -, w2⟩ := DataW.trod_int (k := .u64) Try.underlying47 h2
        obtain ⟨t, e3, -, w3⟩ := DataW.trod_string Try.underlying9 h3
        have ki : Try.prog.cellsOf 3 = 1 := by kernel_rfl
        have k32 : Try.prog.cellsOf 46 = 1 := by kernel_rfl
        have k64 : Try.prog.cellsOf 47 = 1 := by kernel_rfl
        have ks : Try.prog.cellsOf 9 = 1 := by kernel_rfl
        simp [ki] at e0
        simp [k32] at e1
        simp [k64] at e2
        simp [ks] at e3
        subst e0 e1 e2 e3
        have hof := pg_of x y z t w1 w2
        have hxi := pg_in x y z t w0 w1 w2 w3
        simp only [Pg.v, Value.agg.injEq] at hof
        simp only [Array.mk.injEq, List.cons.injEq, Value.int.injEq, true_and, and_true] at hof
        obtain ⟨q1, q2⟩ := hof
        refine ⟨⟨x, y.toNat, z.toNat, t.data.toList⟩, fun _ => ⟨hxi, ?_, ?_, ?_, ?_⟩⟩
        · exact hat 0 (by omega)
        · show w.cell? _ = some (Value.int .u32 ((y.toNat : Nat) : Int))
          rw [← q1]; exact hat 1 (by omega)
        · show w.cell? _ = some (Value.int .u64 ((z.toNat : Nat) : Int))
          rw [← q2]; exact hat 2 (by omega)
        · exact hat 3 (by omega)
      · exact ⟨Pg.zero, fun h => absurd h him⟩
    obtain ⟨f, hf'⟩ := Classical.axiomOfChoice each
    refine ⟨some a', (List.range len).map f, cap, by simp, fun _ => ⟨a'.block, a'.off, ?_, fun i x hx => ?_⟩, fun b hb => by cases hb; exact hblk, by simpa using hl, Nat.le_trans hm (by decide +kernel)⟩
    · cases a'; simp only at hsp; subst hsp; rfl
    · rw [List.getElem?_map] at hx
      have hlt : i < len := by
        by_cases h : i < len
        · exact h
        · rw [List.getElem?_eq_none (by simp; omega)] at hx; cases hx
      rw [List.getElem?_range hlt] at hx
      simp only [Option.map_some, Option.some.injEq] at hx
      subst hx
      exact hf' i hlt
end
end Go.Proofs.Ytapmppiiphbcpaa

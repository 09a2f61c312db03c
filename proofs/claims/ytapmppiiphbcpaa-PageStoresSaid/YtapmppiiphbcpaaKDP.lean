/- Arguments opened: lists of acts, lists of numbers. -/
import Derived.ProofKit
import Derived.OpenShut
import Derived.ChangeMaps5
import Derived.Lib.SmallJoins
import Derived.Deep.Slices
import Derived.Deep.Fields
import Derived.Test.YtapmppiiphbcpaaKD8
namespace Go.Proofs.Ytapmppiiphbcpaa
open Go.ChangeShapes Go.WideShapes Go.ChangeAt Go.RowKit

theorem slice_there {P : Program} {w : World} {base : Nat} {t e : TypeId} (ht : P.underlying t = some (.slice e)) {a : Addr} {len cap : Nat} (hv : Value.okWide P w .any base t (.slice (some a) len cap)) : a.spot = none ∧ a.block < w.heap.size := by
  simp only [Value.okWide, Cell.okWide, ht, Cell.ok] at hv
  obtain ⟨-, -, -, hs, row, cells, hsh, -⟩ := hv
  refine ⟨hs, ?_⟩
  cases hb : w.heap[a.block]? with
  | none => simp [World.shape?, hb] at hsh
  | some o => exact (Array.getElem?_eq_some_iff.1 hb).1

theorem add_spot {a : Addr} (h : a.spot = none) (n : Nat) : a.add n = ⟨a.block, a.off + n, none⟩ := by
  cases a with
  | mk b o sp =>
    simp only at h
    subst h
    unfold Addr.add
    split
    · rename_i hn; subst hn; rfl
    · rfl

section
variable {H : Type} {enc : TypeId × Value → H} {w : World} {held : Bool}

set_option maxRecDepth 10000 in
theorem open_acts {base : Nat} {v : Value} {d : DataW H} {ps : List MemPlace} (hv : Value.okWide Try.prog w .any base 22 v) (h : DataW.Trod enc Try.prog w 0 (fun _ => true) held 22 v d ps) :
    ∃ p l lc, v = .slice p (List.length l) lc ∧ Acts w p l ∧ (∀ a, p = some a → a.block < w.heap.size) ∧ l.length ≤ lc ∧ lc ≤ 9223372036854775807 := by
  obtain ⟨a, len, cap, rfl⟩ := okWide_slice Try.underlying22 hv
  obtain ⟨fuel, hf⟩ := h
  rcases Go.Deep.open_slice Try.underlying22 hf with ⟨hcs, -⟩ | ⟨a', len', cap', m, n, D, Pl, hcs, -, hl, hm, hmm, -, hi⟩
  · simp only [Value.cells, List.cons.injEq, Value.slice.injEq, and_true] at hcs
    obtain ⟨rfl, rfl, rfl⟩ := hcs
    exact ⟨none, [], 0, rfl, fun h => absurd rfl h, fun a ha => (by cases ha), Nat.le_refl _, by decide⟩
  · simp only [Value.cells, List.cons.injEq, Value.slice.injEq, and_true] at hcs
    obtain ⟨rfl, rfl, rfl⟩ := hcs
    obtain ⟨hsp, hblk⟩ := slice_there Try.underlying22 hv
    have hc4 : Try.prog.cellsOf 34 = 4 := by kernel_rfl
    have each : ∀ i, ∃ x : A, i < len → x.s.size ≤ 9223372036854775807 ∧ w.cell? ⟨a'.block, a'.off + i * 4, none⟩ = some (.int .i64 x.act) ∧ w.cell? ⟨a'.block, a'.off + i * 4 + 1, none⟩ = some (.int .i64 x.sec)
        ∧ w.cell? ⟨a'.block, a'.off + i * 4 + 2, none⟩ = some (.string x.s) ∧ w.cell? ⟨a'.block, a'.off + i * 4 + 3, none⟩ = some (.slice x.kp x.kn x.kc) := by
      intro i
      by_cases him : i < len
      · obtain ⟨cs', hc, ht'⟩ := hi i (by rw [hmm]; simp only [if_true]; omega)
        rw [hc4, add_spot hsp] at hc
        obtain ⟨-, hcl, hat⟩ := World.cells?_some hc
        obtain ⟨y0, y1, y2, y3, n', -, hlen, h0, h1, h2, h3⟩ := Go.Joins.trod_struct4 Try.underlying34 ht'
        obtain ⟨c0, c1, c2, c3, rfl⟩ : ∃ c0 c1 c2 c3, cs' = [c0, c1, c2, c3] := by
          match cs', hcl with
          | [c0, c1, c2, c3], _ => exact ⟨_, _, _, _, rfl⟩
        obtain ⟨x, e0, -, -⟩ := DataW.trod_int (k := .i64) Try.underlying3 h0
        obtain ⟨y, e1, -, -⟩ := DataW.trod_int (k := .i64) Try.underlying3 h1
        obtain ⟨t, e2, -, wt⟩ := DataW.trod_string Try.underlying9 h2
        obtain ⟨a, l, c, e3⟩ := Go.Joins.slice_form Try.underlying32 h3
        have k3 : Try.prog.cellsOf 3 = 1 := by kernel_rfl
        have k9 : Try.prog.cellsOf 9 = 1 := by kernel_rfl
        have k32 : Try.prog.cellsOf 32 = 1 := by kernel_rfl
        simp [k3] at e0 e1
        simp [k9] at e2
        simp [k32] at e3
        subst e0 e1 e2 e3
        refine ⟨⟨x, y, t, a, l, c⟩, fun _ => ⟨Nat.le_trans wt (by decide +kernel), hat 0 (by omega), ?_, ?_, ?_⟩⟩
        · exact hat 1 (by omega)
        · exact hat 2 (by omega)
        · exact hat 3 (by omega)
      · exact ⟨⟨0, 0, ⟨#[]⟩, none, 0, 0⟩, fun h => absurd h him⟩
    obtain ⟨f, hf'⟩ := Classical.axiomOfChoice each
    refine ⟨some a', (List.range len).map f, cap, by simp, fun _ => ⟨a'.block, a'.off, ?_, fun i x hx => ?_⟩, fun b hb => by cases hb; exact hblk, by simpa using hl, Nat.le_trans hm (by decide +kernel)⟩
    · cases a'; simp only at hsp; subst hsp; rfl
    · rw [List.getElem?_map] at hx
      have hlt : i < len := by
        by_cases h : i < len
        · exact h
        · rw [List.getElem?_eq_none (by simp; omega)] at hx; cases hx
      rw [List.getElem?_range hlt] at hx
      simp only [Option.map_some, Option.some.injEq] at hx
      subst hx
      exact hf' i hlt

set_option maxRecDepth 10000 in
theorem open_nums {base : Nat} {v : Value} {d : DataW H} {ps : List MemPlace} (hv : Value.okWide Try.prog w .any base 32 v) (h : DataW.Trod enc Try.prog w 0 (fun _ => true) held 32 v d ps) :
    ∃ p l lc, v = .slice p (List.length l) lc ∧ Ints w p l ∧ (∀ a, p = some a → a.block < w.heap.size) ∧ l.length ≤ lc ∧ lc ≤ 9223372036854775807 := by
  obtain ⟨fuel, hf⟩ := h
  rcases open_ints Try.underlying32 Try.underlying3 (by kernel_rfl) hf with ⟨hcs, -⟩ | ⟨a, len, cap, zs, hcs, -, hl, hm, hz, -, hc, -⟩
  · obtain ⟨a, len, cap, rfl⟩ := okWide_slice Try.underlying32 hv
    simp only [Value.cells, List.cons.injEq, Value.slice.injEq, and_true] at hcs
    obtain ⟨rfl, rfl, rfl⟩ := hcs
    exact ⟨none, [], 0, rfl, fun h => absurd rfl h, fun a ha => (by cases ha), Nat.le_refl _, by decide⟩
  · obtain ⟨a', len', cap', rfl⟩ := okWide_slice Try.underlying32 hv
    simp only [Value.cells, List.cons.injEq, Value.slice.injEq, and_true] at hcs
    obtain ⟨rfl, rfl, rfl⟩ := hcs
    obtain ⟨hsp, hblk⟩ := slice_there Try.underlying32 hv
    simp only [if_true] at hz
    have hlen : (zs.take len').length = len' := by rw [List.length_take]; omega
    refine ⟨some a, zs.take len', cap', by rw [hlen], fun _ => ⟨a.block, a.off, ?_, fun i hi => ?_⟩, fun b hb => by cases hb; exact hblk, by rw [hlen]; exact hl, Nat.le_trans hm (by decide +kernel)⟩
    · cases a; simp only at hsp; subst hsp; rfl
    · have := hc i (by rw [hlen] at hi; omega)
      rw [add_spot hsp] at this
      rw [this, hlen] at *
      simp only [List.getD, List.getElem?_take]
      rw [if_pos hi]
end
end Go.Proofs.Ytapmppiiphbcpaa

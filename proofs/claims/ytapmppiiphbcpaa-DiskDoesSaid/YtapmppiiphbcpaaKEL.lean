/- Acts as they come in, each with its list of numbers. -/
import Derived.Test.YtapmppiiphbcpaaKEK
import Derived.Test.YtapmppiiphbcpaaKDP
namespace Go.Proofs.Ytapmppiiphbcpaa
open Go.ChangeShapes Go.WideShapes Go.ChangeAt Go.RowKit

section
variable {H : Type} {enc : TypeId × Value → H} {w : World} {held : Bool}

set_option maxRecDepth 10000 in
/-- A list of numbers within. -/
theorem ints_in {fuel : Nat} {cs : List Value} {y : DataW H × List MemPlace} (hf : DataW.trod enc Try.prog w 0 (fun _ => true) held fuel 32 cs = some y) : ∃ a l c, cs = [.slice a l c] ∧ ∃ zs : List Int, zs.length = l ∧ Ints w a zs ∧ l ≤ c ∧ c ≤ 9223372036854775807 ∧ (zs ≠ [] → ∀ b : Addr, a = some b → b.block < w.heap.size) := by
  rcases open_ints Try.underlying32 Try.underlying3 (by kernel_rfl) hf with ⟨rfl, -⟩ | ⟨a, len, cap, zs, rfl, -, hl, hm, hz, -, hc, -⟩
  · exact ⟨none, 0, 0, rfl, [], rfl, fun h => absurd rfl h, Nat.le_refl _, by decide, fun h => absurd rfl h⟩
  · simp only [if_true] at hz
    have hlen : (zs.take len).length = len := by rw [List.length_take]; omega
    have h0 : zs.take len ≠ [] → 0 < zs.length := fun h => by
      rcases Nat.eq_zero_or_pos zs.length with h1 | h1
      · exact absurd (by rw [List.eq_nil_of_length_eq_zero h1]; simp) h
      · exact h1
    have hfirst : zs.take len ≠ [] → a.block < w.heap.size ∧ a.spot = none := fun h => by
      have h1 := hc 0 (h0 h)
      have e : a.add 0 = a := by unfold Addr.add; rw [if_pos rfl]
      rw [e] at h1
      refine ⟨World.block_lt_of_cell? w _ h1, ?_⟩
      cases hsp : a.spot with
      | none => rfl
      | some x =>
        simp only [World.cell?] at h1
        split at h1
        · simp [hsp] at h1
        · cases h1
    refine ⟨some a, len, cap, rfl, zs.take len, hlen, fun hne => ?_, hl, Nat.le_trans hm (by decide +kernel), fun hne b hb => by cases hb; exact (hfirst hne).1⟩
    have hsp := (hfirst hne).2
    refine ⟨a.block, a.off, ?_, fun i hi => ?_⟩
    · cases a; simp only at hsp; subst hsp; rfl
    · have := hc i (by rw [hlen] at hi; omega)
      rw [add_spot hsp] at this
      rw [this]
      simp only [List.getD, List.getElem?_take]
      rw [if_pos (by rw [hlen] at hi; exact hi)]

set_option maxRecDepth 10000 in
theorem open_actsK {base : Nat} {v : Value} {d : DataW H} {ps : List MemPlace} (hv : Value.okWide Try.prog w .any base 22 v) (h : DataW.Trod enc Try.prog w 0 (fun _ => true) held 22 v d ps) :
    ∃ p l lc, v = .slice p (List.length l) lc ∧ Acts w p l ∧ (∀ a, p = some a → a.block < w.heap.size) ∧ l.length ≤ lc ∧ lc ≤ 9223372036854775807 ∧ ActsK w l := by
  obtain ⟨a, len, cap, rfl⟩ := okWide_slice Try.underlying22 hv
  obtain ⟨fuel, hf⟩ := h
  rcases Go.Deep.open_slice Try.underlying22 hf with ⟨hcs, -⟩ | ⟨a', len', cap', m, n, D, Pl, hcs, -, hl, hm, hmm, -, hi⟩
  · simp only [Value.cells, List.cons.injEq, Value.slice.injEq, and_true] at hcs
    obtain ⟨rfl, rfl, rfl⟩ := hcs
    exact ⟨none, [], 0, rfl, fun h => absurd rfl h, fun a ha => (by cases ha), Nat.le_refl _, by decide, fun i x hx => by simp at hx⟩
  · simp only [Value.cells, List.cons.injEq, Value.slice.injEq, and_true] at hcs
    obtain ⟨rfl, rfl, rfl⟩ := hcs
    obtain ⟨hsp, hblk⟩ := slice_there Try.underlying22 hv
    have hc4 : Try.prog.cellsOf 34 = 4 := by kernel_rfl
    have each : ∀ i, ∃ x : A, i < len → x.s.size ≤ 9223372036854775807 ∧ w.cell? ⟨a'.block, a'.off + i * 4, none⟩ = some (.int .i64 x.act) ∧ w.cell? ⟨a'.block, a'.off + i * 4 + 1, none⟩ = some (.int .i64 x.sec)
        ∧ w.cell? ⟨a'.block, a'.off + i * 4 + 2, none⟩ = some (.string x.s) ∧ w.cell? ⟨a'.block, a'.off + i * 4 + 3, none⟩ = some (.slice x.kp x.kn x.kc)
        ∧ ∃ zs : List Int, zs.length = x.kn ∧ Ints w x.kp zs ∧ x.kn ≤ x.kc ∧ x.kc ≤ 9223372036854775807 ∧ (zs ≠ [] → ∀ a : Addr, x.kp = some a → a.block < w.heap.size) := by
      intro i
      by_cases him : i < len
      · obtain ⟨cs', hc, ht'⟩ := hi i (by rw [hmm]; simp only [if_true]; omega)
        rw [hc4, add_spot hsp] at hc
        obtain ⟨-, hcl, hat⟩ := World.cells?_some hc
        obtain ⟨y0, y1, y2, y3, n', -, hlen, h0, h1, h2, h3⟩ := Go.Joins.trod_struct4 Try.underlying34 ht'
        obtain ⟨c0, c1, c2, c3, rfl⟩ : ∃ c0 c1 c2 c3, cs' = [c0, c1, c2, c3] := by
          match cs', hcl with
          | [c0, c1, c2, c3], _ => exact ⟨_, _, _, _, rfl⟩
        obtain ⟨x, e0, -, -⟩ := DataW.trod_int (k := .i64) Try.underlying3 h0
        obtain ⟨y, e1, -, -⟩ := DataW.trod_int (k := .i64) Try.underlying3 h1
        obtain ⟨t, e2, -, wt⟩ := DataW.trod_string Try.underlying9 h2
        obtain ⟨a, l, c, e3, hks⟩ := ints_in h3
        have k3 : Try.prog.cellsOf 3 = 1 := by kernel_rfl
        have k9 : Try.prog.cellsOf 9 = 1 := by kernel_rfl
        have k32 : Try.prog.cellsOf 32 = 1 := by kernel_rfl
        simp [k3] at e0 e1
        simp [k9] at e2
        simp [k32] at e3
        subst e0 e1 e2 e3
        refine ⟨⟨x, y, t, a, l, c⟩, fun _ => ⟨Nat.le_trans wt (by decide +kernel), hat 0 (by omega), ?_, ?_, ?_, hks⟩⟩
        · exact hat 1 (by omega)
        · exact hat 2 (by omega)
        · exact hat 3 (by omega)
      · exact ⟨⟨0, 0, ⟨#[]⟩, none, 0, 0⟩, fun h => absurd h him⟩
    obtain ⟨f, hf'⟩ := Classical.axiomOfChoice each
    refine ⟨some a', (List.range len).map f, cap, by simp, fun _ => ⟨a'.block, a'.off, ?_, fun i x hx => ?_⟩, fun b hb => by cases hb; exact hblk, by simpa using hl, Nat.le_trans hm (by decide +kernel), fun i x hx => ?_⟩
    · cases a'; simp only at hsp; subst hsp; rfl
    · rw [List.getElem?_map] at hx
      have hlt : i < len := by
        by_cases h : i < len
        · exact h
        · rw [List.getElem?_eq_none (by simp; omega)] at hx; cases hx
      rw [List.getElem?_range hlt] at hx
      simp only [Option.map_some, Option.some.injEq] at hx
      subst hx
      obtain ⟨k0, k1, k2, k3, k4, -⟩ := hf' i hlt
      exact ⟨k0, k1, k2, k3, k4⟩
    · rw [List.getElem?_map] at hx
      have hlt : i < len := by
        by_cases h : i < len
        · exact h
        · rw [List.getElem?_eq_none (by simp; omega)] at hx; cases hx
      rw [List.getElem?_range hlt] at hx
      simp only [Option.map_some, Option.some.injEq] at hx
      subst hx
      exact (hf' i hlt).2.2.2.2.2
end
end Go.Proofs.Ytapmppiiphbcpaa

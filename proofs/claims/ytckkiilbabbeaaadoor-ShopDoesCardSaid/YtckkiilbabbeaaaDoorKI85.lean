/- What comes in: goods, a stack. -/
import Derived.Test.YtckkiilbabbeaaaDoorKI81
import Derived.Test.YtckkiilbabbeaaaDoorKCY
namespace Go.Proofs.YtckkiilbabbeaaaDoor
open Go.ChangeShapes Go.WideShapes Go.ChangeAt Go.RowKit

theorem st_of (y z : Int) (hy : (Lit.int IntKind.u16 y).wf = true) (_ : (Lit.int IntKind.i64 z).wf = true) : Value.agg #[.int .u16 y, .int .i64 z] = (⟨y.toNat, z⟩ : St).v := by
  unfold St.v
  rw [(wf_u16 hy).2]
section
variable {H : Type} {enc : TypeId × Value → H} {w : World} {held : Bool}

set_option maxRecDepth 10000 in
theorem open_stacks {base : Nat} {v : Value} {d : DataW H} {ps : List MemPlace} (hv : Value.okWide Tryd.prog w .any base 38 v) (h : DataW.Trod enc Tryd.prog w 0 (fun _ => true) held 38 v d ps) :
    ∃ p l lc, v = .slice p (List.length l) lc ∧ InL elS w p l lc ∧ (∀ a, p = some a → a.block < w.heap.size) ∧ (∀ s ∈ l, s.item < 65536) := by
  obtain ⟨a, len, cap, rfl⟩ := okWide_slice Tryd.underlying38 hv
  obtain ⟨fuel, hf⟩ := h
  rcases Go.Deep.open_slice Tryd.underlying38 hf with ⟨hcs, -⟩ | ⟨a', len', cap', m, n, D, Pl, hcs, -, hl, hm, hmm, -, hi⟩
  · simp only [Value.cells, List.cons.injEq, Value.slice.injEq, and_true] at hcs
    obtain ⟨rfl, rfl, rfl⟩ := hcs
    exact ⟨none, [], 0, rfl, ⟨Els.nil _ _, fun a h => (by cases h), fun _ => rfl, Nat.le_refl _, by decide⟩, fun a ha => (by cases ha), fun s hs => (by cases hs)⟩
  · simp only [Value.cells, List.cons.injEq, Value.slice.injEq, and_true] at hcs
    obtain ⟨rfl, rfl, rfl⟩ := hcs
    obtain ⟨hsp, hblk⟩ := slice_there' Tryd.underlying38 hv
    have hc4 : Tryd.prog.cellsOf 25 = 2 := by kernel_rfl
    have each : ∀ i, ∃ x : St, i < len → x.item < 65536 ∧ w.cell? ⟨a'.block, a'.off + i * 2, none⟩ = some (.int .u16 x.item) ∧ w.cell? ⟨a'.block, a'.off + i * 2 + 1, none⟩ = some (.int .i64 x.n) := by
      intro i
      by_cases him : i < len
      · obtain ⟨cs', hc, ht'⟩ := hi i (by rw [hmm]; simp only [if_true]; omega)
        rw [hc4, add_spot' hsp] at hc
        obtain ⟨-, hcl, hat⟩ := World.cells?_some hc
        obtain ⟨y0, y1, n', -, hlen, h0, h1⟩ := trod_struct2 Tryd.underlying25 ht'
        obtain ⟨c0, c1, rfl⟩ : ∃ c0 c1, cs' = [c0, c1] := by
          match cs', hcl with
          | [c0, c1], _ => exact ⟨_, _, rfl⟩
        obtain ⟨x, e0, -, w0⟩ := DataW.trod_int (k := .u16) Tryd.underlying23 h0
        obtain ⟨y, e1, -, w1⟩ := DataW.trod_int (k := .i64) Tryd.underlying2 h1
        have k64 : Tryd.prog.cellsOf 2 = 1 := by kernel_rfl
        have k16 : Tryd.prog.cellsOf 23 = 1 := by kernel_rfl
        simp [k64] at e1
        simp [k16] at e0
        subst e0 e1
        refine ⟨⟨x.toNat, y⟩, fun _ => ⟨(wf_u16 w0).1, ?_, hat 1 (by omega)⟩⟩
        show w.cell? _ = some (Value.int .u16 ((x.toNat : Nat) : Int))
        rw [(wf_u16 w0).2]; exact hat 0 (by omega)
      · exact ⟨St.zero, fun h => absurd h him⟩
    obtain ⟨f, hf'⟩ := Classical.axiomOfChoice each
    refine ⟨some a', (List.range len).map f, cap, by simp, ⟨fun _ => ⟨a'.block, a'.off, ?_, fun i j hi' hj => ?_⟩, fun a h => (by cases h; exact hsp), fun h => (by cases h), by simpa using hl, Nat.le_trans hm (by decide +kernel)⟩, fun b hb => by cases hb; exact hblk, fun s hs => ?_⟩
    · cases a'; simp only at hsp; subst hsp; rfl
    · have hi2 : i < len := by simpa using hi'
      have hg : ((List.range len).map f).getD i elS.d = f i := by simp [List.getD, hi2]
      rw [hg]
      have hz2 : elS.z = 2 := rfl
      have hj2 : j < 2 := by omega
      rw [hz2]
      have e0 : j = 0 ∨ j = 1 := by omega
      rcases e0 with rfl | rfl
      · exact (hf' i hi2).2.1
      · exact (hf' i hi2).2.2
    · obtain ⟨i, hir, rfl⟩ := List.mem_map.1 hs
      exact (hf' i (List.mem_range.1 hir)).1
end
end Go.Proofs.YtckkiilbabbeaaaDoor

/- The walks of slices.Grow (of nothing), slices.Concat, for each kind of elements. -/
import Derived.Lib.AppendZerosOnto
import Derived.Lib.SliceRun
import Derived.Test.YtckkiilbabbeaaaDoorKO1
namespace Go.Proofs.YtckkiilbabbeaaaDoor
open Go Go.RowKit Sm
attribute [local go_sem] Oper.semAt_some

/-- A part of what is put together: where it lies, its room, what it is. -/
structure Pt (α : Type) where
  p : Option Addr
  c : Nat
  l : List α
def Pt.v {α : Type} (x : Pt α) : Value := .slice x.p x.l.length x.c
def Pt.none {α : Type} : Pt α := ⟨Option.none, 0, []⟩
def sumL {α : Type} (P : List (Pt α)) : Nat := (P.map fun x => x.l.length).sum
def allL {α : Type} (P : List (Pt α)) : List α := P.flatMap (·.l)
theorem pt_take {α : Type} (P : List (Pt α)) (k : Nat) (h : k < P.length) : P.take (k + 1) = P.take k ++ [P.getD k Pt.none] := by
  rw [List.take_add_one]; simp [List.getD, h]
theorem sumL_take {α : Type} (P : List (Pt α)) (k : Nat) (h : k < P.length) : sumL (P.take (k + 1)) = sumL (P.take k) + (P.getD k Pt.none).l.length := by
  rw [pt_take P k h]; simp [sumL]
theorem allL_take {α : Type} (P : List (Pt α)) (k : Nat) (h : k < P.length) : allL (P.take (k + 1)) = allL (P.take k) ++ (P.getD k Pt.none).l := by
  rw [pt_take P k h]; simp [allL]
theorem allL_len {α : Type} (P : List (Pt α)) : (allL P).length = sumL P := by
  induction P with
  | nil => rfl
  | cons x r ih => simp only [allL, sumL, List.flatMap_cons, List.length_append, List.map_cons, List.sum_cons] at ih ⊢; omega
theorem sumL_le {α : Type} (P : List (Pt α)) (k : Nat) : sumL (P.take k) ≤ sumL P := by
  have e : sumL P = sumL (P.take k) + sumL (P.drop k) := by
    unfold sumL
    rw [← List.sum_append, ← List.map_append, List.take_append_drop]
  omega
theorem pt_cell {α : Type} {w : World} {g : Nat} {P : List (Pt α)} {t : TypeId} (h : w.heap[g]? = some (.cells (P.map Pt.v).toArray t (0, 0))) (k : Nat) (hk : k < P.length) : w.cell? ⟨g, k, Option.none⟩ = some (.slice (P.getD k Pt.none).p (P.getD k Pt.none).l.length (P.getD k Pt.none).c) := by
  rw [cell_whole h k, List.getElem?_map, List.getElem?_eq_getElem hk]
  simp [List.getD, hk, Pt.v]
theorem info_of {t : TypeId} {z : Value} {s b : Nat} (h : (Tryd.prog.info? t).map (fun i => (i.zero, i.size, i.bytes)) = some (some z, s, b)) : ∃ i, Tryd.prog.info? t = some i ∧ i.zero = some z ∧ i.size = s ∧ i.bytes = b := by
  cases hq : Tryd.prog.info? t with
  | none => rw [hq] at h; cases h
  | some i => rw [hq] at h; simp at h; exact ⟨i, rfl, h.1, h.2.1, h.2.2⟩
theorem grow_run {α : Type} (E : El α) (n : Nat) (h0 : 0 < n) (hn : n ≤ 1000000) (w : World) : ∀ ty, (Builtin.append_ #[E.sl, 3] ty #[.slice none 0 0, .int .i64 (n : Int)]).run Tryd.prog w =
    .ok (.slice (some ⟨w.heap.size, 0, Option.none⟩) n (grownCap w n 0 E.ty)) (w.drew.alloc (.cells (#[] ++ Builtin.zeroCells E.zero.cells n ++ Builtin.zeroCells E.zero.cells (grownCap w n 0 E.ty - n)) E.ty)) := fun ty => by
  obtain ⟨i0, hi, hz0, hz1, hz2⟩ := info_of E.info
  have hfew := E.few
  have hb : n * i0.bytes ≤ 1000000 * 64 := by rw [hz2]; exact Nat.mul_le_mul hn hfew
  have hpos : 0 < i0.size := by rw [hz1]; exact E.pos
  have h := Lib.run_append_grow_zeros w E.sl 3 ty E.ty i0 E.zero .i64 .i64 E.under Tryd.underlying3 hi hz0 none 0 0 [] (run_firstCells_none w.drew i0.size 0 0 0) n h0 hpos (by omega) (by omega) (by omega) (by rw [Nat.zero_add, nextslicecap_zero h0]; omega)
  simpa using h
theorem grow_own {α : Type} (E : El α) (n : Nat) (hn : n ≤ 1000000) (w : World) : OwnE E (w.drew.alloc (.cells (#[] ++ Builtin.zeroCells E.zero.cells n ++ Builtin.zeroCells E.zero.cells (grownCap w n 0 E.ty - n)) E.ty)) w.heap.size (.slice (some ⟨w.heap.size, 0, Option.none⟩) 0 (grownCap w n 0 E.ty)) [] := by
  have hge := grownCap_ge w n 0 E.ty
  have hcm : grownCap w n 0 E.ty ≤ maxLen := grownCap_le_maxLen w n 0 E.ty (by unfold maxLen; omega)
  refine ⟨by simp [elCells], .inr ⟨w.heap.size, grownCap w n 0 E.ty, _, rfl, Nat.le_refl _, heap_alloc_new w.drew _, Nat.zero_le _, hcm, ?_, by simp [elCells]⟩⟩
  simp only [Array.size_append, size_zeroCells, E.zlen, Array.size_empty, Nat.zero_add, ← Nat.add_mul]
  congr 1
  omega

end Go.Proofs.YtckkiilbabbeaaaDoor

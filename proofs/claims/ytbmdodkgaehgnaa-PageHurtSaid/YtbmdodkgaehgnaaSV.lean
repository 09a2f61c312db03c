/- The law on changed bytes: SumFinds. -/
import Derived.Test.YtbmdodkgaehgnaaSU
import Derived.Laws.IdiomStrings
import Derived.DataShut
namespace Go.Proofs.Ytbmdodkgaehgnaa.Sm
open Go Go.RowKit
attribute [local go_sem] Oper.semAt_some

/-- A text's bytes, in a new row. -/
theorem bytes_of (u : List UInt8) (w : World) : ∃ cap W, (convert 9 32 (.string ⟨u.toArray⟩)).run Try.prog w = .ok (.slice (some ⟨w.heap.size, 0, none⟩) u.length cap) W ∧ Below w.heap.size w W ∧ ∀ i, i < u.length → W.cell? ⟨w.heap.size, i, none⟩ = some (.int .u8 (u.getD i 0).toNat) ∧ W.frozen? ⟨w.heap.size, i, none⟩ = false := by
  refine ⟨_, _, run_bytes_of_string (P := Try.prog) w 9 32 5 ⟨u.toArray⟩ Try.underlying9 Try.underlying32 Try.underlying5, below_al (Below.refl _ w).drew _, fun i hi => ⟨?_, ?_⟩⟩
  · have := World.cell?_alloc_mark w.drew (bytesRow ⟨u.toArray⟩ (grownCap w (⟨u.toArray⟩ : ByteArray).size 0 5)) 5 ((bytesRow ⟨u.toArray⟩ (grownCap w (⟨u.toArray⟩ : ByteArray).size 0 5)).size, (bytesRow ⟨u.toArray⟩ (grownCap w (⟨u.toArray⟩ : ByteArray).size 0 5)).size + 1) i
    rw [bytesRow_at _ _ _ (by simpa using hi)] at this
    have e : (⟨u.toArray⟩ : ByteArray).data[i]'(by simpa using hi) = u.getD i 0 := by simp [List.getD, hi]
    rw [e] at this
    exact this
  · have := World.frozen?_alloc_mark w.drew (bytesRow ⟨u.toArray⟩ (grownCap w (⟨u.toArray⟩ : ByteArray).size 0 5)) 5 (bytesRow ⟨u.toArray⟩ (grownCap w (⟨u.toArray⟩ : ByteArray).size 0 5)).size ((bytesRow ⟨u.toArray⟩ (grownCap w (⟨u.toArray⟩ : ByteArray).size 0 5)).size + 1) i
    have hlt : i < (bytesRow ⟨u.toArray⟩ (grownCap w (⟨u.toArray⟩ : ByteArray).size 0 5)).size := by
      have := bytesRow_at ⟨u.toArray⟩ (grownCap w (⟨u.toArray⟩ : ByteArray).size 0 5) i (by simpa using hi)
      exact (Array.getElem?_eq_some_iff.1 this).1
    rw [show decide ((bytesRow ⟨u.toArray⟩ (grownCap w (⟨u.toArray⟩ : ByteArray).size 0 5)).size ≤ i) = false from decide_eq_false (by omega)] at this
    exact this

theorem lo8 {n : Int} (h : (Lit.int IntKind.u8 n).wf = true) : 0 ≤ n := by
  have := (Lit.wf_int_iff .u8 n).1 h
  simp [IntKind.min, IntKind.signed, IntKind.max, IntKind.bits] at this
  omega
theorem hi8 {n : Int} (h : (Lit.int IntKind.u8 n).wf = true) : n < 256 := by
  have := (Lit.wf_int_iff .u8 n).1 h
  simp [IntKind.min, IntKind.signed, IntKind.max, IntKind.bits] at this
  omega
theorem conv_set (u : List UInt8) (k : Nat) (c : UInt8) (cap B : Nat) (W : World) (hcc : ∀ i, i < u.length → W.cell? ⟨B, i, none⟩ = some (.int .u8 (u.getD i 0).toNat) ∧ W.frozen? ⟨B, i, none⟩ = false) :
    (convert 32 9 (.slice (some ⟨B, 0, none⟩) u.length cap)).run Try.prog (W.setCell ⟨B, k, none⟩ (.int .u8 c.toNat)) = .ok (.string ⟨(u.set k c).toArray⟩) (W.setCell ⟨B, k, none⟩ (.int .u8 c.toNat)) := by
  have := run_convert_u8s (P := Try.prog) (W.setCell ⟨B, k, none⟩ (.int .u8 c.toNat)) 32 9 5 Try.underlying32 Try.underlying5 Try.underlying9 B 0 cap (u.set k c) (fun j v hj => by
    simp only [u8s, List.getElem?_map, List.getElem?_set] at hj
    rw [Nat.zero_add]
    by_cases hjk : k = j
    · subst hjk
      by_cases hl : k < u.length
      · simp [hl] at hj
        subst hj
        rw [World.cell?_setCell_same _ _ _ (hcc k hl).1]
        rfl
      · simp [hl] at hj
    · rw [World.cell?_setCell_other _ _ _ _ (fun e => hjk (congrArg Addr.off e))]
      simp only [hjk, if_false] at hj
      have hl : j < u.length := by
        rcases Nat.lt_or_ge j u.length with h | h
        · exact h
        · rw [List.getElem?_eq_none h] at hj; cases hj
      rw [(hcc j hl).1]
      simp [hl] at hj
      subst hj
      simp [u8v, List.getD, hl])
  rwa [List.length_set] at this

end Go.Proofs.Ytbmdodkgaehgnaa.Sm

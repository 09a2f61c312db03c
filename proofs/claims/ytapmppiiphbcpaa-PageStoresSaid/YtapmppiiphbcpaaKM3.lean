/- The walk of Encode of a meta. -/
import Derived.BigQuiet
import Derived.Test.YtapmppiiphbcpaaKP5
namespace Go.Proofs.Ytapmppiiphbcpaa
open Go Go.RowKit Sm
attribute [local go_sem] Oper.semAt_some

theorem blw_then {w w1 w2 : World} (h : Below w.heap.size w w1) (k : Below w1.heap.size w1 w2) : Below w.heap.size w w2 := h.trans (k.mono h.size)
theorem blw_drewN {w w1 : World} (n : Nat) (h : Below w.heap.size w w1) : Below w.heap.size w (w1.drewN n) := ⟨h.os, h.tape, h.output, h.size, h.block⟩
theorem rep_zeros (n : Nat) (hn : n ≤ 1000) (w : World) : Calls Try.prog 79 #[.string ⟨#[0]⟩, .int .i64 (n : Int)] w fun e w' => e = .returned (.string ⟨(List.replicate n 0).toArray⟩) ∧ Below w.heap.size w w' := by
  have h := Try.strings_Repeat ⟨#[0]⟩ n w (by omega) (by simp [ByteArray.size]; omega)
  have e : Lib.repeatL ([0] : List UInt8) n = List.replicate n 0 := by
    have := Lib.repeatL_replicate 0 1 n
    simpa using this
  rw [show (⟨#[0]⟩ : ByteArray).data.toList = [0] from rfl, e] at h
  exact h

end Go.Proofs.Ytapmppiiphbcpaa

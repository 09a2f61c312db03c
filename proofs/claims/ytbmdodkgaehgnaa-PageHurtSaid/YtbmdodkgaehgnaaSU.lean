/- The law on turned bytes: SumTurns. -/
import Derived.Test.YtbmdodkgaehgnaaSQ
namespace Go.Proofs.Ytbmdodkgaehgnaa.Sm
open Go Go.RowKit
attribute [local go_sem] Oper.semAt_some

theorem str_list (s : List UInt8) : (⟨s.toArray⟩ : ByteArray).toList = s := by simp [go_sem]

theorem len_turn (s : List UInt8) (k : Nat) (hk : k + 1 < s.length) : (turnL s k).length = s.length := by
  unfold turnL
  simp only [List.length_append, List.length_take, List.length_drop, List.length_cons, List.length_nil]
  omega

end Go.Proofs.Ytbmdodkgaehgnaa.Sm

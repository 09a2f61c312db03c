/- The walk of Turn. -/
import Derived.Test.YtapmppiiphbcpaaKS6
namespace Go.Proofs.Ytapmppiiphbcpaa.Sm
open Go Go.RowKit
attribute [local go_sem] Oper.semAt_some

/-- The byte there and the next one change places. -/
def turnL (s : List UInt8) (k : Nat) : List UInt8 := s.take k ++ [s.getD (k + 1) 0, s.getD k 0] ++ s.drop (k + 2)
def turnR (s : List UInt8) (at' : Int) : Value := if 0 ≤ at' ∧ at' < (s.length : Int) - 1 then .tuple #[.string ⟨(turnL s at'.toNat).toArray⟩, .int .i64 0] else .tuple #[.string ⟨#[]⟩, .int .i64 2]

theorem byte_at (s : List UInt8) (k : Nat) (hk : k < (⟨s.toArray⟩ : ByteArray).size) : (⟨s.toArray⟩ : ByteArray)[k]'hk = s.getD k 0 := by
  have h : k < s.length := by simpa [ByteArray.size] using hk
  simp [List.getD, h]
  rfl
theorem turn_cells (s : List UInt8) (k : Nat) (_ : k + 1 < s.length) (h1 : k + 1 < (⟨s.toArray⟩ : ByteArray).size) (h2 : k < (⟨s.toArray⟩ : ByteArray).size) : [Value.int IntKind.u8 ((⟨s.toArray⟩ : ByteArray)[k + 1]'h1).toNat, Value.int IntKind.u8 ((⟨s.toArray⟩ : ByteArray)[k]'h2).toNat] = u8s [s.getD (k + 1) 0, s.getD k 0] := by
  rw [byte_at, byte_at]; rfl
theorem extract_mid (s : List UInt8) (a b : Nat) : (⟨s.toArray⟩ : ByteArray).extract a b = ⟨((s.drop a).take (b - a)).toArray⟩ := by
  apply ByteArray.ext
  rw [ByteArray.data_extract]
  simp [List.extract_eq_take_drop]
theorem turn_eq (s : List UInt8) (k : Nat) : (⟨(s.take k).toArray⟩ : ByteArray) ++ ⟨[s.getD (k + 1) 0, s.getD k 0].toArray⟩ ++ ⟨(s.drop (k + 2)).toArray⟩ = ⟨(turnL s k).toArray⟩ := by
  rw [str_append, str_append]; rfl

end Go.Proofs.Ytapmppiiphbcpaa.Sm

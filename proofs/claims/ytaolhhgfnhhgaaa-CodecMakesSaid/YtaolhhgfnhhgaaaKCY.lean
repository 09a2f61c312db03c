/- What comes in: slices, where they lie. -/
import Derived.ProofKit
import Derived.OpenShut
import Derived.ChangeMaps5
import Derived.Lib.SmallJoins
import Derived.Deep.Slices
import Derived.Deep.Fields
import Derived.Test.YtaolhhgfnhhgaaaKCZ
namespace Go.Proofs.Ytaolhhgfnhhgaaa
open Go.ChangeShapes Go.WideShapes Go.ChangeAt Go.RowKit

theorem slice_there' {P : Program} {w : World} {base : Nat} {t e : TypeId} (ht : P.underlying t = some (.slice e)) {a : Addr} {len cap : Nat} (hv : Value.okWide P w .any base t (.slice (some a) len cap)) : a.spot = none ∧ a.block < w.heap.size := by
  simp only [Value.okWide, Cell.okWide, ht, Cell.ok] at hv
  obtain ⟨-, -, -, hs, row, cells, hsh, -⟩ := hv
  refine ⟨hs, ?_⟩
  cases hb : w.heap[a.block]? with
  | none => simp [World.shape?, hb] at hsh
  | some o => exact (Array.getElem?_eq_some_iff.1 hb).1
theorem add_spot' {a : Addr} (h : a.spot = none) (n : Nat) : a.add n = ⟨a.block, a.off + n, none⟩ := by
  cases a with
  | mk b o sp =>
    simp only at h
    subst h
    unfold Addr.add
    split
    · rename_i hn; subst hn; rfl
    · rfl
theorem wf_u32 {z : Int} (h : (Lit.int IntKind.u32 z).wf = true) : z.toNat < 4294967296 ∧ ((z.toNat : Nat) : Int) = z := by
  have h0 := (Lit.wf_int_iff .u32 z).1 h
  simp [IntKind.min, IntKind.signed, IntKind.max, IntKind.bits] at h0
  omega
theorem wf_u16 {z : Int} (h : (Lit.int IntKind.u16 z).wf = true) : z.toNat < 65536 ∧ ((z.toNat : Nat) : Int) = z := by
  have h0 := (Lit.wf_int_iff .u16 z).1 h
  simp [IntKind.min, IntKind.signed, IntKind.max, IntKind.bits] at h0
  omega
end Go.Proofs.Ytaolhhgfnhhgaaa

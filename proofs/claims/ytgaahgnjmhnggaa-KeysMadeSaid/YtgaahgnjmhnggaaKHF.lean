/- What comes in: places, small numbers. -/
import Derived.DataShut
import Derived.Test.YtgaahgnjmhnggaaKHE
import Derived.Test.YtgaahgnjmhnggaaKCY
namespace Go.Proofs.Ytgaahgnjmhnggaa
open Go Go.RowKit

theorem pl_of (x y z u : Int) (_ : (Lit.int IntKind.i64 x).wf = true) (hy : (Lit.int IntKind.u32 y).wf = true) (hz : (Lit.int IntKind.u16 z).wf = true) (hu : (Lit.int IntKind.u32 u).wf = true) : Value.agg #[.int .i64 x, .int .u32 y, .int .u16 z, .int .u32 u] = (⟨x, y.toNat, z.toNat, u.toNat⟩ : Pl).v := by
  unfold Pl.v
  rw [(wf_u32 hy).2, (wf_u16 hz).2, (wf_u32 hu).2]
theorem pl_ok (x y z u : Int) (hx : (Lit.int IntKind.i64 x).wf = true) (hy : (Lit.int IntKind.u32 y).wf = true) (hz : (Lit.int IntKind.u16 z).wf = true) (hu : (Lit.int IntKind.u32 u).wf = true) : (⟨x, y.toNat, z.toNat, u.toNat⟩ : Pl).Ok :=
  ⟨i64_wf hx, (wf_u32 hy).1, (wf_u16 hz).1, (wf_u32 hu).1⟩
end Go.Proofs.Ytgaahgnjmhnggaa

/- The walks of cut and of the known sums. -/
import Derived.Test.YtbmdodkgaehgnaaSM
namespace Go.Proofs.Ytbmdodkgaehgnaa.Sm
open Go Go.RowKit
attribute [local go_sem] Oper.semAt_some

theorem more_known : moreR 65521 [] = .tuple #[.int .u32 0, .int .i64 2] := by
  have h : okS 65521 = false := by decide +kernel
  simp [moreR, h]
theorem sum_known : sumN [87, 105, 107, 105, 112, 101, 100, 105, 97] = 300286872 := by decide +kernel
theorem sum_none : sumN [] = 1 := by decide +kernel
theorem open_none : openR [] = .tuple #[.string ⟨#[]⟩, .int .i64 20] := by simp [openR, opens]

/-! ### The calls of the laws -/
theorem sum_ok (s : List UInt8) (h : s.length ≤ 10000) : Veil (∀ w, Calls Try.prog 55 #[.string ⟨s.toArray⟩] w fun e w' => e = .returned (.int .u32 (sumN s)) ∧ Below w.heap.size w w') :=
  ⟨fun w => sum_any s ⟨by omega⟩ w⟩
theorem seal_ok (s u : List UInt8) (h : s.length ≤ 10000) (hu : s ++ sealB (sumN s) = u) : Veil (∀ w, Calls Try.prog 34 #[.string ⟨s.toArray⟩] w fun e w' => e = .returned (.string ⟨u.toArray⟩) ∧ Below w.heap.size w w') :=
  ⟨fun w => by subst hu; exact seal_any s ⟨by omega⟩ w⟩
end Go.Proofs.Ytbmdodkgaehgnaa.Sm

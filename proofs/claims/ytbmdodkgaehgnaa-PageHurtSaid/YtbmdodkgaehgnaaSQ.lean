/- The law on three parts: SumParts. -/
import Derived.Test.YtbmdodkgaehgnaaSA
namespace Go.Proofs.Ytbmdodkgaehgnaa.Sm
open Go Go.RowKit
attribute [local go_sem] Oper.semAt_some

/-- A text's first thousand bytes, as the law takes them. -/
theorem first_part (s : List UInt8) : ∃ (m : Nat) (t : List UInt8), m ≤ s.length ∧ t.length ≤ 1000 ∧ (⟨s.toArray⟩ : ByteArray).extract 0 m = ⟨t.toArray⟩ ∧ ∀ w, (Builtin.min_ #[3, 3] 3 #[.int .i64 (s.length : Int), .int .i64 1000]).run Try.prog w = .ok (.int .i64 (m : Nat)) w := by
  refine ⟨min s.length 1000, s.take (min s.length 1000), Nat.min_le_left _ _, by rw [List.length_take]; omega, by rw [extract_mid]; simp, fun w => ?_⟩
  rw [run_min_int2]
  congr 2
  split <;> omega

theorem len_two {s t u : List UInt8} {m n : Nat} (hu : s ++ t = u) (hs : s.length ≤ m) (ht : t.length ≤ n) : u.length ≤ m + n := by
  rw [← hu, List.length_append]; omega
theorem wrap_two {s t u : List UInt8} (hu : s ++ t = u) (hl : u.length ≤ 2000) : wrap64 ((s.length : Int) + t.length) = u.length := by
  have : u.length = s.length + t.length := by rw [← hu, List.length_append]
  unfold wrap64; omega
theorem no_more {s t u : List UInt8} {n : Nat} (hu : s ++ t = u) (hl : u.length ≤ n) (hn : n ≤ 100000 := by decide) : ¬ 9223372036854775807 < s.length + t.length := by
  have : u.length = s.length + t.length := by rw [← hu, List.length_append]
  omega

end Go.Proofs.Ytbmdodkgaehgnaa.Sm

/- Comparing two halves. -/
import Derived.Laws.StructEq
import Derived.Test.YtapmppiiphbcpaaKS7
namespace Go.Proofs.Ytapmppiiphbcpaa.Sm
open Go Go.RowKit

theorem size_u32 (w : World) : (sizeOf 46).run Try.prog w = .ok 1 w := by kernel_rfl
theorem eq_halves (d : Nat) (a b x y : Int) (w : World) : (Op.equalIn (d + 1 + 1) 156 (.agg #[.int .u32 a, .int .u32 b]) (.agg #[.int .u32 x, .int .u32 y])).run Try.prog w = .ok ((a == x) && (b == y)) w := by
  have h1 := fun w => run_equalIn_int (P := Try.prog) w d 46 .u32 .u32 a x Try.underlying46
  have h2 := fun w => run_equalIn_int (P := Try.prog) w d 46 .u32 .u32 b y Try.underlying46
  rw [Op.equalIn]
  simp only [Sem.run_bind, run_underlying Try.underlying156, Result.andThen_ok, size_u32]
  simp only [Std.Legacy.Range.forIn_eq_forIn_range', Std.Legacy.Range.size, Nat.sub_zero, Nat.add_sub_cancel, Nat.div_one, List.range'_succ, List.range'_zero, List.forIn_cons, List.forIn_nil, Nat.zero_mul, Nat.zero_add, Nat.one_mul, Sem.run_bind]
  have p0 : ∀ (u v : Value) w, (part 46 #[u, v] 0).run Try.prog w = .ok u w := fun u v w => by simp [part, go_sem]
  have p1 : ∀ (u v : Value) w, (part 46 #[u, v] 1).run Try.prog w = .ok v w := fun u v w => by simp [part, go_sem]
  simp only [p0, Result.andThen_ok, h1]
  by_cases h3 : a = x <;> by_cases h4 : b = y <;> simp [h3, h4, go_sem, Result.andThen]
theorem eq_run (a b x y : Int) (w : World) : (binOp .eql 156 (.agg #[.int .u32 a, .int .u32 b]) (.agg #[.int .u32 x, .int .u32 y])).run Try.prog w = .ok (.bool ((a == x) && (b == y))) w := by
  rw [run_eql_struct, show (10000 : Nat) = 9998 + 1 + 1 from rfl, eq_halves]; rfl
theorem neq_run (a b x y : Int) (w : World) : (binOp .neq 156 (.agg #[.int .u32 a, .int .u32 b]) (.agg #[.int .u32 x, .int .u32 y])).run Try.prog w = .ok (.bool (!((a == x) && (b == y)))) w := by
  rw [run_neq_struct, show (10000 : Nat) = 9998 + 1 + 1 from rfl, eq_halves]; rfl
theorem guard_run (o : BinOp) (p q : Operand) (xs ys : Array Value) (w : World) : (eqGuard o 156 p q (.agg xs) (.agg ys)).run Try.prog w = .ok () w := run_eqGuard_agg w o _ p q xs ys (by kernel_rfl)
end Go.Proofs.Ytapmppiiphbcpaa.Sm

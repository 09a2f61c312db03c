/- The walks of split, whole, joined: a number and its halves. -/
import Derived.Test.YtaolhhgfnhhgaaaRows
import Derived.Laws.BitsAllLaws
import Derived.Test.YtaolhhgfnhhgaaaKD0
namespace Go.Proofs.Ytaolhhgfnhhgaaa.Sm
open Go.RowKit

def u32v (n : Nat) : Value := .int .u32 n
def halvesv (h : Nat × Nat) : Value := .agg #[u32v h.1, u32v h.2]

theorem and_ffff (n : Nat) (hn : n < 4294967296) : bits BinOp.and IntKind.u32 (n : Int) 65535 = ((n % 65536 : Nat) : Int) := by
  have h := u32_and_nat n 65535 hn (by omega)
  rw [show n &&& 65535 = n % 65536 from Nat.and_two_pow_sub_one_eq_mod n 16] at h
  exact h
theorem or_low (a b : Nat) (ha : a < 65536) (hb : b < 65536) : bits BinOp.or IntKind.u32 ((b : Int) * 65536) (a : Int) = ((b * 65536 + a : Nat) : Int) := by
  have h := u32_or_nat (b * 65536) a (by omega) (by omega)
  rw [show b * 65536 ||| a = b * 65536 + a by
    rw [Nat.mul_comm b 65536]; exact (Nat.two_pow_add_eq_or_of_lt (i := 16) ha b).symm] at h
  exact h
theorem results_pair {P : Program} {fn : Func} {p : Tmp} {T t : TypeId} {tmps : Array Value} {w : World} {g : Nat} {x y : Value} {fr : Nat × Nat} {n : Nat} {e : TypeId} (h : fn.results = #[.cell p T]) (hg : w.heap[g]? = some (.cells #[x, y] t fr)) (hp : tmps.getD p undef = .pointer (some ⟨g, 0, none⟩))
    (hu : P.underlying T = some (.array n e)) (hi : (P.info? T).map (·.size) = some 2) : (results fn tmps).run P w = .ok (.agg #[x, y]) w :=
  results_cell_row h _ _ g t #[x, y] fr _ hp hg hu rfl hi

/-- The halves of two parts, the second of n bytes. -/
def joinH (x y : Nat × Nat) (n : Nat) : Nat × Nat := ((x.1 + 65520 + y.1) % 65521, (x.2 + y.2 + n * (x.1 + 65520)) % 65521)

set_option maxRecDepth 100000 in
theorem low_word (a b : Nat) : (((a : Int) + 65521 - 1 + b) % 65521 : Int) = ((a + 65520 + b) % 65521 : Nat) := by omega
set_option maxRecDepth 100000 in
theorem up_word (a b c n : Nat) (ha : a < 65521) (hb : b < 65521) (hc : c < 65521) (hn : n ≤ 1048576) :
    (IntKind.u64.wrap ((b : Int) + c + IntKind.u64.wrap ((n : Int) * ((a : Int) + 65521 - 1)))).tmod 65521 % 4294967296 = ((b + c + n * (a + 65520)) % 65521 : Nat) := by
  have e : (n : Int) * ((a : Int) + 65521 - 1) = ((n * (a + 65520) : Nat) : Int) := by
    rw [show ((a : Int) + 65521 - 1) = ((a + 65520 : Nat) : Int) by omega, Int.natCast_mul]
  rw [e]
  have hm : n * (a + 65520) ≤ 137406447616 := Nat.le_trans (Nat.mul_le_mul (m₂ := 131041) hn (by omega)) (by decide)
  generalize n * (a + 65520) = m at hm ⊢
  rw [IntKind.wrap_u64, IntKind.wrap_u64, Int.tmod_eq_emod_of_nonneg (by omega)]
  omega

end Go.Proofs.Ytaolhhgfnhhgaaa.Sm

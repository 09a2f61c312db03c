/- Money: amounts, sums, differences, products, what is moved, as numbers. -/
import Derived.DataShut
import Derived.Test.YtbbfmddechpnjaaDoorKP3
import Derived.Test.YtbbfmddechpnjaaDoorKPX
namespace Go.Proofs.YtbbfmddechpnjaaDoor
open Go Go.RowKit Sm

theorem bc_then {w w1 w2 : World} (h : Below w.heap.size w w1) (k : Below w1.heap.size w1 w2) : Below w.heap.size w w2 := h.trans (k.mono h.size)
theorem extM (s : List UInt8) (a b : Nat) : (⟨s.toArray⟩ : ByteArray).extract a b = ⟨((s.drop a).take (b - a)).toArray⟩ := by
  apply ByteArray.ext
  simp
/-- What an int64 can be. -/
def I64 (n : Int) : Prop := -9223372036854775808 ≤ n ∧ n ≤ 9223372036854775807
theorem i64_wf {z : Int} (h : (Lit.int IntKind.i64 z).wf = true) : I64 z := by
  have hr := (Lit.wf_int_iff .i64 z).1 h
  simp [IntKind.min, IntKind.signed, IntKind.max, IntKind.bits] at hr
  unfold I64
  omega
def amt (n : Int) : Bool := decide (0 ≤ n ∧ n ≤ 1152921504606846976)
theorem amt_iff (n : Int) : amt n = true ↔ (0 ≤ n ∧ n ≤ 1152921504606846976) := by unfold amt; exact decide_eq_true_iff
theorem amt_not (n : Int) : amt n = false ↔ ¬ (0 ≤ n ∧ n ≤ 1152921504606846976) := by unfold amt; exact decide_eq_false_iff_not
theorem amt_zero : amt 0 = true := by decide
/-- Each with its error. -/
def addA (a b : Int) : Int × Int := if amt a && amt b then (if amt (a + b) then (a + b, 0) else (0, 111)) else (0, 110)
def subA (a b : Int) : Int × Int := if amt a && amt b then (if b ≤ a then (a - b, 0) else (0, 112)) else (0, 110)
def mulA (a b : Int) : Int × Int := if amt a && amt b then (if amt (a * b) then (a * b, 0) else (0, 111)) else (0, 110)
def movA (f t n : Int) : Int × Int × Int :=
  if (subA f n).2 = 0 then (if (addA t n).2 = 0 then ((subA f n).1, (addA t n).1, 0) else (0, 0, (addA t n).2)) else (0, 0, (subA f n).2)

theorem addA_ok (a b : Int) (h : (addA a b).2 = 0) : amt a = true ∧ amt b = true ∧ amt (a + b) = true ∧ (addA a b).1 = a + b := by
  unfold addA at h ⊢
  by_cases h1 : (amt a && amt b) = true
  · rw [if_pos h1] at h ⊢
    by_cases h2 : amt (a + b) = true
    · rw [if_pos h2]; simp at h1; exact ⟨h1.1, h1.2, h2, rfl⟩
    · rw [if_neg h2] at h; exact absurd h (by decide)
  · rw [if_neg h1] at h; exact absurd h (by decide)
theorem addA_of (a b : Int) (h1 : amt a = true) (h2 : amt b = true) (h3 : amt (a + b) = true) : addA a b = (a + b, 0) := by simp [addA, h1, h2, h3]
theorem subA_ok (a b : Int) (h : (subA a b).2 = 0) : amt a = true ∧ amt b = true ∧ b ≤ a ∧ (subA a b).1 = a - b := by
  unfold subA at h ⊢
  by_cases h1 : (amt a && amt b) = true
  · rw [if_pos h1] at h ⊢
    by_cases h2 : b ≤ a
    · rw [if_pos h2]; simp at h1; exact ⟨h1.1, h1.2, h2, rfl⟩
    · rw [if_neg h2] at h; exact absurd h (by decide)
  · rw [if_neg h1] at h; exact absurd h (by decide)
theorem subA_of (a b : Int) (h1 : amt a = true) (h2 : amt b = true) (h3 : b ≤ a) : subA a b = (a - b, 0) := by simp [subA, h1, h2, h3]
theorem mulA_ok (a b : Int) (h : (mulA a b).2 = 0) : amt a = true ∧ amt b = true ∧ amt (a * b) = true ∧ (mulA a b).1 = a * b := by
  unfold mulA at h ⊢
  by_cases h1 : (amt a && amt b) = true
  · rw [if_pos h1] at h ⊢
    by_cases h2 : amt (a * b) = true
    · rw [if_pos h2]; simp at h1; exact ⟨h1.1, h1.2, h2, rfl⟩
    · rw [if_neg h2] at h; exact absurd h (by decide)
  · rw [if_neg h1] at h; exact absurd h (by decide)
theorem movA_ok (f t n : Int) (h : (movA f t n).2.2 = 0) : (subA f n).2 = 0 ∧ (addA t n).2 = 0 ∧ movA f t n = (f - n, t + n, 0) := by
  unfold movA at h ⊢
  by_cases h1 : (subA f n).2 = 0
  · rw [if_pos h1] at h ⊢
    by_cases h2 : (addA t n).2 = 0
    · rw [if_pos h2]
      exact ⟨h1, h2, by rw [(subA_ok f n h1).2.2.2, (addA_ok t n h2).2.2.2]⟩
    · rw [if_neg h2] at h; exact absurd h h2
  · rw [if_neg h1] at h; exact absurd h h1
/-- What is answered is an amount, with an error or without. -/
theorem addA_amt (a b : Int) : amt (addA a b).1 = true := by
  unfold addA
  by_cases h1 : (amt a && amt b) = true
  · rw [if_pos h1]
    by_cases h2 : amt (a + b) = true
    · rw [if_pos h2]; exact h2
    · rw [if_neg h2]; decide
  · rw [if_neg h1]; decide
theorem subA_amt (a b : Int) : amt (subA a b).1 = true := by
  unfold subA
  by_cases h1 : (amt a && amt b) = true
  · rw [if_pos h1]
    by_cases h2 : b ≤ a
    · rw [if_pos h2]
      rw [Bool.and_eq_true, amt_iff, amt_iff] at h1
      rw [amt_iff]
      dsimp only
      omega
    · rw [if_neg h2]; decide
  · rw [if_neg h1]; decide
theorem mulA_amt (a b : Int) : amt (mulA a b).1 = true := by
  unfold mulA
  by_cases h1 : (amt a && amt b) = true
  · rw [if_pos h1]
    by_cases h2 : amt (a * b) = true
    · rw [if_pos h2]; exact h2
    · rw [if_neg h2]; decide
  · rw [if_neg h1]; decide
theorem movA_amt (f t n : Int) : amt (movA f t n).1 = true ∧ amt (movA f t n).2.1 = true := by
  unfold movA
  split
  · split
    · exact ⟨subA_amt _ _, addA_amt _ _⟩
    · exact ⟨amt_zero, amt_zero⟩
  · exact ⟨amt_zero, amt_zero⟩
theorem addA_comm (a b : Int) : addA a b = addA b a := by unfold addA; rw [Bool.and_comm, Int.add_comm]
theorem mulA_comm (a b : Int) : mulA a b = mulA b a := by unfold mulA; rw [Bool.and_comm, Int.mul_comm]

/-- Case by case, in letters. -/
theorem ret2 {v c v' c' : Int} (h : (v, c) = (v', c')) : Ending.returned (.tuple #[.int .i64 v, .int .i64 c]) = Ending.returned (.tuple #[.int .i64 v', .int .i64 c']) := by cases h; rfl
theorem ret3 {v u c v' u' c' : Int} (h : (v, u, c) = (v', u', c')) : Ending.returned (.tuple #[.int .i64 v, .int .i64 u, .int .i64 c]) = Ending.returned (.tuple #[.int .i64 v', .int .i64 u', .int .i64 c']) := by cases h; rfl
theorem addA_bad {a b : Int} (h : ¬ (0 ≤ a ∧ a ≤ 1152921504606846976 ∧ 0 ≤ b ∧ b ≤ 1152921504606846976)) : ((0 : Int), (110 : Int)) = addA a b := by
  unfold addA
  rw [if_neg (fun hh => h (by rw [Bool.and_eq_true, amt_iff, amt_iff] at hh; exact ⟨hh.1.1, hh.1.2, hh.2.1, hh.2.2⟩))]
theorem addA_over {a b : Int} (h1 : 0 ≤ a ∧ a ≤ 1152921504606846976 ∧ 0 ≤ b ∧ b ≤ 1152921504606846976) (h2 : 1152921504606846976 < a + b) : ((0 : Int), (111 : Int)) = addA a b := by
  unfold addA
  rw [if_pos (by rw [Bool.and_eq_true, amt_iff, amt_iff]; exact ⟨⟨h1.1, h1.2.1⟩, h1.2.2⟩), if_neg (by rw [amt_iff]; omega)]
theorem addA_fine {a b : Int} (h1 : 0 ≤ a ∧ a ≤ 1152921504606846976 ∧ 0 ≤ b ∧ b ≤ 1152921504606846976) (h2 : a + b ≤ 1152921504606846976) : (a + b, (0 : Int)) = addA a b := by
  unfold addA
  rw [if_pos (by rw [Bool.and_eq_true, amt_iff, amt_iff]; exact ⟨⟨h1.1, h1.2.1⟩, h1.2.2⟩), if_pos (by rw [amt_iff]; omega)]
theorem subA_bad {a b : Int} (h : ¬ (0 ≤ a ∧ a ≤ 1152921504606846976 ∧ 0 ≤ b ∧ b ≤ 1152921504606846976)) : ((0 : Int), (110 : Int)) = subA a b := by
  unfold subA
  rw [if_neg (fun hh => h (by rw [Bool.and_eq_true, amt_iff, amt_iff] at hh; exact ⟨hh.1.1, hh.1.2, hh.2.1, hh.2.2⟩))]
theorem subA_over {a b : Int} (h1 : 0 ≤ a ∧ a ≤ 1152921504606846976 ∧ 0 ≤ b ∧ b ≤ 1152921504606846976) (h2 : a < b) : ((0 : Int), (112 : Int)) = subA a b := by
  unfold subA
  rw [if_pos (by rw [Bool.and_eq_true, amt_iff, amt_iff]; exact ⟨⟨h1.1, h1.2.1⟩, h1.2.2⟩), if_neg (by omega)]
theorem subA_fine {a b : Int} (h1 : 0 ≤ a ∧ a ≤ 1152921504606846976 ∧ 0 ≤ b ∧ b ≤ 1152921504606846976) (h2 : b ≤ a) : (a - b, (0 : Int)) = subA a b := by
  unfold subA
  rw [if_pos (by rw [Bool.and_eq_true, amt_iff, amt_iff]; exact ⟨⟨h1.1, h1.2.1⟩, h1.2.2⟩), if_pos h2]
theorem mulA_bad {a b : Int} (h : ¬ (0 ≤ a ∧ a ≤ 1152921504606846976 ∧ 0 ≤ b ∧ b ≤ 1152921504606846976)) : ((0 : Int), (110 : Int)) = mulA a b := by
  unfold mulA
  rw [if_neg (fun hh => h (by rw [Bool.and_eq_true, amt_iff, amt_iff] at hh; exact ⟨hh.1.1, hh.1.2, hh.2.1, hh.2.2⟩))]
theorem mulA_over {a b : Int} (h1 : 0 ≤ a ∧ a ≤ 1152921504606846976 ∧ 0 ≤ b ∧ b ≤ 1152921504606846976) (h2 : amt (a * b) = false) : ((0 : Int), (111 : Int)) = mulA a b := by
  unfold mulA
  rw [if_pos (by rw [Bool.and_eq_true, amt_iff, amt_iff]; exact ⟨⟨h1.1, h1.2.1⟩, h1.2.2⟩), if_neg (by simp [h2])]
theorem mulA_fine {a b : Int} (h1 : 0 ≤ a ∧ a ≤ 1152921504606846976 ∧ 0 ≤ b ∧ b ≤ 1152921504606846976) (h2 : amt (a * b) = true) : (a * b, (0 : Int)) = mulA a b := by
  unfold mulA
  rw [if_pos (by rw [Bool.and_eq_true, amt_iff, amt_iff]; exact ⟨⟨h1.1, h1.2.1⟩, h1.2.2⟩), if_pos h2]
theorem movA_eq (f t n : Int) : movA f t n = if (subA f n).2 = 0 then (if (addA t n).2 = 0 then ((subA f n).1, (addA t n).1, 0) else (0, 0, (addA t n).2)) else (0, 0, (subA f n).2) := rfl

/-- The document's test of a product: by a quotient. -/
theorem mul_test (a b : Int) (ha : amt a = true) (hb : amt b = true) : (0 < b ∧ 1152921504606846976 / b < a) ↔ amt (a * b) = false := by
  rw [amt_iff] at ha hb
  rw [amt_not]
  obtain ⟨M, hM⟩ : ∃ M : Int, (1152921504606846976 : Int) = M := ⟨_, rfl⟩
  rw [hM] at ha hb ⊢
  have h0 : 0 ≤ a * b := Int.mul_nonneg ha.1 hb.1
  constructor
  · rintro ⟨h1, h2⟩ h3
    have h4 := (Int.le_ediv_iff_mul_le h1).2 h3.2
    omega
  · intro h
    have h1 : ¬ a * b ≤ M := fun h2 => h ⟨h0, h2⟩
    have h2 : 0 < b := by
      rcases Int.lt_or_le 0 b with h2 | h2
      · exact h2
      · have : b = 0 := by omega
        subst this
        rw [Int.mul_zero] at h1
        omega
    exact ⟨h2, by
      rcases Int.lt_or_le (M / b) a with h3 | h3
      · exact h3
      · exact absurd ((Int.le_ediv_iff_mul_le h2).1 h3) h1⟩
end Go.Proofs.YtbbfmddechpnjaaDoor

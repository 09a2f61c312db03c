/- Money: amounts, sums, differences, products, what is moved, as numbers. -/
import Derived.DataShut
import Derived.Test.YtckkiilbabbeaaaDoorKP3
import Derived.Test.YtckkiilbabbeaaaDoorKPX
namespace Go.Proofs.YtckkiilbabbeaaaDoor
open Go Go.RowKit Sm

theorem bc_then {w w1 w2 : World} (h : Below w.heap.size w w1) (k : Below w1.heap.size w1 w2) : Below w.heap.size w w2 := h.trans (k.mono h.size)
theorem extM (s : List UInt8) (a b : Nat) : (⟨s.toArray⟩ : ByteArray).extract a b = ⟨((s.drop a).take (b - a)).toArray⟩ := by
  apply ByteArray.ext
  simp
/-- What an int64 can be. -/
def I64 (n : Int) : Prop := -9223372036854775808 ≤ n ∧ n ≤ 9223372036854775807
theorem i64_wf {z : Int} (h : (Lit.int IntKind.i64 z).wf = true) : I64 z := by
  have hr := (Lit.wf_int_iff .i64 z).1 h
  simp [IntKind.min, IntKind.signed, IntKind.max, IntKind.bits] at hr
  unfold I64
  omega
def amt (n : Int) : Bool := decide (0 ≤ n ∧ n ≤ 1152921504606846976)
theorem amt_iff (n : Int) : amt n = true ↔ (0 ≤ n ∧ n ≤ 1152921504606846976) := by unfold amt; exact decide_eq_true_iff
theorem amt_not (n : Int) : amt n = false ↔ ¬ (0 ≤ n ∧ n ≤ 1152921504606846976) := by unfold amt; exact decide_eq_false_iff_not
theorem amt_zero : amt 0 = true := by decide
/-- Each with its error. -/
def addA (a b : Int) : Int × Int := if amt a && amt b then (if amt (a + b) then (a + b, 0) else (0, 111)) else (0, 110)
def subA (a b : Int) : Int × Int := if amt a && amt b then (if b ≤ a then (a - b, 0) else (0, 112)) else (0, 110)
def mulA (a b : Int) : Int × Int := if amt a && amt b then (if amt (a * b) then (a * b, 0) else (0, 111)) else (0, 110)
def movA (f t n : Int) : Int × Int × Int :=
  if (subA f n).2 = 0 then (if (addA t n).2 = 0 then ((subA f n).1, (addA t n).1, 0) else (0, 0, (addA t n).2)) else (0, 0, (subA f n).2)

theorem addA_ok (a b : Int) (h : (addA a b).2 = 0) : amt a = true ∧ amt b = true ∧ amt (a + b) = true ∧ (addA a b).1 = a + b := by
  unfold addA at h ⊢
  by_cases h1 : (amt a && amt b) = true
  · rw [if_pos h1] at h ⊢
    by_cases h2 : amt (a + b) = true
    · rw [if_pos h2]; simp at h1; exact ⟨h1.1, h1.2, h2, rfl⟩
    · rw [if_neg h2] at h; exact absurd h (by decide)
  · rw [if_neg h1] at h; exact absurd h (by decide)
theorem addA_of (a b : Int) (h1 : amt a = true) (h2 : amt b = true) (h3 : amt (a + b) = true) : addA a b = (a + b, 0) := by simp [addA, h1, h2, h3]
theorem subA_ok (a b : Int) (h : (subA a b).2 = 0) : amt a = true ∧ amt b = true ∧ b ≤ a ∧ (subA a b).1 = a - b := by
  unfold subA at h ⊢
  by_cases h1 : (amt a && amt b) = true
  · rw [if_pos h1] at h ⊢
    by_cases h2 : b ≤ a
    · rw [if_pos h2]; simp at h1; exact ⟨h1.1, h1.2, h2, rfl⟩
    · rw [if_neg h2] at h; exact absurd h (by decide)
  · rw [if_neg h1] at h; exact absurd h (by decide)
theorem subA_of (a b : Int) (h1 : amt a = true) (h2 : amt b = true) (h3 : b ≤ a) : subA a b = (a - b, 0) := by simp [subA, h1, h2, h3]
theorem mulA_ok (a b : Int) (h : (mulA a b).2 = 0) : amt a = true ∧ amt b = true ∧ amt (a * b) = true ∧ (mulA a b).1 = a * b := by
  unfold mulA at h ⊢
  by_cases h1 : (amt a && amt b) = true
  · rw [if_pos h1] at h ⊢
    by_cases h2 : amt (a * b) = true
    · rw [if_pos h2]; simp at h1; exact ⟨h1.1, h1.2, h2, rfl⟩
    · rw [if_neg h2] at h; exact absurd h (by decide)
  · rw [if_neg h1] at h; exact absurd h (by decide)
theorem movA_ok (f t n : Int) (h : (movA f t n).2.2 = 0) : (subA f n).2 = 0 ∧ (addA t n).2 = 0 ∧ movA f t n = (f - n, t + n, 0) := by
  unfold movA at h ⊢
  by_cases h1 : (subA f n).2 = 0
  · rw [if_pos h1] at h ⊢
    by_cases h2 : (addA t n).2 = 0
    · rw [if_pos h2]
      exact ⟨h1, h2, by rw [(subA_ok f n h1).2.2.2, (addA_ok t n h2).2.2.2]⟩
    · rw [if_neg h2] at h; exact absurd h h2
  · rw [if_neg h1] at h; exact absurd h h1
/-- What is answered is an amount, with an error or without. -/
theorem addA_amt (a b : Int) : amt (addA a b).1 = true := by
  unfold addA
  by_cases h1 : (amt a && amt b) = true
  · rw [if_pos h1]
    by_cases h2 : amt (a + b) = true
    · rw [if_pos h2]; exact h2
    · rw [if_neg h2]; decide
  · rw [if_neg h1]; decide
theorem subA_amt (a b : Int) : amt (subA a b).1 = true := by
  unfold subA
  by_cases h1 : (amt a && amt b) = true
  · rw [if_pos h1]
    by_cases h2 : b ≤ a
    · rw [if_pos h2]
      rw [Bool.and_eq_true, amt_iff, amt_iff] at h1
      rw [amt_iff]
      dsimp only
      omega
    · rw [if_neg h2]; decide
  · rw [if_neg h1]; decide
theorem mulA_amt (a b : Int) : amt (mulA a b).1 = true := by
  unfold mulA
  by_cases h1 : (amt a && amt b) = true
  · rw [if_pos h1]
    by_cases h2 : amt (a * b) = true
    · rw [if_pos h2]; exact h2
    · rw [if_neg h2]; decide
  · rw [if_neg h1]; decide
theorem movA_amt (f t n : Int) : amt (movA f t n).1 = true ∧ amt (movA f t n).2.1 = true := by
  unfold movA
  split
  · split
    · exact ⟨subA_amt _ _, addA_amt _ _⟩
    · exact ⟨amt_zero, amt_zero⟩
  · exact ⟨amt_zero, amt_zero⟩
theorem addA_comm (a b : Int) : addA a b = addA b a := by unfold addA; rw [Bool.and_comm, Int.add_comm]
theorem mulA_comm (a b : Int) : mulA a b = mulA b a := by unfold mulA; rw [Bool.and_comm, Int.mul_comm]

/-- Case by case, in letters. -/
theorem ret2 {v c v' c' : Int} (h : (v, c) = (v', c')) : Ending.returned (.tuple #[.int .i64 v, .int .i64 c]) = Ending.returned (.tuple #[.int .i64 v', .int .i64 c']) := by cases h; rfl
theorem ret3 {v u c v' u' c' : Int} (h : (v, u, c) = (v', u', c')) : Ending.returned (.tuple #[.int .i64 v, .int .i64 u, .int .i64 c]) = Ending.returned (.tuple #[.int .i64 v', .int .i64 u', .int .i64 c']) := by cases h; rfl
theorem addA_bad {a b : Int} (h : ¬ (0 ≤ a ∧ a ≤ 1152921504606846976 ∧ 0 ≤ b ∧ b ≤ 1152921504606846976)) : ((0 : Int), (110 : Int)) = addA a b := by
  unfold addA
  rw [if_neg (fun hh => h (by rw [Bool.and_eq_true, amt_iff, amt_iff] at hh; exact ⟨hh.1.1, hh.1.2, hh.2.1, hh.2.2⟩))]
theorem addA_over {a b : Int} (h1 : 0 ≤ a ∧ a ≤ 1152921504606846976 ∧ 0 ≤ b ∧ b ≤ 1152921504606846976) (h2 : 1152921504606846976 < a + b) : ((0 : Int), (111 : Int)) = addA a b := by
  unfold addA
  rw [if_pos (by rw [Bool.and_eq_true, amt_iff, amt_iff]; exact ⟨⟨h1.1, h1.2.1⟩, h1.2.2⟩), if_neg (by rw [amt_iff]; omega)]
theorem addA_fine {a b : Int} (h1 : 0 ≤ a ∧ a ≤ 1152921504606846976 ∧ 0 ≤ b ∧ b ≤ 1152921504606846976) (h2 : a + b ≤ 1152921504606846976) : (a + b, (0 : Int)) = addA a b := by
  unfold addA
  rw [if_pos (by rw [Bool.and_eq_true, amt_iff, amt_iff]; exact ⟨⟨h1.1, h1.2.1⟩, h1.2.2⟩), if_pos (by rw [amt_iff]; omega)]
theorem subA_bad {a b : Int} (h : ¬ (0 ≤ a ∧ a ≤ 1152921504606846976 ∧ 0 ≤ b ∧ b ≤ 1152921504606846976)) : ((0 : Int), (110 : Int)) = subA a b := by
  unfold subA
  rw [if_neg (fun hh => h (by rw [Bool.and_eq_true, amt_iff, amt_iff] at hh; exact ⟨hh.1.1, hh.1.2, hh.2.1, hh.2.2⟩))]
theorem subA_over {a b : Int} (h1 : 0 ≤ a ∧ a ≤ 1152921504606846976 ∧ 0 ≤ b ∧ b ≤ 1152921504606846976) (h2 : a < b) : ((0 : Int), (112 : Int)) = subA a b := by
  unfold subA
  rw [if_pos (by rw [Bool.and_eq_true, amt_iff, amt_iff]; exact ⟨⟨h1.1, h1.2.1⟩, h1.2.2⟩), if_neg (by omega)]
theorem subA_fine {a b : Int} (h1 : 0 ≤ a ∧ a ≤ 1152921504606846976 ∧ 0 ≤ b ∧ b ≤ 1152921504606846976) (h2 : b ≤ a) : (a - b, (0 : Int)) = subA a b := by
  unfold subA
  rw [if_pos (by rw [Bool.and_eq_true, amt_iff, amt_iff]; exact ⟨⟨h1.1, h1.2.1⟩, h1.2.2⟩), if_pos h2]
theorem mulA_bad {a b : Int} (h : ¬ (0 ≤ a ∧ a ≤ 1152921504606846976 ∧ 0 ≤ b ∧ b ≤ 1152921504606846976)) : ((0 : Int), (110 : Int)) = mulA a b := by
  unfold mulA
  rw [if_neg (fun hh => h (by rw [Bool.and_eq_true, amt_iff, amt_iff] at hh; exact ⟨hh.1.1, hh.1.2, hh.2.1, hh.2.2⟩))]
theorem mulA_over {a b : Int} (h1 : 0 ≤ a ∧ a ≤ 1152921504606846976 ∧ 0 ≤ b ∧ b ≤ 1152921504606846976) (h2 : amt (a * b) = false) : ((0 : Int), (111 : Int)) = mulA a b := by
  unfold mulA
  rw [if_pos (by rw [Bool.and_eq_true, amt_iff, amt_iff]; exact ⟨⟨h1.1, h1.2.1⟩, h1.2.2⟩), if_neg (by simp [h2])]
theorem mulA_fine {a b : Int} (h1 : 0 ≤ a ∧ a ≤ 1152921504606846976 ∧ 0 ≤ b ∧ b ≤ 1152921504606846976) (h2 : amt (a * b) = true) : (a * b, (0 : Int)) = mulA a b := by
  unfold mulA
  rw [if_pos (by rw [Bool.and_eq_true, amt_iff, amt_iff]; exact ⟨⟨h1.1, h1.2.1⟩, h1.2.2⟩), if_pos h2]
theorem movA_eq (f t n : Int) : movA f t n = if (subA f n).2 = 0 then (if (addA t n).2 = 0 then ((subA f n).1, (addA t n).1, 0) else (0, 0, (addA t n).2)) else (0, 0, (subA f n).2) := rfl

/-- The document's test of a product: by a quotient. -/
theorem mul_test (a b : Int) (ha : amt a = true) (hb : amt b = true) : (0 < b ∧ 1152921504606846976 / b < a) ↔ amt (a * b) = false := by
  rw [amt_iff] at ha hb
  rw [amt_not]
  obtain ⟨M, hM⟩ : ∃ M : Int, (1152921504606846976 : Int) = M := ⟨_, rfl⟩
  rw [hM] at ha hb ⊢
  have h0 : 0 ≤ a * b := Int.mul_nonneg ha.1 hb.1
  constructor
  · rintro ⟨h1, h2⟩ h3
    have h4 := (Int.le_ediv_iff_mul_le h1).2 h3.2
    omega
  · intro h
    have h1 : ¬ a * b ≤ M := fun h2 => h ⟨h0, h2⟩
    have h2 : 0 < b := by
      rcases Int.lt_or_le 0 b with h2 | h2
      · exact h2
      · have : b = 0 := by omega
        subst this
        rw [Int.mul_zero] at h1
        omega
    exact ⟨h2, by
      rcases Int.lt_or_le (M / b) a with h3 | h3
      · exact h3
      · exact absurd ((Int.le_ediv_iff_mul_le h2).1 h3) h1⟩
end Go.Proofs.YtckkiilbabbeaaaDoor

/- Keys: places, which are right, their keys: reckoning. -/
namespace Go.Proofs.YtckkiilbabbeaaaDoor
open Go Go.RowKit Sm

structure Pl where
  kind : Int
  a : Nat
  item : Nat
  mail : Nat
def Pl.v (p : Pl) : Value := .agg #[.int .i64 p.kind, .int .u32 p.a, .int .u16 p.item, .int .u32 p.mail]
structure Pl.Ok (p : Pl) : Prop where
  k : I64 p.kind
  a : p.a < 4294967296
  item : p.item < 65536
  mail : p.mail < 4294967296
def acc (a : Nat) : Bool := decide (1 ≤ a ∧ a ≤ 1000000)
def Pl.right (p : Pl) : Bool :=
  if p.kind = 1 then decide ((1 ≤ p.a ∧ p.a ≤ 1000000) ∧ p.item = 0 ∧ p.mail = 0)
  else if p.kind = 2 then decide ((1 ≤ p.a ∧ p.a ≤ 1000000) ∧ p.mail = 0)
  else if p.kind = 3 then decide ((1 ≤ p.a ∧ p.a ≤ 1000000) ∧ p.item = 0 ∧ 1 ≤ p.mail ∧ p.mail ≤ 1073741824)
  else if p.kind = 4 then decide ((1 ≤ p.a ∧ p.a ≤ 1073741824) ∧ p.item = 0 ∧ p.mail = 0)
  else if p.kind = 5 then decide ((p.a = 1 ∨ p.a = 2) ∧ p.item = 0 ∧ p.mail = 0)
  else if p.kind = 6 then decide (p.a ≤ 1 ∧ p.mail = 0)
  else false
def Pl.key (p : Pl) : List UInt8 :=
  if p.kind = 1 then 97 :: putB p.a 4
  else if p.kind = 2 then 105 :: (putB p.a 4 ++ putB p.item 2)
  else if p.kind = 3 then 109 :: (putB p.a 4 ++ putB p.mail 4)
  else if p.kind = 4 then 115 :: putB p.a 4
  else if p.kind = 5 then 110 :: putB p.a 1
  else 116 :: (putB p.a 1 ++ putB p.item 2)
def Pl.keyR (p : Pl) : List UInt8 × Int := if p.right then (p.key, 0) else ([], 100)
def Pl.zero : Pl := ⟨0, 0, 0, 0⟩
/-- The place that bytes tell of, right or not. -/
def seg (s : List UInt8) (i n : Nat) : Nat := getB ((s.drop i).take n)
def plOf (s : List UInt8) : Pl :=
  if s.getD 0 0 = 97 ∧ s.length = 5 then ⟨1, seg s 1 4, 0, 0⟩
  else if s.getD 0 0 = 105 ∧ s.length = 7 then ⟨2, seg s 1 4, seg s 5 2, 0⟩
  else if s.getD 0 0 = 109 ∧ s.length = 9 then ⟨3, seg s 1 4, 0, seg s 5 4⟩
  else if s.getD 0 0 = 115 ∧ s.length = 5 then ⟨4, seg s 1 4, 0, 0⟩
  else if s.getD 0 0 = 110 ∧ s.length = 2 then ⟨5, seg s 1 1, 0, 0⟩
  else if s.getD 0 0 = 116 ∧ s.length = 4 then ⟨6, seg s 1 1, seg s 2 2, 0⟩
  else Pl.zero
def parseK (s : List UInt8) : Pl × Int := if (plOf s).right then (plOf s, 0) else (Pl.zero, 100)

theorem seg_lt (s : List UInt8) (i n : Nat) : seg s i n < 256 ^ n := by
  unfold seg
  have h := getB_pow ((s.drop i).take n)
  exact Nat.lt_of_lt_of_le h (Nat.pow_le_pow_right (by decide) (by rw [List.length_take]; omega))
theorem q4 : (256 : Nat) ^ 4 = 4294967296 := rfl
theorem q2 : (256 : Nat) ^ 2 = 65536 := rfl
theorem q1 : (256 : Nat) ^ 1 = 256 := rfl
theorem plOf_ok (s : List UInt8) : (plOf s).Ok := by
  have h1 := seg_lt s 1 4
  have h2 := seg_lt s 5 2
  have h3 := seg_lt s 5 4
  have h4 := seg_lt s 1 1
  have h5 := seg_lt s 2 2
  rw [q4] at h1 h3
  rw [q2] at h2 h5
  rw [q1] at h4
  unfold plOf
  repeat' split
  all_goals exact ⟨by simp [Pl.zero, I64], by simp [Pl.zero]; try omega, by simp [Pl.zero]; try omega, by simp [Pl.zero]; try omega⟩

/-- What is right is of one of six kinds. -/
theorem Pl.right_kind (p : Pl) (h : p.right = true) : p.kind = 1 ∨ p.kind = 2 ∨ p.kind = 3 ∨ p.kind = 4 ∨ p.kind = 5 ∨ p.kind = 6 := by
  unfold Pl.right at h
  by_cases h1 : p.kind = 1; · exact .inl h1
  by_cases h2 : p.kind = 2; · exact .inr (.inl h2)
  by_cases h3 : p.kind = 3; · exact .inr (.inr (.inl h3))
  by_cases h4 : p.kind = 4; · exact .inr (.inr (.inr (.inl h4)))
  by_cases h5 : p.kind = 5; · exact .inr (.inr (.inr (.inr (.inl h5))))
  by_cases h6 : p.kind = 6; · exact .inr (.inr (.inr (.inr (.inr h6))))
  rw [if_neg h1, if_neg h2, if_neg h3, if_neg h4, if_neg h5, if_neg h6] at h
  cases h
theorem Pl.keyR_len (p : Pl) : p.keyR.1.length ≤ 9 := by
  unfold Pl.keyR
  split
  · unfold Pl.key
    repeat' split
    all_goals simp
  · simp

/-- A head's bytes that follow a mark. -/
theorem seg_head (c : UInt8) (x n : Nat) (r : List UInt8) (hn : n ≤ 8) (hx : x < 256 ^ n) : seg (c :: (putB x n ++ r)) 1 n = x := by
  unfold seg
  rw [List.drop_succ_cons, List.drop_zero, List.take_left' (putB_length x n), getB_putB x n hn hx]
theorem seg_tail (c : UInt8) (x n y m : Nat) (hm : m ≤ 8) (hy : y < 256 ^ m) : seg (c :: (putB x n ++ putB y m)) (1 + n) m = y := by
  unfold seg
  rw [Nat.add_comm, List.drop_succ_cons, List.drop_left' (putB_length x n), List.take_of_length_le (by simp), getB_putB y m hm hy]
/-- The place of a right place's key is that. -/
theorem Pl.back (p : Pl) (hp : p.Ok) (h : p.right = true) : parseK p.key = (p, 0) := by
  have e : plOf p.key = p := by
    obtain ⟨k, a, i, m⟩ := p
    have ha : a < 256 ^ 4 := by have := hp.a; rw [q4]; exact this
    have hi : i < 256 ^ 2 := by have := hp.item; rw [q2]; exact this
    have hm : m < 256 ^ 4 := by have := hp.mail; rw [q4]; exact this
    have hk := Pl.right_kind _ h
    dsimp only at hk
    rcases hk with rfl | rfl | rfl | rfl | rfl | rfl
    · have g := seg_head 97 a 4 [] (by decide) ha
      rw [List.append_nil] at g
      simp [Pl.right] at h
      simp [Pl.key, plOf, g, h]
    · have g := seg_head 105 a 4 (putB i 2) (by decide) ha
      have g2 := seg_tail 105 a 4 i 2 (by decide) hi
      simp [Pl.right] at h
      simp [Pl.key, plOf, g, g2, h]
    · have g := seg_head 109 a 4 (putB m 4) (by decide) ha
      have g2 := seg_tail 109 a 4 m 4 (by decide) hm
      simp [Pl.right] at h
      simp [Pl.key, plOf, g, g2, h]
    · have g := seg_head 115 a 4 [] (by decide) ha
      rw [List.append_nil] at g
      simp [Pl.right] at h
      simp [Pl.key, plOf, g, h]
    · simp [Pl.right] at h
      have g := seg_head 110 a 1 [] (by decide) (by rw [q1]; omega)
      rw [List.append_nil] at g
      simp [Pl.key, plOf, g, h]
    · simp [Pl.right] at h
      have g := seg_head 116 a 1 (putB i 2) (by decide) (by rw [q1]; omega)
      have g2 := seg_tail 116 a 1 i 2 (by decide) hi
      simp [Pl.key, plOf, g, g2, h]
  unfold parseK
  rw [e, if_pos h]
theorem seg_put (s : List UInt8) (i n : Nat) (h : i + n ≤ s.length) (hn : n ≤ 8) : putB (seg s i n) n = (s.drop i).take n := by
  have hl : ((s.drop i).take n).length = n := by rw [List.length_take, List.length_drop]; omega
  have := putB_getB ((s.drop i).take n) (by omega)
  rwa [hl] at this
theorem cons_of (s : List UInt8) (c : UInt8) (h : s.getD 0 0 = c) (hl : 0 < s.length) : s = c :: s.drop 1 := by
  cases s with
  | nil => simp at hl
  | cons x r => simp at h ⊢; exact h
theorem two_segs (s : List UInt8) (n m : Nat) (hl : s.length = 1 + n + m) : (s.drop 1).take n ++ (s.drop (1 + n)).take m = s.drop 1 := by
  have h1 : (s.drop (1 + n)).take m = s.drop (1 + n) := List.take_of_length_le (by rw [List.length_drop]; omega)
  rw [h1, ← List.drop_drop, List.take_append_drop]
/-- The key of the place of bytes, if that is right, is these bytes. -/
theorem plOf_key (s : List UInt8) (h : (plOf s).right = true) : (plOf s).key = s := by
  by_cases h1 : s.getD 0 0 = 97 ∧ s.length = 5
  · have e : plOf s = ⟨1, seg s 1 4, 0, 0⟩ := by unfold plOf; rw [if_pos h1]
    rw [e]
    simp only [Pl.key, if_true]
    rw [seg_put s 1 4 (by omega) (by decide), List.take_of_length_le (by rw [List.length_drop]; omega)]
    exact (cons_of s _ h1.1 (by omega)).symm
  by_cases h2 : s.getD 0 0 = 105 ∧ s.length = 7
  · have e : plOf s = ⟨2, seg s 1 4, seg s 5 2, 0⟩ := by unfold plOf; rw [if_neg h1, if_pos h2]
    rw [e]
    simp only [Pl.key]
    rw [if_neg (by decide), if_pos trivial, seg_put s 1 4 (by omega) (by decide), seg_put s 5 2 (by omega) (by decide), two_segs s 4 2 (by omega)]
    exact (cons_of s _ h2.1 (by omega)).symm
  by_cases h3 : s.getD 0 0 = 109 ∧ s.length = 9
  · have e : plOf s = ⟨3, seg s 1 4, 0, seg s 5 4⟩ := by unfold plOf; rw [if_neg h1, if_neg h2, if_pos h3]
    rw [e]
    simp only [Pl.key]
    rw [if_neg (by decide), if_neg (by decide), if_pos trivial, seg_put s 1 4 (by omega) (by decide), seg_put s 5 4 (by omega) (by decide), two_segs s 4 4 (by omega)]
    exact (cons_of s _ h3.1 (by omega)).symm
  by_cases h4 : s.getD 0 0 = 115 ∧ s.length = 5
  · have e : plOf s = ⟨4, seg s 1 4, 0, 0⟩ := by unfold plOf; rw [if_neg h1, if_neg h2, if_neg h3, if_pos h4]
    rw [e]
    simp only [Pl.key]
    rw [if_neg (by decide), if_neg (by decide), if_neg (by decide), if_pos trivial, seg_put s 1 4 (by omega) (by decide), List.take_of_length_le (by rw [List.length_drop]; omega)]
    exact (cons_of s _ h4.1 (by omega)).symm
  by_cases h5 : s.getD 0 0 = 110 ∧ s.length = 2
  · have e : plOf s = ⟨5, seg s 1 1, 0, 0⟩ := by unfold plOf; rw [if_neg h1, if_neg h2, if_neg h3, if_neg h4, if_pos h5]
    rw [e]
    simp only [Pl.key]
    rw [if_neg (by decide), if_neg (by decide), if_neg (by decide), if_neg (by decide), if_pos trivial, seg_put s 1 1 (by omega) (by decide), List.take_of_length_le (by rw [List.length_drop]; omega)]
    exact (cons_of s _ h5.1 (by omega)).symm
  by_cases h6 : s.getD 0 0 = 116 ∧ s.length = 4
  · have e : plOf s = ⟨6, seg s 1 1, seg s 2 2, 0⟩ := by unfold plOf; rw [if_neg h1, if_neg h2, if_neg h3, if_neg h4, if_neg h5, if_pos h6]
    rw [e]
    simp only [Pl.key]
    rw [if_neg (by decide), if_neg (by decide), if_neg (by decide), if_neg (by decide), if_neg (by decide), seg_put s 1 1 (by omega) (by decide), seg_put s 2 2 (by omega) (by decide), two_segs s 1 2 (by omega)]
    exact (cons_of s _ h6.1 (by omega)).symm
  · have e : plOf s = Pl.zero := by unfold plOf; rw [if_neg h1, if_neg h2, if_neg h3, if_neg h4, if_neg h5, if_neg h6]
    rw [e] at h
    exact absurd h (by decide)
end Go.Proofs.YtckkiilbabbeaaaDoor

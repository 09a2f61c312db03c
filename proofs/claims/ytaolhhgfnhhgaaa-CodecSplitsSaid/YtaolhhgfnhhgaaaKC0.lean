/- Money: amounts, sums, differences, products, what is moved, as numbers. -/
import Derived.DataShut
import Derived.Test.YtaolhhgfnhhgaaaKP3
import Derived.Test.YtaolhhgfnhhgaaaKS6
namespace Go.Proofs.Ytaolhhgfnhhgaaa
open Go Go.RowKit Sm

theorem bc_then {w w1 w2 : World} (h : Below w.heap.size w w1) (k : Below w1.heap.size w1 w2) : Below w.heap.size w w2 := h.trans (k.mono h.size)
theorem extM (s : List UInt8) (a b : Nat) : (⟨s.toArray⟩ : ByteArray).extract a b = ⟨((s.drop a).take (b - a)).toArray⟩ := by
  apply ByteArray.ext
  simp
/-- What an int64 can be. -/
def I64 (n : Int) : Prop := -9223372036854775808 ≤ n ∧ n ≤ 9223372036854775807
theorem i64_wf {z : Int} (h : (Lit.int IntKind.i64 z).wf = true) : I64 z := by
  have hr := (Lit.wf_int_iff .i64 z).1 h
  simp [IntKind.min, IntKind.signed, IntKind.max, IntKind.bits] at hr
  unfold I64
  omega
def amt (n : Int) : Bool := decide (0 ≤ n ∧ n ≤ 1152921504606846976)
theorem amt_iff (n : Int) : amt n = true ↔ (0 ≤ n ∧ n ≤ 1152921504606846976) := by unfold amt; exact decide_eq_true_iff
theorem amt_not (n : Int) : amt n = false ↔ ¬ (0 ≤ n ∧ n ≤ 1152921504606846976) := by unfold amt; exact decide_eq_false_iff_not
theorem amt_zero : amt 0 = true := by decide
/-- Each with its error. -/
def addA (a b : Int) : Int × Int := if amt a && amt b then (if amt (a + b) then (a + b, 0) else (0, 111)) else (0, 110)
def subA (a b : Int) : Int × Int := if amt a && amt b then (if b ≤ a then (a - b, 0) else (0, 112)) else (0, 110)
def mulA (a b : Int) : Int × Int := if amt a && amt b then (if amt (a * b) then (a * b, 0) else (0, 111)) else (0, 110)
def movA (f t n : Int) : Int × Int × Int :=
  if (subA f n).2 = 0 then (if (addA t n).2 = 0 then ((subA f n).1, (addA t n).1, 0) else (0, 0, (addA t n).2)) else (0, 0, (subA f n).2)

theorem addA_ok (a b : Int) (h : (addA a b).2 = 0) : amt a = true ∧ amt b = true ∧ amt (a + b) = true ∧ (addA a b).1 = a + b := by
  unfold addA at h ⊢
  by_cases h1 : (amt a && amt b) = true
  · rw [if_pos h1] at h ⊢
    by_cases h2 : amt (a + b) = true
    · rw [if_pos h2]; simp at h1; exact ⟨h1.1, h1.2, h2, rfl⟩
    · rw [if_neg h2] at h; exact absurd h (by decide)
  · rw [if_neg h1] at h; exact absurd h (by decide)
theorem addA_of (a b : Int) (h1 : amt a = true) (h2 : amt b = true) (h3 : amt (a + b) = true) : addA a b = (a + b, 0) := by simp [addA, h1, h2, h3]
theorem subA_ok (a b : Int) (h : (subA a b).2 = 0) : amt a = true ∧ amt b = true ∧ b ≤ a ∧ (subA a b).1 = a - b := by
  unfold subA at h ⊢
  by_cases h1 : (amt a && amt b) = true
  · rw [if_pos h1] at h ⊢
    by_cases h2 : b ≤ a
    · rw [if_pos h2]; simp at h1; exact ⟨h1.1, h1.2, h2, rfl⟩
    · rw [if_neg h2] at h; exact absurd h (by decide)
  · rw [if_neg h1] at h; exact absurd h (by decide)
theorem subA_of (a b : Int) (h1 : amt a = true) (h2 : amt b = true) (h3 : b ≤ a) : subA a b = (a - b, 0) := by simp [subA, h1, h2, h3]
theorem mulA_ok (a b : Int) (h : (mulA a b).2 = 0) : amt a = true ∧ amt b = true ∧ amt (a * b) = true ∧ (mulA a b).1 = a * b := by
  unfold mulA at h ⊢
  by_cases h1 : (amt a && amt b) = true
  · rw [if_pos h1] at h ⊢
    by_cases h2 : amt (a * b) = true
    · rw [if_pos h2]; simp at h1; exact ⟨h1.1, h1.2, h2, rfl⟩
    · rw [if_neg h2] at h; exact absurd h (by decide)
  · rw [if_neg h1] at h; exact absurd h (by decide)
theorem movA_ok (f t n : Int) (h : (movA f t n).2.2 = 0) : (subA f n).2 = 0 ∧ (addA t n).2 = 0 ∧ movA f t n = (f - n, t + n, 0) := by
  unfold movA at h ⊢
  by_cases h1 : (subA f n).2 = 0
  · rw [if_pos h1] at h ⊢
    by_cases h2 : (addA t n).2 = 0
    · rw [if_pos h2]
      exact ⟨h1, h2, by rw [(subA_ok f n h1).2.2.2, (addA_ok t n h2).2.2.2]⟩
    · rw [if_neg h2] at h; exact absurd h h2
  · rw [if_neg h1] at h; exact absurd h h1
/-- What is answered is an amount, with an error or without. -/
theorem addA_amt (a b : Int) : amt (addA a b).1 = true := by
  unfold addA
  by_cases h1 : (amt a && amt b) = true
  · rw [if_pos h1]
    by_cases h2 : amt (a + b) = true
    · rw [if_pos h2]; exact h2
    · rw [if_neg h2]; decide
  · rw [if_neg h1]; decide
theorem subA_amt (a b : Int) : amt (subA a b).1 = true := by
  unfold subA
  by_cases h1 : (amt a && amt b) = true
  · rw [if_pos h1]
    by_cases h2 : b ≤ a
    · rw [if_pos h2]
      rw [Bool.and_eq_true, amt_iff, amt_iff] at h1
      rw [amt_iff]
      dsimp only
      omega
    · rw [if_neg h2]; decide
  · rw [if_neg h1]; decide
theorem mulA_amt (a b : Int) : amt (mulA a b).1 = true := by
  unfold mulA
  by_cases h1 : (amt a && amt b) = true
  · rw [if_pos h1]
    by_cases h2 : amt (a * b) = true
    · rw [if_pos h2]; exact h2
    · rw [if_neg h2]; decide
  · rw [if_neg h1]; decide
theorem movA_amt (f t n : Int) : amt (movA f t n).1 = true ∧ amt (movA f t n).2.1 = true := by
  unfold movA
  split
  · split
    · exact ⟨subA_amt _ _, addA_amt _ _⟩
    · exact ⟨amt_zero, amt_zero⟩
  · exact ⟨amt_zero, amt_zero⟩
theorem addA_comm (a b : Int) : addA a b = addA b a := by unfold addA; rw [Bool.and_comm, Int.add_comm]
theorem mulA_comm (a b : Int) : mulA a b = mulA b a := by unfold mulA; rw [Bool.and_comm, Int.mul_comm]

/-- Case by case, in letters. -/
theorem ret2 {v c v' c' : Int} (h : (v, c) = (v', c')) : Ending.returned (.tuple #[.int .i64 v, .int .i64 c]) = Ending.returned (.tuple #[.int .i64 v', .int .i64 c']) := by cases h; rfl
theorem ret3 {v u c v' u' c' : Int} (h : (v, u, c) = (v', u', c')) : Ending.returned (.tuple #[.int .i64 v, .int .i64 u, .int .i64 c]) = Ending.returned (.tuple #[.int .i64 v', .int .i64 u', .int .i64 c']) := by cases h; rfl
theorem addA_bad {a b : Int} (h : ¬ (0 ≤ a ∧ a ≤ 1152921504606846976 ∧ 0 ≤ b ∧ b ≤ 1152921504606846976)) : ((0 : Int), (110 : Int)) = addA a b := by
  unfold addA
  rw [if_neg (fun hh => h (by rw [Bool.and_eq_true, amt_iff, amt_iff] at hh; exact ⟨hh.1.1, hh.1.2, hh.2.1, hh.2.2⟩))]
theorem addA_over {a b : Int} (h1 : 0 ≤ a ∧ a ≤ 1152921504606846976 ∧ 0 ≤ b ∧ b ≤ 1152921504606846976) (h2 : 1152921504606846976 < a + b) : ((0 : Int), (111 : Int)) = addA a b := by
  unfold addA
  rw [if_pos (by rw [Bool.and_eq_true, amt_iff, amt_iff]; exact ⟨⟨h1.1, h1.2.1⟩, h1.2.2⟩), if_neg (by rw [amt_iff]; omega)]
theorem addA_fine {a b : Int} (h1 : 0 ≤ a ∧ a ≤ 1152921504606846976 ∧ 0 ≤ b ∧ b ≤ 1152921504606846976) (h2 : a + b ≤ 1152921504606846976) : (a + b, (0 : Int)) = addA a b := by
  unfold addA
  rw [if_pos (by rw [Bool.and_eq_true, amt_iff, amt_iff]; exact ⟨⟨h1.1, h1.2.1⟩, h1.2.2⟩), if_pos (by rw [amt_iff]; omega)]
theorem subA_bad {a b : Int} (h : ¬ (0 ≤ a ∧ a ≤ 1152921504606846976 ∧ 0 ≤ b ∧ b ≤ 1152921504606846976)) : ((0 : Int), (110 : Int)) = subA a b := by
  unfold subA
  rw [if_neg (fun hh => h (by rw [Bool.and_eq_true, amt_iff, amt_iff] at hh; exact ⟨hh.1.1, hh.1.2, hh.2.1, hh.2.2⟩))]
theorem subA_over {a b : Int} (h1 : 0 ≤ a ∧ a ≤ 1152921504606846976 ∧ 0 ≤ b ∧ b ≤ 1152921504606846976) (h2 : a < b) : ((0 : Int), (112 : Int)) = subA a b := by
  unfold subA
  rw [if_pos (by rw [Bool.and_eq_true, amt_iff, amt_iff]; exact ⟨⟨h1.1, h1.2.1⟩, h1.2.2⟩), if_neg (by omega)]
theorem subA_fine {a b : Int} (h1 : 0 ≤ a ∧ a ≤ 1152921504606846976 ∧ 0 ≤ b ∧ b ≤ 1152921504606846976) (h2 : b ≤ a) : (a - b, (0 : Int)) = subA a b := by
  unfold subA
  rw [if_pos (by rw [Bool.and_eq_true, amt_iff, amt_iff]; exact ⟨⟨h1.1, h1.2.1⟩, h1.2.2⟩), if_pos h2]
theorem mulA_bad {a b : Int} (h : ¬ (0 ≤ a ∧ a ≤ 1152921504606846976 ∧ 0 ≤ b ∧ b ≤ 1152921504606846976)) : ((0 : Int), (110 : Int)) = mulA a b := by
  unfold mulA
  rw [if_neg (fun hh => h (by rw [Bool.and_eq_true, amt_iff, amt_iff] at hh; exact ⟨hh.1.1, hh.1.2, hh.2.1, hh.2.2⟩))]
theorem mulA_over {a b : Int} (h1 : 0 ≤ a ∧ a ≤ 1152921504606846976 ∧ 0 ≤ b ∧ b ≤ 1152921504606846976) (h2 : amt (a * b) = false) : ((0 : Int), (111 : Int)) = mulA a b := by
  unfold mulA
  rw [if_pos (by rw [Bool.and_eq_true, amt_iff, amt_iff]; exact ⟨⟨h1.1, h1.2.1⟩, h1.2.2⟩), if_neg (by simp [h2])]
theorem mulA_fine {a b : Int} (h1 : 0 ≤ a ∧ a ≤ 1152921504606846976 ∧ 0 ≤ b ∧ b ≤ 1152921504606846976) (h2 : amt (a * b) = true) : (a * b, (0 : Int)) = mulA a b := by
  unfold mulA
  rw [if_pos (by rw [Bool.and_eq_true, amt_iff, amt_iff]; exact ⟨⟨h1.1, h1.2.1⟩, h1.2.2⟩), if_pos h2]
theorem movA_eq (f t n : Int) : movA f t n = if (subA f n).2 = 0 then (if (addA t n).2 = 0 then ((subA f n).1, (addA t n).1, 0) else (0, 0, (addA t n).2)) else (0, 0, (subA f n).2) := rfl

/-- The document's test of a product: by a quotient. -/
theorem mul_test (a b : Int) (ha : amt a = true) (hb : amt b = true) : (0 < b ∧ 1152921504606846976 / b < a) ↔ amt (a * b) = false := by
  rw [amt_iff] at ha hb
  rw [amt_not]
  obtain ⟨M, hM⟩ : ∃ M : Int, (1152921504606846976 : Int) = M := ⟨_, rfl⟩
  rw [hM] at ha hb ⊢
  have h0 : 0 ≤ a * b := Int.mul_nonneg ha.1 hb.1
  constructor
  · rintro ⟨h1, h2⟩ h3
    have h4 := (Int.le_ediv_iff_mul_le h1).2 h3.2
    omega
  · intro h
    have h1 : ¬ a * b ≤ M := fun h2 => h ⟨h0, h2⟩
    have h2 : 0 < b := by
      rcases Int.lt_or_le 0 b with h2 | h2
      · exact h2
      · have : b = 0 := by omega
        subst this
        rw [Int.mul_zero] at h1
        omega
    exact ⟨h2, by
      rcases Int.lt_or_le (M / b) a with h3 | h3
      · exact h3
      · exact absurd ((Int.le_ediv_iff_mul_le h2).1 h3) h1⟩
end Go.Proofs.Ytaolhhgfnhhgaaa

/- Keys: places, which are right, their keys: reckoning. -/
namespace Go.Proofs.Ytaolhhgfnhhgaaa
open Go Go.RowKit Sm

structure Pl where
  kind : Int
  a : Nat
  item : Nat
  mail : Nat
def Pl.v (p : Pl) : Value := .agg #[.int .i64 p.kind, .int .u32 p.a, .int .u16 p.item, .int .u32 p.mail]
structure Pl.Ok (p : Pl) : Prop where
  k : I64 p.kind
  a : p.a < 4294967296
  item : p.item < 65536
  mail : p.mail < 4294967296
def acc (a : Nat) : Bool := decide (1 ≤ a ∧ a ≤ 1000000)
def Pl.right (p : Pl) : Bool :=
  if p.kind = 1 then decide ((1 ≤ p.a ∧ p.a ≤ 1000000) ∧ p.item = 0 ∧ p.mail = 0)
  else if p.kind = 2 then decide ((1 ≤ p.a ∧ p.a ≤ 1000000) ∧ p.mail = 0)
  else if p.kind = 3 then decide ((1 ≤ p.a ∧ p.a ≤ 1000000) ∧ p.item = 0 ∧ 1 ≤ p.mail ∧ p.mail ≤ 1073741824)
  else if p.kind = 4 then decide ((1 ≤ p.a ∧ p.a ≤ 1073741824) ∧ p.item = 0 ∧ p.mail = 0)
  else if p.kind = 5 then decide ((p.a = 1 ∨ p.a = 2) ∧ p.item = 0 ∧ p.mail = 0)
  else if p.kind = 6 then decide (p.a ≤ 1 ∧ p.mail = 0)
  else false
def Pl.key (p : Pl) : List UInt8 :=
  if p.kind = 1 then 97 :: putB p.a 4
  else if p.kind = 2 then 105 :: (putB p.a 4 ++ putB p.item 2)
  else if p.kind = 3 then 109 :: (putB p.a 4 ++ putB p.mail 4)
  else if p.kind = 4 then 115 :: putB p.a 4
  else if p.kind = 5 then 110 :: putB p.a 1
  else 116 :: (putB p.a 1 ++ putB p.item 2)
def Pl.keyR (p : Pl) : List UInt8 × Int := if p.right then (p.key, 0) else ([], 100)
def Pl.zero : Pl := ⟨0, 0, 0, 0⟩
/-- The place that bytes tell of, right or not. -/
def seg (s : List UInt8) (i n : Nat) : Nat := getB ((s.drop i).take n)
def plOf (s : List UInt8) : Pl :=
  if s.getD 0 0 = 97 ∧ s.length = 5 then ⟨1, seg s 1 4, 0, 0⟩
  else if s.getD 0 0 = 105 ∧ s.length = 7 then ⟨2, seg s 1 4, seg s 5 2, 0⟩
  else if s.getD 0 0 = 109 ∧ s.length = 9 then ⟨3, seg s 1 4, 0, seg s 5 4⟩
  else if s.getD 0 0 = 115 ∧ s.length = 5 then ⟨4, seg s 1 4, 0, 0⟩
  else if s.getD 0 0 = 110 ∧ s.length = 2 then ⟨5, seg s 1 1, 0, 0⟩
  else if s.getD 0 0 = 116 ∧ s.length = 4 then ⟨6, seg s 1 1, seg s 2 2, 0⟩
  else Pl.zero
def parseK (s : List UInt8) : Pl × Int := if (plOf s).right then (plOf s, 0) else (Pl.zero, 100)

theorem seg_lt (s : List UInt8) (i n : Nat) : seg s i n < 256 ^ n := by
  unfold seg
  have h := getB_pow ((s.drop i).take n)
  exact Nat.lt_of_lt_of_le h (Nat.pow_le_pow_right (by decide) (by rw [List.length_take]; omega))
theorem q4 : (256 : Nat) ^ 4 = 4294967296 := rfl
theorem q2 : (256 : Nat) ^ 2 = 65536 := rfl
theorem q1 : (256 : Nat) ^ 1 = 256 := rfl
theorem plOf_ok (s : List UInt8) : (plOf s).Ok := by
  have h1 := seg_lt s 1 4
  have h2 := seg_lt s 5 2
  have h3 := seg_lt s 5 4
  have h4 := seg_lt s 1 1
  have h5 := seg_lt s 2 2
  rw [q4] at h1 h3
  rw [q2] at h2 h5
  rw [q1] at h4
  unfold plOf
  repeat' split
  all_goals exact ⟨by simp [Pl.zero, I64], by simp [Pl.zero]; try omega, by simp [Pl.zero]; try omega, by simp [Pl.zero]; try omega⟩

/-- What is right is of one of six kinds. -/
theorem Pl.right_kind (p : Pl) (h : p.right = true) : p.kind = 1 ∨ p.kind = 2 ∨ p.kind = 3 ∨ p.kind = 4 ∨ p.kind = 5 ∨ p.kind = 6 := by
  unfold Pl.right at h
  by_cases h1 : p.kind = 1; · exact .inl h1
  by_cases h2 : p.kind = 2; · exact .inr (.inl h2)
  by_cases h3 : p.kind = 3; · exact .inr (.inr (.inl h3))
  by_cases h4 : p.kind = 4; · exact .inr (.inr (.inr (.inl h4)))
  by_cases h5 : p.kind = 5; · exact .inr (.inr (.inr (.inr (.inl h5))))
  by_cases h6 : p.kind = 6; · exact .inr (.inr (.inr (.inr (.inr h6))))
  rw [if_neg h1, if_neg h2, if_neg h3, if_neg h4, if_neg h5, if_neg h6] at h
  cases h
theorem Pl.keyR_len (p : Pl) : p.keyR.1.length ≤ 9 := by
  unfold Pl.keyR
  split
  · unfold Pl.key
    repeat' split
    all_goals simp
  · simp

/-- A head's bytes that follow a mark. -/
theorem seg_head (c : UInt8) (x n : Nat) (r : List UInt8) (hn : n ≤ 8) (hx : x < 256 ^ n) : seg (c :: (putB x n ++ r)) 1 n = x := by
  unfold seg
  rw [List.drop_succ_cons, List.drop_zero, List.take_left' (putB_length x n), getB_putB x n hn hx]
theorem seg_tail (c : UInt8) (x n y m : Nat) (hm : m ≤ 8) (hy : y < 256 ^ m) : seg (c :: (putB x n ++ putB y m)) (1 + n) m = y := by
  unfold seg
  rw [Nat.add_comm, List.drop_succ_cons, List.drop_left' (putB_length x n), List.take_of_length_le (by simp), getB_putB y m hm hy]
/-- The place of a right place's key is that. -/
theorem Pl.back (p : Pl) (hp : p.Ok) (h : p.right = true) : parseK p.key = (p, 0) := by
  have e : plOf p.key = p := by
    obtain ⟨k, a, i, m⟩ := p
    have ha : a < 256 ^ 4 := by have := hp.a; rw [q4]; exact this
    have hi : i < 256 ^ 2 := by have := hp.item; rw [q2]; exact this
    have hm : m < 256 ^ 4 := by have := hp.mail; rw [q4]; exact this
    have hk := Pl.right_kind _ h
    dsimp only at hk
    rcases hk with rfl | rfl | rfl | rfl | rfl | rfl
    · have g := seg_head 97 a 4 [] (by decide) ha
      rw [List.append_nil] at g
      simp [Pl.right] at h
      simp [Pl.key, plOf, g, h]
    · have g := seg_head 105 a 4 (putB i 2) (by decide) ha
      have g2 := seg_tail 105 a 4 i 2 (by decide) hi
      simp [Pl.right] at h
      simp [Pl.key, plOf, g, g2, h]
    · have g := seg_head 109 a 4 (putB m 4) (by decide) ha
      have g2 := seg_tail 109 a 4 m 4 (by decide) hm
      simp [Pl.right] at h
      simp [Pl.key, plOf, g, g2, h]
    · have g := seg_head 115 a 4 [] (by decide) ha
      rw [List.append_nil] at g
      simp [Pl.right] at h
      simp [Pl.key, plOf, g, h]
    · simp [Pl.right] at h
      have g := seg_head 110 a 1 [] (by decide) (by rw [q1]; omega)
      rw [List.append_nil] at g
      simp [Pl.key, plOf, g, h]
    · simp [Pl.right] at h
      have g := seg_head 116 a 1 (putB i 2) (by decide) (by rw [q1]; omega)
      have g2 := seg_tail 116 a 1 i 2 (by decide) hi
      simp [Pl.key, plOf, g, g2, h]
  unfold parseK
  rw [e, if_pos h]
theorem seg_put (s : List UInt8) (i n : Nat) (h : i + n ≤ s.length) (hn : n ≤ 8) : putB (seg s i n) n = (s.drop i).take n := by
  have hl : ((s.drop i).take n).length = n := by rw [List.length_take, List.length_drop]; omega
  have := putB_getB ((s.drop i).take n) (by omega)
  rwa [hl] at this
theorem cons_of (s : List UInt8) (c : UInt8) (h : s.getD 0 0 = c) (hl : 0 < s.length) : s = c :: s.drop 1 := by
  cases s with
  | nil => simp at hl
  | cons x r => simp at h ⊢; exact h
theorem two_segs (s : List UInt8) (n m : Nat) (hl : s.length = 1 + n + m) : (s.drop 1).take n ++ (s.drop (1 + n)).take m = s.drop 1 := by
  have h1 : (s.drop (1 + n)).take m = s.drop (1 + n) := List.take_of_length_le (by rw [List.length_drop]; omega)
  rw [h1, ← List.drop_drop, List.take_append_drop]
/-- The key of the place of bytes, if that is right, is these bytes. -/
theorem plOf_key (s : List UInt8) (h : (plOf s).right = true) : (plOf s).key = s := by
  by_cases h1 : s.getD 0 0 = 97 ∧ s.length = 5
  · have e : plOf s = ⟨1, seg s 1 4, 0, 0⟩ := by unfold plOf; rw [if_pos h1]
    rw [e]
    simp only [Pl.key, if_true]
    rw [seg_put s 1 4 (by omega) (by decide), List.take_of_length_le (by rw [List.length_drop]; omega)]
    exact (cons_of s _ h1.1 (by omega)).symm
  by_cases h2 : s.getD 0 0 = 105 ∧ s.length = 7
  · have e : plOf s = ⟨2, seg s 1 4, seg s 5 2, 0⟩ := by unfold plOf; rw [if_neg h1, if_pos h2]
    rw [e]
    simp only [Pl.key]
    rw [if_neg (by decide), if_pos trivial, seg_put s 1 4 (by omega) (by decide), seg_put s 5 2 (by omega) (by decide), two_segs s 4 2 (by omega)]
    exact (cons_of s _ h2.1 (by omega)).symm
  by_cases h3 : s.getD 0 0 = 109 ∧ s.length = 9
  · have e : plOf s = ⟨3, seg s 1 4, 0, seg s 5 4⟩ := by unfold plOf; rw [if_neg h1, if_neg h2, if_pos h3]
    rw [e]
    simp only [Pl.key]
    rw [if_neg (by decide), if_neg (by decide), if_pos trivial, seg_put s 1 4 (by omega) (by decide), seg_put s 5 4 (by omega) (by decide), two_segs s 4 4 (by omega)]
    exact (cons_of s _ h3.1 (by omega)).symm
  by_cases h4 : s.getD 0 0 = 115 ∧ s.length = 5
  · have e : plOf s = ⟨4, seg s 1 4, 0, 0⟩ := by unfold plOf; rw [if_neg h1, if_neg h2, if_neg h3, if_pos h4]
    rw [e]
    simp only [Pl.key]
    rw [if_neg (by decide), if_neg (by decide), if_neg (by decide), if_pos trivial, seg_put s 1 4 (by omega) (by decide), List.take_of_length_le (by rw [List.length_drop]; omega)]
    exact (cons_of s _ h4.1 (by omega)).symm
  by_cases h5 : s.getD 0 0 = 110 ∧ s.length = 2
  · have e : plOf s = ⟨5, seg s 1 1, 0, 0⟩ := by unfold plOf; rw [if_neg h1, if_neg h2, if_neg h3, if_neg h4, if_pos h5]
    rw [e]
    simp only [Pl.key]
    rw [if_neg (by decide), if_neg (by decide), if_neg (by decide), if_neg (by decide), if_pos trivial, seg_put s 1 1 (by omega) (by decide), List.take_of_length_le (by rw [List.length_drop]; omega)]
    exact (cons_of s _ h5.1 (by omega)).symm
  by_cases h6 : s.getD 0 0 = 116 ∧ s.length = 4
  · have e : plOf s = ⟨6, seg s 1 1, seg s 2 2, 0⟩ := by unfold plOf; rw [if_neg h1, if_neg h2, if_neg h3, if_neg h4, if_neg h5, if_pos h6]
    rw [e]
    simp only [Pl.key]
    rw [if_neg (by decide), if_neg (by decide), if_neg (by decide), if_neg (by decide), if_neg (by decide), seg_put s 1 1 (by omega) (by decide), seg_put s 2 2 (by omega) (by decide), two_segs s 1 2 (by omega)]
    exact (cons_of s _ h6.1 (by omega)).symm
  · have e : plOf s = Pl.zero := by unfold plOf; rw [if_neg h1, if_neg h2, if_neg h3, if_neg h4, if_neg h5, if_neg h6]
    rw [e] at h
    exact absurd h (by decide)
end Go.Proofs.Ytaolhhgfnhhgaaa

/- Numbers of eight bytes as signed ones; pieces of bytes laid one behind the other; commands, answers. -/
namespace Go.Proofs.Ytaolhhgfnhhgaaa
open Go Go.RowKit Sm

/-- A number of eight bytes, as a signed one; a signed one, as a number of eight bytes. -/
def sgn (n : Nat) : Int := if n < 9223372036854775808 then n else (n : Int) - 18446744073709551616
def uns (n : Int) : Nat := (n % 18446744073709551616).toNat
theorem q8 : (256 : Nat) ^ 8 = 18446744073709551616 := rfl
theorem sgn_wrap (n : Nat) (h : n < 18446744073709551616) : IntKind.i64.wrap (n : Int) = sgn n := by
  rw [IntKind.wrap_i64]
  unfold sgn
  split <;> omega
theorem sgn_i64 (n : Nat) (h : n < 18446744073709551616) : I64 (sgn n) := by
  unfold sgn I64
  split <;> omega
theorem uns_lt (n : Int) : uns n < 18446744073709551616 := by unfold uns; omega
theorem uns_wrap (n : Int) : IntKind.u64.wrap n = (uns n : Nat) := by
  rw [IntKind.wrap_u64]
  unfold uns
  omega
theorem sgn_uns (n : Int) (h : I64 n) : sgn (uns n) = n := by
  unfold I64 at h
  unfold sgn uns
  split <;> omega
theorem uns_sgn (n : Nat) (h : n < 18446744073709551616) : uns (sgn n) = n := by
  unfold sgn uns
  split <;> omega
/-- A piece of bytes laid one behind the other. -/
theorem seg_skip (p r : List UInt8) (i n : Nat) (h : i = p.length) : seg (p ++ r) i n = seg r 0 n := by
  subst h
  unfold seg
  rw [List.drop_left, List.drop_zero]
theorem seg_here (x n : Nat) (r : List UInt8) (hn : n ≤ 8) (hx : x < 256 ^ n) : seg (putB x n ++ r) 0 n = x := by
  unfold seg
  rw [List.drop_zero, List.take_left' (putB_length x n), getB_putB x n hn hx]
/-- A command. -/
structure Cm where
  op : Int
  a : Nat
  b : Nat
  item : Nat
  n : Int
  m : Int
def Cm.v (c : Cm) : Value := .agg #[.int .i64 c.op, .int .u32 c.a, .int .u32 c.b, .int .u16 c.item, .int .i64 c.n, .int .i64 c.m]
structure Cm.Ok (c : Cm) : Prop where
  op : I64 c.op
  a : c.a < 4294967296
  b : c.b < 4294967296
  item : c.item < 65536
  n : I64 c.n
  m : I64 c.m
/-- An answer. -/
structure Aw where
  e : Int
  x : Int
  y : Int
def Aw.v (a : Aw) : Value := .agg #[.int .i64 a.e, .int .i64 a.x, .int .i64 a.y]
structure Aw.Ok (a : Aw) : Prop where
  e : I64 a.e
  x : I64 a.x
  y : I64 a.y
end Go.Proofs.Ytaolhhgfnhhgaaa

/- Codec: requests, replies, frames, streams: reckoning. -/
namespace Go.Proofs.Ytaolhhgfnhhgaaa
open Go Go.RowKit Sm

def opOk (n : Int) : Bool := decide (1 ≤ n ∧ n ≤ 21)
def erOk (n : Int) : Bool := decide (0 ≤ n ∧ n ≤ 999)
def lnOk (n : Int) : Bool := decide (1 ≤ n ∧ n ≤ 100)
def Cm.zero : Cm := ⟨0, 0, 0, 0, 0, 0⟩
def Aw.zero : Aw := ⟨0, 0, 0⟩
def encC (c : Cm) : List UInt8 := putB c.op.toNat 1 ++ (putB c.a 4 ++ (putB c.b 4 ++ (putB c.item 2 ++ (putB (uns c.n) 8 ++ putB (uns c.m) 8))))
def encA (a : Aw) : List UInt8 := putB a.e.toNat 2 ++ (putB (uns a.x) 8 ++ putB (uns a.y) 8)
def cmOf (s : List UInt8) : Cm := ⟨seg s 0 1, seg s 1 4, seg s 5 4, seg s 9 2, sgn (seg s 11 8), sgn (seg s 19 8)⟩
def awOf (s : List UInt8) : Aw := ⟨seg s 0 2, sgn (seg s 2 8), sgn (seg s 10 8)⟩
def reqR (c : Cm) : List UInt8 × Int := if opOk c.op then (encC c, 0) else ([], 170)
def repR (a : Aw) : List UInt8 × Int := if erOk a.e then (encA a, 0) else ([], 170)
def preqR (s : List UInt8) : Cm × Int := if s.length = 27 ∧ opOk (cmOf s).op = true then (cmOf s, 0) else (Cm.zero, 170)
def prepR (s : List UInt8) : Aw × Int := if s.length = 18 ∧ erOk (awOf s).e = true then (awOf s, 0) else (Aw.zero, 170)
def frameR (s : List UInt8) : List UInt8 × Int := if 1 ≤ s.length ∧ s.length ≤ 100 then (putB s.length 2 ++ s, 0) else ([], 170)
/-- The length at a stream's head. -/
def hdS (s : List UInt8) : Nat := getB (s.take 2)
def splR (s : List UInt8) : List (List UInt8) × List UInt8 × Int :=
  if s.length < 2 then ([], s, 0)
  else if hdS s < 1 ∨ 100 < hdS s then ([], s, 170)
  else if s.length < 2 + hdS s then ([], s, 0)
  else ((s.drop 2).take (hdS s) :: (splR (s.drop (2 + hdS s))).1, (splR (s.drop (2 + hdS s))).2)
termination_by s.length
decreasing_by all_goals (rw [List.length_drop]; omega)
/-- A stream's lengths, each with all that stands behind it. -/
def frS (s : List UInt8) : List (Nat × List UInt8) :=
  if s.length < 2 then []
  else if s.length < 2 + hdS s then [(hdS s, s.drop 2)]
  else (hdS s, s.drop 2) :: frS (s.drop (2 + hdS s))
termination_by s.length
decreasing_by all_goals (rw [List.length_drop]; omega)

theorem hdS_lt (s : List UInt8) : hdS s < 65536 := by
  have h := getB_pow (s.take 2)
  have h2 : 256 ^ (s.take 2).length ≤ 256 ^ 2 := Nat.pow_le_pow_right (by decide) (by rw [List.length_take]; exact Nat.min_le_left _ _)
  have := Nat.lt_of_lt_of_le h h2
  rw [q2] at this
  exact this
theorem encC_len (c : Cm) : (encC c).length = 27 := by simp [encC]
theorem encA_len (a : Aw) : (encA a).length = 18 := by simp [encA]
theorem cmOf_ok (s : List UInt8) : (cmOf s).Ok := by
  have h0 := seg_lt s 0 1
  have h1 := seg_lt s 1 4
  have h2 := seg_lt s 5 4
  have h3 := seg_lt s 9 2
  have h4 := seg_lt s 11 8
  have h5 := seg_lt s 19 8
  rw [q1] at h0
  rw [q4] at h1 h2
  rw [q2] at h3
  rw [q8] at h4 h5
  refine ⟨?_, h1, h2, h3, sgn_i64 _ h4, sgn_i64 _ h5⟩
  unfold I64 cmOf
  dsimp only
  omega
theorem awOf_ok (s : List UInt8) : (awOf s).Ok := by
  have h0 := seg_lt s 0 2
  have h4 := seg_lt s 2 8
  have h5 := seg_lt s 10 8
  rw [q2] at h0
  rw [q8] at h4 h5
  refine ⟨?_, sgn_i64 _ h4, sgn_i64 _ h5⟩
  unfold I64 awOf
  dsimp only
  omega
theorem Cm.zero_ok : Cm.zero.Ok := ⟨by unfold I64; decide, by decide, by decide, by decide, by unfold I64; decide, by unfold I64; decide⟩
theorem Aw.zero_ok : Aw.zero.Ok := ⟨by unfold I64; decide, by unfold I64; decide, by unfold I64; decide⟩
theorem preqR_ok (s : List UInt8) : (preqR s).1.Ok := by
  unfold preqR
  split
  · exact cmOf_ok s
  · exact Cm.zero_ok
theorem prepR_ok (s : List UInt8) : (prepR s).1.Ok := by
  unfold prepR
  split
  · exact awOf_ok s
  · exact Aw.zero_ok
theorem opOk_iff (n : Int) : opOk n = true ↔ (1 ≤ n ∧ n ≤ 21) := by unfold opOk; exact decide_eq_true_iff
theorem erOk_iff (n : Int) : erOk n = true ↔ (0 ≤ n ∧ n ≤ 999) := by unfold erOk; exact decide_eq_true_iff
theorem cm_back (c : Cm) (hc : c.Ok) (h : opOk c.op = true) : cmOf (encC c) = c := by
  obtain ⟨op, a, b, i, n, m⟩ := c
  have h1 := hc.a
  have h2 := hc.b
  have h3 := hc.item
  have h0 := (opOk_iff _).1 h
  have hn := sgn_uns n hc.n
  have hm := sgn_uns m hc.m
  have un := uns_lt n
  have um := uns_lt m
  dsimp only at h0 h1 h2 h3 hn hm un um
  unfold cmOf encC
  dsimp only
  have e0 : seg (putB op.toNat 1 ++ (putB a 4 ++ (putB b 4 ++ (putB i 2 ++ (putB (uns n) 8 ++ putB (uns m) 8))))) 0 1 = op.toNat := seg_here _ _ _ (by decide) (by rw [q1]; omega)
  have e1 : seg (putB op.toNat 1 ++ (putB a 4 ++ (putB b 4 ++ (putB i 2 ++ (putB (uns n) 8 ++ putB (uns m) 8))))) 1 4 = a := by
    rw [seg_skip _ _ 1 4 (by simp)]; exact seg_here _ _ _ (by decide) (by rw [q4]; omega)
  have e2 : seg (putB op.toNat 1 ++ (putB a 4 ++ (putB b 4 ++ (putB i 2 ++ (putB (uns n) 8 ++ putB (uns m) 8))))) 5 4 = b := by
    rw [← List.append_assoc, seg_skip _ _ 5 4 (by simp)]; exact seg_here _ _ _ (by decide) (by rw [q4]; omega)
  have e3 : seg (putB op.toNat 1 ++ (putB a 4 ++ (putB b 4 ++ (putB i 2 ++ (putB (uns n) 8 ++ putB (uns m) 8))))) 9 2 = i := by
    rw [← List.append_assoc, ← List.append_assoc, seg_skip _ _ 9 2 (by simp)]; exact seg_here _ _ _ (by decide) (by rw [q2]; omega)
  have e4 : seg (putB op.toNat 1 ++ (putB a 4 ++ (putB b 4 ++ (putB i 2 ++ (putB (uns n) 8 ++ putB (uns m) 8))))) 11 8 = uns n := by
    rw [← List.append_assoc, ← List.append_assoc, ← List.append_assoc, seg_skip _ _ 11 8 (by simp)]; exact seg_here _ _ _ (by decide) (by rw [q8]; omega)
  have e5 : seg (putB op.toNat 1 ++ (putB a 4 ++ (putB b 4 ++ (putB i 2 ++ (putB (uns n) 8 ++ putB (uns m) 8))))) 19 8 = uns m := by
    rw [← List.append_assoc, ← List.append_assoc, ← List.append_assoc, ← List.append_assoc, seg_skip _ _ 19 8 (by simp)]
    have := seg_here (uns m) 8 [] (by decide) (by rw [q8]; omega)
    rwa [List.append_nil] at this
  rw [e0, e1, e2, e3, e4, e5, hn, hm, show ((op.toNat : Nat) : Int) = op by omega]
theorem aw_back (a : Aw) (ha : a.Ok) (h : erOk a.e = true) : awOf (encA a) = a := by
  obtain ⟨e, x, y⟩ := a
  have h0 := (erOk_iff _).1 h
  have hn := sgn_uns x ha.x
  have hm := sgn_uns y ha.y
  have un := uns_lt x
  have um := uns_lt y
  dsimp only at h0 hn hm un um
  unfold awOf encA
  dsimp only
  have e0 : seg (putB e.toNat 2 ++ (putB (uns x) 8 ++ putB (uns y) 8)) 0 2 = e.toNat := seg_here _ _ _ (by decide) (by rw [q2]; omega)
  have e1 : seg (putB e.toNat 2 ++ (putB (uns x) 8 ++ putB (uns y) 8)) 2 8 = uns x := by
    rw [seg_skip _ _ 2 8 (by simp)]; exact seg_here _ _ _ (by decide) (by rw [q8]; omega)
  have e2 : seg (putB e.toNat 2 ++ (putB (uns x) 8 ++ putB (uns y) 8)) 10 8 = uns y := by
    rw [← List.append_assoc, seg_skip _ _ 10 8 (by simp)]
    have := seg_here (uns y) 8 [] (by decide) (by rw [q8]; omega)
    rwa [List.append_nil] at this
  rw [e0, e1, e2, hn, hm, show ((e.toNat : Nat) : Int) = e by omega]
theorem req_back (c : Cm) (hc : c.Ok) (h : (reqR c).2 = 0) : preqR (reqR c).1 = (c, 0) := by
  unfold reqR at h ⊢
  by_cases ho : opOk c.op = true
  · rw [if_pos ho]
    unfold preqR
    rw [cm_back c hc ho, if_pos ⟨encC_len c, ho⟩]
  · rw [if_neg ho] at h; exact absurd h (by decide)
theorem rep_back (a : Aw) (ha : a.Ok) (h : (repR a).2 = 0) : prepR (repR a).1 = (a, 0) := by
  unfold repR at h ⊢
  by_cases ho : erOk a.e = true
  · rw [if_pos ho]
    unfold prepR
    rw [aw_back a ha ho, if_pos ⟨encA_len a, ho⟩]
  · rw [if_neg ho] at h; exact absurd h (by decide)
/-- Two pieces that stand one behind the other. -/
theorem piece_two (s : List UInt8) (i n m : Nat) : (s.drop i).take n ++ (s.drop (i + n)).take m = (s.drop i).take (n + m) := by
  rw [← List.drop_drop, ← List.take_add]
theorem cm_of (s : List UInt8) (h : s.length = 27) : encC (cmOf s) = s := by
  have u4 := uns_sgn (seg s 11 8) (by have := seg_lt s 11 8; rw [q8] at this; exact this)
  have u5 := uns_sgn (seg s 19 8) (by have := seg_lt s 19 8; rw [q8] at this; exact this)
  unfold encC cmOf
  dsimp only
  rw [u4, u5, Int.toNat_natCast, seg_put s 0 1 (by omega) (by decide), seg_put s 1 4 (by omega) (by decide), seg_put s 5 4 (by omega) (by decide), seg_put s 9 2 (by omega) (by decide), seg_put s 11 8 (by omega) (by decide), seg_put s 19 8 (by omega) (by decide)]
  rw [piece_two s 11 8 8, piece_two s 9 2 16, piece_two s 5 4 18, piece_two s 1 4 22, piece_two s 0 1 26, List.drop_zero, List.take_of_length_le (by omega)]
theorem aw_of (s : List UInt8) (h : s.length = 18) : encA (awOf s) = s := by
  have u4 := uns_sgn (seg s 2 8) (by have := seg_lt s 2 8; rw [q8] at this; exact this)
  have u5 := uns_sgn (seg s 10 8) (by have := seg_lt s 10 8; rw [q8] at this; exact this)
  unfold encA awOf
  dsimp only
  rw [u4, u5, Int.toNat_natCast, seg_put s 0 2 (by omega) (by decide), seg_put s 2 8 (by omega) (by decide), seg_put s 10 8 (by omega) (by decide)]
  rw [piece_two s 2 8 8, piece_two s 0 2 16, List.drop_zero, List.take_of_length_le (by omega)]
theorem preq_back (s : List UInt8) (h : (preqR s).2 = 0) : reqR (preqR s).1 = (s, 0) := by
  unfold preqR at h ⊢
  split
  · rename_i hc
    unfold reqR
    rw [if_pos hc.2, cm_of s hc.1]
  · rename_i hc; rw [if_neg hc] at h; exact absurd h (by decide)
theorem prep_back (s : List UInt8) (h : (prepR s).2 = 0) : repR (prepR s).1 = (s, 0) := by
  unfold prepR at h ⊢
  split
  · rename_i hc
    unfold repR
    rw [if_pos hc.2, aw_of s hc.1]
  · rename_i hc; rw [if_neg hc] at h; exact absurd h (by decide)
/-! ### Streams -/
theorem splR_short (s : List UInt8) (h : s.length < 2) : splR s = ([], s, 0) := by rw [splR, if_pos h]
theorem splR_bad (s : List UInt8) (h : 2 ≤ s.length) (hb : hdS s < 1 ∨ 100 < hdS s) : splR s = ([], s, 170) := by rw [splR, if_neg (by omega), if_pos hb]
theorem splR_part (s : List UInt8) (h : 2 ≤ s.length) (hb : ¬ (hdS s < 1 ∨ 100 < hdS s)) (hl : s.length < 2 + hdS s) : splR s = ([], s, 0) := by rw [splR, if_neg (by omega), if_neg hb, if_pos hl]
theorem splR_next (s : List UInt8) (h : 2 ≤ s.length) (hb : ¬ (hdS s < 1 ∨ 100 < hdS s)) (hl : 2 + hdS s ≤ s.length) : splR s = ((s.drop 2).take (hdS s) :: (splR (s.drop (2 + hdS s))).1, (splR (s.drop (2 + hdS s))).2) := by
  rw [splR, if_neg (by omega), if_neg hb, if_neg (by omega)]
theorem frS_short (s : List UInt8) (h : s.length < 2) : frS s = [] := by rw [frS, if_pos h]
theorem frS_part (s : List UInt8) (h : 2 ≤ s.length) (hl : s.length < 2 + hdS s) : frS s = [(hdS s, s.drop 2)] := by rw [frS, if_neg (by omega), if_pos hl]
theorem frS_next (s : List UInt8) (h : 2 ≤ s.length) (hl : 2 + hdS s ≤ s.length) : frS s = (hdS s, s.drop 2) :: frS (s.drop (2 + hdS s)) := by rw [frS, if_neg (by omega), if_neg (by omega)]
theorem frS_len (s : List UInt8) : (frS s).length ≤ s.length := by
  by_cases h : s.length < 2
  · rw [frS_short s h]; exact Nat.zero_le _
  · by_cases hl : s.length < 2 + hdS s
    · rw [frS_part s (by omega) hl]; simp only [List.length_cons, List.length_nil]; omega
    · have := frS_len (s.drop (2 + hdS s))
      rw [frS_next s (by omega) (by omega), List.length_cons]
      rw [List.length_drop] at this
      omega
termination_by s.length
decreasing_by (rw [List.length_drop]; omega)
theorem splR_len (s : List UInt8) : (splR s).1.length ≤ s.length := by
  by_cases h : s.length < 2
  · rw [splR_short s h]; exact Nat.zero_le _
  · by_cases hb : hdS s < 1 ∨ 100 < hdS s
    · rw [splR_bad s (by omega) hb]; exact Nat.zero_le _
    · by_cases hl : s.length < 2 + hdS s
      · rw [splR_part s (by omega) hb hl]; exact Nat.zero_le _
      · have := splR_len (s.drop (2 + hdS s))
        rw [splR_next s (by omega) hb (by omega)]
        dsimp only
        rw [List.length_cons]
        rw [List.length_drop] at this
        omega
termination_by s.length
decreasing_by (rw [List.length_drop]; omega)
theorem splR_rest (s : List UInt8) : (splR s).2.1.length ≤ s.length := by
  by_cases h : s.length < 2
  · rw [splR_short s h]; exact Nat.le_refl _
  · by_cases hb : hdS s < 1 ∨ 100 < hdS s
    · rw [splR_bad s (by omega) hb]; exact Nat.le_refl _
    · by_cases hl : s.length < 2 + hdS s
      · rw [splR_part s (by omega) hb hl]; exact Nat.le_refl _
      · have := splR_rest (s.drop (2 + hdS s))
        rw [splR_next s (by omega) hb (by omega)]
        dsimp only
        rw [List.length_drop] at this
        omega
termination_by s.length
decreasing_by (rw [List.length_drop]; omega)
theorem splR_item (s : List UInt8) : ∀ x ∈ (splR s).1, x.length ≤ s.length := by
  by_cases h : s.length < 2
  · rw [splR_short s h]; intro x hx; cases hx
  · by_cases hb : hdS s < 1 ∨ 100 < hdS s
    · rw [splR_bad s (by omega) hb]; intro x hx; cases hx
    · by_cases hl : s.length < 2 + hdS s
      · rw [splR_part s (by omega) hb hl]; intro x hx; cases hx
      · have := splR_item (s.drop (2 + hdS s))
        rw [splR_next s (by omega) hb (by omega)]
        intro x hx
        rcases List.mem_cons.1 hx with rfl | hx
        · rw [List.length_take, List.length_drop]; omega
        · have := this x hx
          rw [List.length_drop] at this
          omega
termination_by s.length
decreasing_by (rw [List.length_drop]; omega)
/-- A frame's length. -/
theorem hdS_frame (x u : List UInt8) (h : x.length ≤ 100) : hdS (putB x.length 2 ++ u) = x.length := by
  unfold hdS
  rw [List.take_left' (putB_length _ _), getB_putB _ _ (by decide) (by rw [q2]; omega)]
theorem splR_frame (x u : List UInt8) (h1 : 1 ≤ x.length) (h : x.length ≤ 100) : splR ((putB x.length 2 ++ x) ++ u) = (x :: (splR u).1, (splR u).2) := by
  have hh : hdS ((putB x.length 2 ++ x) ++ u) = x.length := by rw [List.append_assoc]; exact hdS_frame x _ h
  have hl : ((putB x.length 2 ++ x) ++ u).length = 2 + x.length + u.length := by simp; omega
  have h2 : ((putB x.length 2 ++ x) ++ u).drop (2 + x.length) = u := List.drop_left' (by simp)
  have h3 : (((putB x.length 2 ++ x) ++ u).drop 2).take x.length = x := by
    rw [List.append_assoc, List.drop_left' (putB_length _ _), List.take_left]
  rw [splR_next _ (by omega) (by omega) (by omega), hh, h2, h3]
/-- Frames one behind the other. -/
def frames (l : List (List UInt8)) : List UInt8 := l.flatMap fun x => putB x.length 2 ++ x
def GoodF (l : List (List UInt8)) : Prop := ∀ x ∈ l, 1 ≤ x.length ∧ x.length ≤ 100
theorem splR_frames : ∀ (l : List (List UInt8)), GoodF l → splR (frames l) = (l, [], 0)
  | [], _ => splR_short _ (by simp [frames])
  | x :: l, h => by
    have hx := h x List.mem_cons_self
    have := splR_frames l (fun y hy => h y (List.mem_cons_of_mem _ hy))
    show splR ((putB x.length 2 ++ x) ++ frames l) = _
    rw [splR_frame x _ hx.1 hx.2, this]
/-- Wherever a stream of frames is cut. -/
theorem splR_cut : ∀ (l : List (List UInt8)), GoodF l → ∀ t u, t ++ u = frames l → (splR t).2.2 = 0 ∧ splR ((splR t).2.1 ++ u) = (((splR ((splR t).2.1 ++ u)).1), [], 0) ∧ (splR t).1 ++ (splR ((splR t).2.1 ++ u)).1 = l
  | [], _ => fun t u h => by
    obtain ⟨rfl, rfl⟩ := List.append_eq_nil_iff.1 (show t ++ u = [] from h)
    rw [splR_short [] (by decide)]
    rw [show ([] : List UInt8) ++ [] = [] from rfl, splR_short [] (by decide)]
    exact ⟨rfl, rfl, rfl⟩
  | x :: l, hg => fun t u h => by
    have hx := hg x List.mem_cons_self
    have hgl : GoodF l := fun y hy => hg y (List.mem_cons_of_mem _ hy)
    have h' : t ++ u = (putB x.length 2 ++ x) ++ frames l := h
    have hfl : (putB x.length 2 ++ x).length = 2 + x.length := by simp
    by_cases hl : 2 + x.length ≤ t.length
    · obtain ⟨t', rfl⟩ : ∃ t', t = (putB x.length 2 ++ x) ++ t' := by
        refine ⟨t.drop (2 + x.length), ?_⟩
        have e := congrArg (List.take (2 + x.length)) h'
        rw [List.take_append_of_le_length hl, List.take_left' hfl] at e
        rw [← e, List.take_append_drop]
      rw [List.append_assoc] at h'
      have h2 : t' ++ u = frames l := List.append_cancel_left h'
      obtain ⟨i1, i2, i3⟩ := splR_cut l hgl t' u h2
      rw [splR_frame x t' hx.1 hx.2]
      dsimp only
      exact ⟨i1, i2, by rw [List.cons_append, i3]⟩
    · have e : splR t = ([], t, 0) := by
        by_cases h2 : t.length < 2
        · exact splR_short t h2
        · have hh : hdS t = x.length := by
            have e2 : t.take 2 = putB x.length 2 := by
              have e3 := congrArg (List.take 2) h'
              rw [List.take_append_of_le_length (by omega), List.append_assoc, List.take_left' (putB_length _ _)] at e3
              exact e3
            unfold hdS
            rw [e2, getB_putB _ _ (by decide) (by rw [q2]; omega)]
          exact splR_part t (by omega) (by omega) (by omega)
      have h3 : splR (t ++ u) = (x :: l, [], 0) := by rw [h]; exact splR_frames (x :: l) hg
      rw [e]
      dsimp only
      rw [h3]
      exact ⟨rfl, rfl, rfl⟩
/-- A list of frames goes on behind its first rounds. -/
theorem frS_head (R : List UInt8) (h : frS R ≠ []) : 2 ≤ R.length ∧ (frS R).getD 0 (0, []) = (hdS R, R.drop 2) := by
  by_cases h2 : R.length < 2
  · exact absurd (frS_short R h2) h
  · refine ⟨by omega, ?_⟩
    by_cases hl : R.length < 2 + hdS R
    · rw [frS_part R (by omega) hl]; rfl
    · rw [frS_next R (by omega) (by omega)]; rfl
end Go.Proofs.Ytaolhhgfnhhgaaa

/- Money: the program's Mul. -/
import Derived.Test.YtfjjodkapofgjaaGreatDoorSh
import Derived.Test.YtfjjodkapofgjaaGreatDoorKZ1
namespace Go.Proofs.YtfjjodkapofgjaaGreatDoor
open Go Go.RowKit Sm
attribute [local go_sem] Oper.semAt_some

theorem mul_checks (a b : Int) (_ : I64 a) (_ : I64 b) (x y : Nat) (hx : x = (a % 18446744073709551616).toNat) (hy : y = (b % 18446744073709551616).toNat) : (if firstC [.am [a, b], .at (x * y / 18446744073709551616) 0 1, .at (x * y % 18446744073709551616) 1152921504606846976 1] = 0 then wrap64 ((x * y % 18446744073709551616 : Nat) : Int) else 0, firstC [.am [a, b], .at (x * y / 18446744073709551616) 0 1, .at (x * y % 18446744073709551616) 1152921504606846976 1]) = mulA a b := by
  have ok3 : firstC [.am [a, b], .at (x * y / 18446744073709551616) 0 1, .at (x * y % 18446744073709551616) 1152921504606846976 1] = if amt a && amt b then (if x * y / 18446744073709551616 ≤ 0 then (if x * y % 18446744073709551616 ≤ 1152921504606846976 then 0 else 111) else 111) else 110 := by
    generalize x * y / 18446744073709551616 = h
    generalize x * y % 18446744073709551616 = l
    have e1 : (Ck.am [a, b]).ok = (amt a && amt b) := by simp only [Ck.ok, List.all_cons, List.all_nil, Bool.and_true]
    have e2 : (Ck.at h 0 1).ok = decide (h ≤ 0) := rfl
    have e3 : (Ck.at l 1152921504606846976 1).ok = decide (l ≤ 1152921504606846976) := rfl
    unfold firstC firstC firstC firstC
    rw [e1, e2, e3]
    by_cases h1 : (amt a && amt b) = true
    · rw [if_pos h1, if_pos h1]
      by_cases h2 : h ≤ 0
      · rw [if_pos h2, if_pos (decide_eq_true h2)]
        by_cases h3 : l ≤ 1152921504606846976
        · rw [if_pos h3, if_pos (decide_eq_true h3)]
        · rw [if_neg h3, if_neg (by rw [decide_eq_true_iff]; exact h3)]; rfl
      · rw [if_neg h2, if_neg (by rw [decide_eq_true_iff]; exact h2)]; rfl
    · rw [if_neg h1, if_neg h1]; rfl
  rw [ok3]
  unfold mulA
  by_cases h1 : (amt a && amt b) = true
  · rw [if_pos h1, if_pos h1]
    rw [Bool.and_eq_true, amt_iff, amt_iff] at h1
    have ex : (x : Int) = a := by omega
    have ey : (y : Int) = b := by omega
    have ep : ((x * y : Nat) : Int) = a * b := by rw [Int.natCast_mul, ex, ey]
    generalize x * y = p at ep ⊢
    rw [← ep]
    by_cases h2 : amt (p : Int) = true
    · rw [if_pos h2]
      rw [amt_iff] at h2
      have hp : p ≤ 1152921504606846976 := by omega
      rw [show (if p / 18446744073709551616 ≤ 0 then (if p % 18446744073709551616 ≤ 1152921504606846976 then (0 : Int) else 111) else 111) = 0 from by rw [if_pos (by omega), if_pos (by omega)], if_pos rfl]
      have : wrap64 ((p % 18446744073709551616 : Nat) : Int) = p := by unfold wrap64; omega
      rw [this]
    · rw [if_neg h2]
      rw [amt_iff] at h2
      rw [show (if p / 18446744073709551616 ≤ 0 then (if p % 18446744073709551616 ≤ 1152921504606846976 then (0 : Int) else 111) else 111) = 111 from by
        by_cases h3 : p / 18446744073709551616 ≤ 0
        · rw [if_pos h3, if_neg (by omega)]
        · rw [if_neg h3], if_neg (by decide)]
  · rw [if_neg h1, if_neg h1, if_neg (by decide)]
theorem mul_calls (a b : Int) (ha : I64 a) (hb : I64 b) : ∃ H L S : Int, 0 ≤ H ∧ 0 ≤ L ∧ wrap64 L = S ∧ H < 18446744073709551616 ∧ L < 18446744073709551616 ∧ (if firstC [.am [a, b], .at H.toNat 0 1, .at L.toNat 1152921504606846976 1] = 0 then S else 0, firstC [.am [a, b], .at H.toNat 0 1, .at L.toNat 1152921504606846976 1]) = mulA a b ∧
    ∀ w, Calls Tryz.prog 79 #[.int .u64 (a % 18446744073709551616), .int .u64 (b % 18446744073709551616)] w fun e w' => e = .returned (.tuple #[.int .u64 H, .int .u64 L]) ∧ w' = w := by
  obtain ⟨x, hx⟩ : ∃ x : Nat, a % 18446744073709551616 = (x : Int) := ⟨(a % 18446744073709551616).toNat, by omega⟩
  obtain ⟨y, hy⟩ : ∃ y : Nat, b % 18446744073709551616 = (y : Int) := ⟨(b % 18446744073709551616).toNat, by omega⟩
  have hxl : x < 18446744073709551616 := by omega
  have hyl : y < 18446744073709551616 := by omega
  refine ⟨((x * y / 18446744073709551616 : Nat) : Int), ((x * y % 18446744073709551616 : Nat) : Int), _, Int.natCast_nonneg _, Int.natCast_nonneg _, rfl, ?_, ?_, ?_, fun w => ?_⟩
  · have : x * y < 18446744073709551616 * 18446744073709551616 := Nat.mul_lt_mul'' hxl hyl
    have h2 : x * y / 18446744073709551616 < 18446744073709551616 := Nat.div_lt_of_lt_mul this
    exact Int.ofNat_lt.2 h2
  · exact Int.ofNat_lt.2 (Nat.mod_lt _ (by decide))
  · rw [Int.toNat_natCast, Int.toNat_natCast]
    exact mul_checks a b ha hb x y (by rw [hx]; rfl) (by rw [hy]; rfl)
  · rw [hx, hy]
    exact Tryz.bits_Mul64 x y hxl hyl w

end Go.Proofs.YtfjjodkapofgjaaGreatDoor

/- The laws on money's numbers: shown, MoneySums, MoneyKeeps, MoneyTurns, MoneyBounds. -/
namespace Go.Proofs.YtfjjodkapofgjaaGreatDoor
open Go Go.RowKit Sm
attribute [local go_sem] Oper.semAt_some

/-- A call of two numbers that answers these two. -/
def Two2 (f : FuncId) (a b v c : Int) : Prop := ∀ w, Calls Tryz.prog f #[.int .i64 a, .int .i64 b] w fun e w' => e = .returned (.tuple #[.int .i64 v, .int .i64 c]) ∧ Below w.heap.size w w'
theorem i64_amt {n : Int} (h : amt n = true) : I64 n := by rw [amt_iff] at h; unfold I64; omega

/-! ### MoneyTurns, MoneyBounds -/
/-! ### MoneyKeeps -/
theorem mov_facts (a b n : Int) : (movA a b n).2.2 ≠ 0 ∨ ((movA a b n).2.2 = 0 ∧ (movA a b n).1 + (movA a b n).2.1 = a + b ∧ (0 ≤ (movA a b n).1 ∧ (movA a b n).1 ≤ 1152921504606846976) ∧ (0 ≤ (movA a b n).2.1 ∧ (movA a b n).2.1 ≤ 1152921504606846976) ∧ (0 ≤ a ∧ a ≤ 1152921504606846976) ∧ 0 ≤ b ∧ b ≤ 1152921504606846976) := by
  by_cases h : (movA a b n).2.2 = 0
  · obtain ⟨h1, h2, h3⟩ := movA_ok a b n h
    obtain ⟨k1, -, -, -⟩ := subA_ok a n h1
    obtain ⟨l1, -, -, -⟩ := addA_ok b n h2
    obtain ⟨m1, m2⟩ := movA_amt a b n
    rw [amt_iff] at k1 l1 m1 m2
    refine .inr ⟨h, ?_, m1, m2, k1, l1⟩
    rw [h3]
    dsimp only
    omega
  · exact .inl h
theorem keep_pair (a n : Int) (ha : I64 a) (hn : I64 n) (w : World) (hS : MSent w) : ∃ x f y g : Int, (∀ u, Below w.heap.size w u → Calls Tryz.prog 56 #[.int .i64 a, .int .i64 n] u fun e w' => e = .returned (.tuple #[.int .i64 x, .int .i64 f]) ∧ Below u.heap.size u w') ∧ (∀ u, Below w.heap.size w u → Calls Tryz.prog 49 #[.int .i64 x, .int .i64 n] u fun e w' => e = .returned (.tuple #[.int .i64 y, .int .i64 g]) ∧ Below u.heap.size u w') ∧ (f ≠ 0 ∨ f = 0 ∧ g = 0 ∧ y = a) := by
  refine ⟨_, _, _, _, fun u h => moadd_any a n ha hn u (hS.below h), fun u h => mosub_any _ n (i64_amt (addA_amt a n)) hn u (hS.below h), ?_⟩
  by_cases h : (addA a n).2 = 0
  · obtain ⟨h1, h2, h3, h4⟩ := addA_ok a n h
    refine .inr ⟨h, ?_⟩
    have h5 : n ≤ a + n := by rw [amt_iff] at h1; omega
    rw [h4, subA_of _ _ h3 h2 h5]
    exact ⟨rfl, by dsimp only; omega⟩
  · exact .inl h
end Go.Proofs.YtfjjodkapofgjaaGreatDoor

/- The law of a product as a sum: MoneyTimes. -/
namespace Go.Proofs.YtfjjodkapofgjaaGreatDoor
open Go Go.RowKit Sm
attribute [local go_sem] Oper.semAt_some

/-- The sum behind so many rounds. -/
def sumOf (a : Int) (k : Nat) : Int × Int := if amt (a * k) then (a * k, 0) else (0, 111)
theorem sum_next (a : Int) (ha : amt a = true) (k : Nat) (h : amt (a * k) = true) : addA (a * k) a = sumOf a (k + 1) := by
  unfold addA sumOf
  have e : a * ((k + 1 : Nat) : Int) = a * k + a := by rw [Int.natCast_add, Int.mul_add]; simp
  rw [if_pos (by rw [ha, h]; rfl), e]
theorem sum_stays (a : Int) (ha : amt a = true) (k n : Nat) (hkn : k ≤ n) (h : amt (a * k) = false) : amt (a * n) = false := by
  rw [amt_iff] at ha
  rw [amt_not] at h ⊢
  rintro ⟨h1, h2⟩
  apply h
  have h3 : a * (k : Int) ≤ a * (n : Int) := Int.mul_le_mul_of_nonneg_left (by omega) ha.1
  exact ⟨Int.mul_nonneg ha.1 (by omega), by omega⟩
theorem sum_zero (a : Int) : sumOf a 0 = (0, 0) := by unfold sumOf; rw [show a * ((0 : Nat) : Int) = 0 from Int.mul_zero a]; rfl
theorem sum_fine {a x : Int} {k : Nat} (h : sumOf a k = (x, 0)) : amt (a * k) = true ∧ x = a * k := by
  unfold sumOf at h
  by_cases h1 : amt (a * k) = true
  · rw [if_pos h1] at h; simp only [Prod.mk.injEq] at h; exact ⟨h1, h.1.symm⟩
  · rw [if_neg h1] at h; simp at h
theorem sum_over {a x y pv pc : Int} {k m : Nat} (ha : amt a = true) (hk : k ≤ m) (h : sumOf a k = (x, y)) (hy : ¬ y = 0) (hp : sumOf a m = (pv, pc)) : pv = 0 ∧ pc = 111 ∧ x = 0 ∧ y = 111 := by
  unfold sumOf at h hp
  by_cases h1 : amt (a * k) = true
  · rw [if_pos h1] at h; simp only [Prod.mk.injEq] at h; exact absurd h.2.symm hy
  · have h2 := sum_stays a ha k m hk (by simpa using h1)
    rw [if_neg h1] at h
    rw [if_neg (by simp [h2])] at hp
    simp only [Prod.mk.injEq] at h hp
    exact ⟨hp.1.symm, hp.2.symm, h.1.symm, h.2.symm⟩
theorem mul_sum (a : Int) (ha : amt a = true) (n : Nat) (hn : n ≤ 40) : mulA a n = sumOf a n := by
  unfold mulA sumOf
  rw [if_pos]
  rw [ha, (amt_iff _).2 ⟨by omega, by omega⟩]
  rfl

end Go.Proofs.YtfjjodkapofgjaaGreatDoor

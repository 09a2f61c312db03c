/- What comes in: cut lists and texts. -/
import Derived.Test.YtaolhhgfnhhgaaaKC0
import Derived.Test.YtaolhhgfnhhgaaaKN0
namespace Go.Proofs.Ytaolhhgfnhhgaaa
open Go Go.RowKit Sm
attribute [local go_sem] Oper.semAt_some

theorem min_two (n k : Nat) (W : World) : (Builtin.min_ #[3, 3] 3 #[.int .i64 (n : Int), .int .i64 (k : Int)]).run Try.prog W = .ok (.int .i64 ((min n k : Nat) : Int)) W := by
  rw [run_min_int2]
  by_cases h : (k : Int) < n
  · rw [if_pos h, show min n k = k by omega]
  · rw [if_neg h, show min n k = n by omega]
theorem take_extM (b : List UInt8) (c : Nat) : (⟨b.toArray⟩ : ByteArray).extract 0 (min b.length c) = ⟨(b.take c).toArray⟩ := by
  rw [extM, List.drop_zero, Nat.sub_zero]
  congr 2
  by_cases h : b.length ≤ c
  · rw [Nat.min_eq_left h, List.take_of_length_le (Nat.le_refl _), List.take_of_length_le h]
  · rw [Nat.min_eq_right (by omega)]

/-- A slice as it comes in. -/
structure InL {α : Type} (E : El α) (w : World) (p : Option Addr) (l : List α) (lc : Nat) : Prop where
  els : Els E w p l
  spot : ∀ a, p = some a → a.spot = none
  nil0 : p = none → lc = 0
  le : l.length ≤ lc
  cap : lc ≤ 9223372036854775807
theorem InL.form {α : Type} {E : El α} {w : World} {p : Option Addr} {l : List α} {lc : Nat} (h : InL E w p l lc) : (p = none ∧ l = [] ∧ lc = 0) ∨ ∃ b o, p = some ⟨b, o, none⟩ := by
  cases p with
  | none => have h1 := h.nil0 rfl; have h2 := h.le; exact .inl ⟨rfl, List.eq_nil_of_length_eq_zero (by omega), h1⟩
  | some a => obtain ⟨b, o, s⟩ := a; have := h.spot _ rfl; simp only at this; subst this; exact .inr ⟨b, o, rfl⟩

end Go.Proofs.Ytaolhhgfnhhgaaa

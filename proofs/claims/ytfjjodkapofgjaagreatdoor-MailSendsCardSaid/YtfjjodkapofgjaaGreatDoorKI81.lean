/- The laws on goods: GoodsTwice, GoodsKeep. -/
import Derived.Deep.RegionHeld3
import Derived.Test.YtfjjodkapofgjaaGreatDoorKI7
namespace Go.Proofs.YtfjjodkapofgjaaGreatDoor
open Go Go.RowKit Sm
attribute [local go_sem] Oper.semAt_some

end Go.Proofs.YtfjjodkapofgjaaGreatDoor

/- The law on goods: GoodsKeep. -/
namespace Go.Proofs.YtfjjodkapofgjaaGreatDoor
open Go Go.RowKit Sm
attribute [local go_sem] Oper.semAt_some

abbrev CountAt (f : FuncId) (L : List St) (i : Nat) (c : Int) : Prop := ∀ (p : Option Addr) (cp : Nat) (W : World), InL elS W p L cp → Calls Tryz.prog f #[.slice p L.length cp, .int .u16 i] W fun e w' => e = .returned (.int .i64 c) ∧ Below W.heap.size W w'
abbrev RightAt (f : FuncId) (L : List St) (b : Bool) : Prop := ∀ (p : Option Addr) (cp : Nat) (W : World), InL elS W p L cp → Calls Tryz.prog f #[.slice p L.length cp] W fun e w' => e = .returned (.bool b) ∧ Below W.heap.size W w'
theorem lastB {a b : Prop} (h : a ∧ b) : b := h.2
/-- What of a move is kept, in letters. -/
theorem move_facts (A B : List St) (s : St) (j : Nat) : (moveG A B s).2.2 ≠ 0 ∧ (moveG A B s).1 = [] ∧ (moveG A B s).2.1 = [] ∨ (moveG A B s).2.2 = 0 ∧ rightG (moveG A B s).1 = true ∧ rightG (moveG A B s).2.1 = true ∧ (1 ≤ s.n ∧ s.n ≤ 1152921504606846976) ∧ (0 ≤ countG (moveG A B s).1 s.item ∧ countG (moveG A B s).1 s.item ≤ 1152921504606846976) ∧ (0 ≤ countG (moveG A B s).2.1 s.item ∧ countG (moveG A B s).2.1 s.item ≤ 1152921504606846976) ∧ countG (moveG A B s).1 s.item + s.n = countG A s.item ∧ countG (moveG A B s).2.1 s.item - s.n = countG B s.item ∧ (j = s.item ∨ j ≠ s.item ∧ countG (moveG A B s).1 j = countG A j ∧ countG (moveG A B s).2.1 j = countG B j) := by
  by_cases h : (moveG A B s).2.2 = 0
  · obtain ⟨h1, h2, h3⟩ := moveG_ok A B s h
    have k1 := take_keeps A s h1
    have k2 := give_keeps B s h2
    obtain ⟨-, b1, -⟩ := takeG_ok A s h1
    have b2 := (amt1_iff s.n).1 b1
    rw [h3]
    dsimp only
    have r1 := (rightG_iff _).2 k1.ok
    have r2 := (rightG_iff _).2 k2.ok
    refine .inr ⟨rfl, r1, r2, b2, countG_le _ _ r1, countG_le _ _ r2, ?_, ?_, ?_⟩
    · rw [k1.cnt]; omega
    · rw [k2.cnt]; omega
    · by_cases hj : j = s.item
      · exact .inl hj
      · exact .inr ⟨hj, k1.oth j hj, k2.oth j hj⟩
  · obtain ⟨h1, h2⟩ := moveG_err A B s h
    exact .inl ⟨h, h1, h2⟩

end Go.Proofs.YtfjjodkapofgjaaGreatDoor

/- The law on goods: GoodsDo. -/
namespace Go.Proofs.YtfjjodkapofgjaaGreatDoor
open Go Go.RowKit Sm
attribute [local go_sem] Oper.semAt_some

abbrev MoveAt (w0 : World) (f : FuncId) (A B : List St) (s : St) (X Y : List St) (c : Int) : Prop := ∀ (p q : Option Addr) (ca cb : Nat) (W : World), InL elS W p A ca → InL elS W q B cb → Below w0.heap.size w0 W → Calls Tryz.prog f #[.slice p A.length ca, .slice q B.length cb, s.v] W (GoodsPost2 W X Y c)
theorem moveG_len (A B : List St) (s : St) : (moveG A B s).1.length ≤ 20 ∧ (moveG A B s).2.1.length ≤ 20 := by
  by_cases h : (moveG A B s).2.2 = 0
  · obtain ⟨-, -, h3⟩ := moveG_ok A B s h
    rw [h3]; exact ⟨(sizes_ok A s).2, (sizes_ok B s).1⟩
  · obtain ⟨h1, h2⟩ := moveG_err A B s h
    rw [h1, h2]; exact ⟨Nat.zero_le _, Nat.zero_le _⟩

end Go.Proofs.YtfjjodkapofgjaaGreatDoor

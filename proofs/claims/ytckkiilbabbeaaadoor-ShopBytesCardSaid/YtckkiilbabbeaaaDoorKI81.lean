/- The laws on goods: GoodsTwice, GoodsKeep. -/
import Derived.Deep.RegionHeld3
import Derived.Test.YtckkiilbabbeaaaDoorKI7
namespace Go.Proofs.YtckkiilbabbeaaaDoor
open Go Go.RowKit Sm
attribute [local go_sem] Oper.semAt_some

end Go.Proofs.YtckkiilbabbeaaaDoor

/- The law on goods: GoodsKeep. -/
namespace Go.Proofs.YtckkiilbabbeaaaDoor
open Go Go.RowKit Sm
attribute [local go_sem] Oper.semAt_some

abbrev CountAt (f : FuncId) (L : List St) (i : Nat) (c : Int) : Prop := ∀ (p : Option Addr) (cp : Nat) (W : World), InL elS W p L cp → Calls Tryd.prog f #[.slice p L.length cp, .int .u16 i] W fun e w' => e = .returned (.int .i64 c) ∧ Below W.heap.size W w'
abbrev RightAt (f : FuncId) (L : List St) (b : Bool) : Prop := ∀ (p : Option Addr) (cp : Nat) (W : World), InL elS W p L cp → Calls Tryd.prog f #[.slice p L.length cp] W fun e w' => e = .returned (.bool b) ∧ Below W.heap.size W w'
theorem lastB {a b : Prop} (h : a ∧ b) : b := h.2
/-- What of a move is kept, in letters. -/
theorem move_facts (A B : List St) (s : St) (j : Nat) : (moveG A B s).2.2 ≠ 0 ∧ (moveG A B s).1 = [] ∧ (moveG A B s).2.1 = [] ∨ (moveG A B s).2.2 = 0 ∧ rightG (moveG A B s).1 = true ∧ rightG (moveG A B s).2.1 = true ∧ (1 ≤ s.n ∧ s.n ≤ 1152921504606846976) ∧ (0 ≤ countG (moveG A B s).1 s.item ∧ countG (moveG A B s).1 s.item ≤ 1152921504606846976) ∧ (0 ≤ countG (moveG A B s).2.1 s.item ∧ countG (moveG A B s).2.1 s.item ≤ 1152921504606846976) ∧ countG (moveG A B s).1 s.item + s.n = countG A s.item ∧ countG (moveG A B s).2.1 s.item - s.n = countG B s.item ∧ (j = s.item ∨ j ≠ s.item ∧ countG (moveG A B s).1 j = countG A j ∧ countG (moveG A B s).2.1 j = countG B j) := by
  by_cases h : (moveG A B s).2.2 = 0
  · obtain ⟨h1, h2, h3⟩ := moveG_ok A B s h
    have k1 := take_keeps A s h1
    have k2 := give_keeps B s h2
    obtain ⟨-, b1, -⟩ := takeG_ok A s h1
    have b2 := (amt1_iff s.n).1 b1
    rw [h3]
    dsimp only
    have r1 := (rightG_iff _).2 k1.ok
    have r2 := (rightG_iff _).2 k2.ok
    refine .inr ⟨rfl, r1, r2, b2, countG_le _ _ r1, countG_le _ _ r2, ?_, ?_, ?_⟩
    · rw [k1.cnt]; omega
    · rw [k2.cnt]; omega
    · by_cases hj : j = s.item
      · exact .inl hj
      · exact .inr ⟨hj, k1.oth j hj, k2.oth j hj⟩
  · obtain ⟨h1, h2⟩ := moveG_err A B s h
    exact .inl ⟨h, h1, h2⟩

end Go.Proofs.YtckkiilbabbeaaaDoor

/- The law on goods: GoodsDo. -/
namespace Go.Proofs.YtckkiilbabbeaaaDoor
open Go Go.RowKit Sm
attribute [local go_sem] Oper.semAt_some

abbrev MoveAt (w0 : World) (f : FuncId) (A B : List St) (s : St) (X Y : List St) (c : Int) : Prop := ∀ (p q : Option Addr) (ca cb : Nat) (W : World), InL elS W p A ca → InL elS W q B cb → Below w0.heap.size w0 W → Calls Tryd.prog f #[.slice p A.length ca, .slice q B.length cb, s.v] W (GoodsPost2 W X Y c)
theorem moveG_len (A B : List St) (s : St) : (moveG A B s).1.length ≤ 20 ∧ (moveG A B s).2.1.length ≤ 20 := by
  by_cases h : (moveG A B s).2.2 = 0
  · obtain ⟨-, -, h3⟩ := moveG_ok A B s h
    rw [h3]; exact ⟨(sizes_ok A s).2, (sizes_ok B s).1⟩
  · obtain ⟨h1, h2⟩ := moveG_err A B s h
    rw [h1, h2]; exact ⟨Nat.zero_le _, Nat.zero_le _⟩

end Go.Proofs.YtckkiilbabbeaaaDoor

/- The law on goods: GoodsOwn. -/
namespace Go.Proofs.YtckkiilbabbeaaaDoor
open Go Go.RowKit Sm
attribute [local go_sem] Oper.semAt_some

/-- Where counts are written into. -/
def WrS (w : World) (B : Nat) (p : Option Addr) (n : Nat) : Prop := n = 0 ∨ ∃ b o, p = some ⟨b, o, none⟩ ∧ B ≤ b ∧ ∀ j, j < n → (∃ v, w.cell? ⟨b, o + j * 2 + 1, none⟩ = some v) ∧ w.frozen? ⟨b, o + j * 2 + 1, none⟩ = false
def inS (p : Option Addr) : Nat → Prop := fun j => ∃ a, p = some a ∧ a.block = j
theorem FreshE.wr {B : Nat} {w : World} {L : List St} {p : Option Addr} {c : Nat} (h : FreshE elS B w (.slice p L.length c) L) : WrS w B p L.length := by
  obtain ⟨p', c', hv, hE, -, hb, hf⟩ := h
  simp only [Value.slice.injEq, true_and] at hv
  obtain ⟨rfl, -⟩ := hv
  by_cases hne : L = []
  · subst hne; exact .inl rfl
  · obtain ⟨b, o, rfl, hc⟩ := hE hne
    refine .inr ⟨b, o, rfl, (hb hne _ rfl).1, fun j hj => ⟨?_, ?_⟩⟩
    · exact ⟨_, hc j 1 hj (by decide)⟩
    · rw [Nat.add_assoc]
      exact hf b o rfl (j * 2 + 1) (by show j * 2 + 1 < L.length * 2; omega)
theorem WrS.set {w : World} {B n : Nat} {p : Option Addr} (h : WrS w B p n) (q : Addr) (v : Value) : WrS (w.setCell q v) B p n := by
  rcases h with h | ⟨b, o, hp, hB, hc⟩
  · exact .inl h
  · refine .inr ⟨b, o, hp, hB, fun j hj => ⟨?_, ?_⟩⟩
    · obtain ⟨x, hx⟩ := (hc j hj).1
      exact cell?_setCell_some hx
    · rw [World.frozen?_setCell]; exact (hc j hj).2
theorem Els.past {α : Type} {E : El α} {F : Nat → Prop} {w0 w w' : World} {p : Option Addr} {L : List α} (h0 : Els E w0 p L) (h : Els E w p L) (ht : Turned F w w') (hF : ∀ k, F k → w0.heap.size ≤ k) : Els E w' p L := fun hne => by
  refine (h.turned ht fun x hx hf => ?_) hne
  obtain ⟨b, o, rfl, hc⟩ := h0 hne
  cases hx
  have hz := E.pos
  have hlt : 0 < L.length := List.length_pos_iff.2 hne
  have := hc 0 0 hlt hz
  have h2 : 0 < (E.enc (L.getD 0 E.d)).length := by rw [E.len]; exact hz
  rw [List.getElem?_eq_getElem h2] at this
  have hb := World.block_lt_of_cell? w0 ⟨b, o + 0 * E.z + 0, none⟩ this
  have := hF _ hf
  dsimp only at this hb
  omega
theorem InL.past {α : Type} {E : El α} {F : Nat → Prop} {w0 w w' : World} {p : Option Addr} {L : List α} {c : Nat} (h0 : InL E w0 p L c) (h : InL E w p L c) (ht : Turned F w w') (hF : ∀ k, F k → w0.heap.size ≤ k) : InL E w' p L c := ⟨h0.els.past h.els ht hF, h.spot, h.nil0, h.le, h.cap⟩
theorem StBox.past {F : Nat → Prop} {w w' : World} {b : Nat} {i n : Int} (h : StBox w b i n) (ht : Turned F w w') (hF : ¬ F b) : StBox w' b i n :=
  ⟨ht.cell h.i hF, ht.cell h.n hF⟩

end Go.Proofs.YtckkiilbabbeaaaDoor

/- Goods: the document's own with. -/
import Derived.Test.YtfjjodkapofgjaaDoorKI1
import Derived.Test.YtfjjodkapofgjaaDoorKN6
import Derived.Test.YtfjjodkapofgjaaDoorKCZ
namespace Go.Proofs.YtfjjodkapofgjaaDoor
open Go Go.RowKit Sm
attribute [local go_sem] Oper.semAt_some

theorem slOk_nil {α : Type} : SlOk none ([] : List α).length 0 := ⟨Nat.le_refl _, by decide, fun _ => rfl, fun _ h => (by cases h)⟩
/-- A list that a call has made: new, and to be written into, if there is anything in it. -/
def FreshE {α : Type} (E : El α) (B : Nat) (w : World) (v : Value) (L : List α) : Prop := ∃ p c, v = .slice p L.length c ∧ Els E w p L ∧ SlOk p L.length c ∧ (L ≠ [] → ∀ a, p = some a → B ≤ a.block ∧ a.block < w.heap.size ∧ a.spot = none) ∧ (∀ b o, p = some ⟨b, o, none⟩ → ∀ j, j < L.length * E.z → w.frozen? ⟨b, o + j, none⟩ = false)
theorem OwnE.fresh {α : Type} {E : El α} {w : World} {B B' : Nat} {v : Value} {L : List α} (h : OwnE E w B v L) (hB : B' ≤ B) : FreshE E B' w v L := by
  obtain ⟨h1, h2⟩ := h
  rcases h2 with ⟨rfl, h0⟩ | ⟨g, cap, cur, rfl, hg, hh, hn, hc, hs, ht⟩
  · obtain rfl : L = [] := List.eq_nil_of_length_eq_zero h0
    exact ⟨none, 0, rfl, Els.nil _ _, slOk_nil, fun _ a ha => (by cases ha), fun b o h => (by cases h)⟩
  · exact ⟨_, _, rfl, els_of_block hh ht, ⟨by omega, Nat.le_trans hc (by decide +kernel), fun h => (by cases h), fun a h => (by cases h; rfl)⟩, fun _ a ha => by cases ha; exact ⟨Nat.le_trans hB hg, lt_of_heap hh, rfl⟩, fun b o h j hj => by cases h; exact frozen_whole hh _⟩
theorem FreshE.nil {α : Type} (E : El α) (B : Nat) (w : World) : FreshE E B w (.slice none 0 0) [] := ⟨none, 0, rfl, Els.nil _ _, slOk_nil, fun _ a ha => (by cases ha), fun b o h => (by cases h)⟩
theorem FreshE.below {α : Type} {E : El α} {B : Nat} {w w' : World} {v : Value} {L : List α} (h : FreshE E B w v L) (hb : Below w.heap.size w w') : FreshE E B w' v L := by
  obtain ⟨p, c, h1, h2, h3, h4, h5⟩ := h
  refine ⟨p, c, h1, h2.below hb, h3, fun hne a ha => ⟨(h4 hne a ha).1, Nat.lt_of_lt_of_le (h4 hne a ha).2.1 hb.size, (h4 hne a ha).2.2⟩, fun b o hp j hj => ?_⟩
  have hne : L ≠ [] := by rintro rfl; simp at hj
  rw [hb.frozen (p := ⟨b, o + j, none⟩) (h4 hne _ hp).2.1]
  exact h5 b o hp j hj
theorem FreshE.base {α : Type} {E : El α} {B B' : Nat} {w : World} {v : Value} {L : List α} (h : FreshE E B w v L) (hB : B' ≤ B) : FreshE E B' w v L := by
  obtain ⟨p, c, h1, h2, h3, h4, h5⟩ := h
  exact ⟨p, c, h1, h2, h3, fun hne a ha => ⟨Nat.le_trans hB (h4 hne a ha).1, (h4 hne a ha).2⟩, h5⟩
def FreshPost {α : Type} (E : El α) (w : World) (L : List α) (e : Ending) (w' : World) : Prop := ∃ v, e = .returned v ∧ FreshE E w.heap.size w' v L ∧ Below w.heap.size w w'

theorem withX_cons (s x : St) (r : List St) (d : Bool) : withX s (x :: r) d = if d = false ∧ s.item ≤ x.item then s :: (if x.item = s.item then withX s r true else x :: withX s r true) else if x.item = s.item then withX s r d else x :: withX s r d := rfl

end Go.Proofs.YtfjjodkapofgjaaDoor

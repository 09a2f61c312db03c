/- Goods: the document's own Give, Take, Move. -/
import Derived.OwnWalk
import Derived.Test.YtfjjodkapofgjaaDoorKI3
import Derived.Test.YtfjjodkapofgjaaDoorKCZ
import Derived.Test.YtfjjodkapofgjaaDoorKG
namespace Go.Proofs.YtfjjodkapofgjaaDoor
open Go Go.RowKit Sm
attribute [local go_sem] Oper.semAt_some

def GoodsPost (w : World) (L : List St) (c : Int) (e : Ending) (w' : World) : Prop := ∃ v, e = .returned (.tuple #[v, .int .i64 c]) ∧ FreshE elS w.heap.size w' v L ∧ Below w.heap.size w w'
def GoodsPost2 (w : World) (L M : List St) (c : Int) (e : Ending) (w' : World) : Prop := ∃ v u, e = .returned (.tuple #[v, u, .int .i64 c]) ∧ FreshE elS w.heap.size w' v L ∧ FreshE elS w.heap.size w' u M ∧ Below w.heap.size w w'
theorem FreshE.form {α : Type} {E : El α} {B : Nat} {w : World} {v : Value} {L : List α} (h : FreshE E B w v L) : ∃ p c, v = .slice p L.length c ∧ Els E w p L ∧ L.length ≤ c := by
  obtain ⟨p, c, h1, h2, h3, -⟩ := h
  exact ⟨p, c, h1, h2, h3.le⟩
theorem InL.below {α : Type} {E : El α} {w w' : World} {p : Option Addr} {L : List α} {c : Nat} (h : InL E w p L c) (hb : Below w.heap.size w w') : InL E w' p L c := ⟨h.els.below hb, h.spot, h.nil0, h.le, h.cap⟩
theorem InL.ok {α : Type} {E : El α} {w : World} {p : Option Addr} {L : List α} {c : Nat} (h : InL E w p L c) : SlOk p L.length c := ⟨h.le, h.cap, h.nil0, h.spot⟩
theorem FreshE.formI {α : Type} {E : El α} {B : Nat} {w : World} {v : Value} {L : List α} (h : FreshE E B w v L) : ∃ p c, v = .slice p L.length c ∧ InL E w p L c ∧ L.length ≤ c := by
  obtain ⟨p, c, h1, h2, h3, -⟩ := h
  exact ⟨p, c, h1, ⟨h2, h3.spot, h3.none, h3.le, h3.few⟩, h3.le⟩
theorem countG_le (l : List St) (i : Nat) (h : rightG l = true) : 0 ≤ countG l i ∧ countG l i ≤ 1152921504606846976 := by
  rcases goods_parts l i ((rightG_iff l).1 h) with ⟨h1, -⟩ | ⟨h1, h2, -⟩
  · rw [h1]; omega
  · omega

theorem moveG_eq (a b : List St) (s : St) : moveG a b s = if (takeG a s).2 = 0 then (if (giveG b s).2 = 0 then ((takeG a s).1, (giveG b s).1, 0) else ([], [], (giveG b s).2)) else ([], [], (takeG a s).2) := rfl
end Go.Proofs.YtfjjodkapofgjaaDoor

/- The law's cut of goods: the first thirty stacks, in new memory. -/
namespace Go.Proofs.YtfjjodkapofgjaaDoor
open Go Go.RowKit Sm
attribute [local go_sem] Oper.semAt_some

end Go.Proofs.YtfjjodkapofgjaaDoor

/- The laws on goods: shown, GoodsBack, GoodsTwice, GoodsKeep. -/
import Derived.Test.YtckkiilbabbeaaaDoorKI9
import Derived.Test.YtckkiilbabbeaaaDoorKI0
import Derived.Test.YtckkiilbabbeaaaDoorKI4
namespace Go.Proofs.YtckkiilbabbeaaaDoor
open Go Go.RowKit Sm
attribute [local go_sem] Oper.semAt_some

def exG : List St := [⟨1, 3⟩, ⟨5, 2⟩]
def exG3 : List St := [⟨1, 3⟩, ⟨2, 4⟩, ⟨5, 2⟩]
theorem same_self (l : List St) : sameG l l = true := (sameG_iff l l).2 rfl
/-- The document's Same of these two, in whatever world they stand. -/
theorem sameG_here {w : World} {p q : Option Addr} (a : List St) (na ca nb cb : Nat) (ha : Els elS w p a) (hb : Els elS w q a) (hna : na = a.length) (hnb : nb = a.length) (hl : a.length ≤ 1000) :
    Calls Tryd.prog 23 #[.slice p na ca, .slice q nb cb] w fun e w' => e = .returned (.bool true) ∧ Below w.heap.size w w' := by
  subst hna hnb
  have := refsameG_any a a ca cb ha hb (by omega) (by omega)
  rwa [same_self] at this

end Go.Proofs.YtckkiilbabbeaaaDoor

/- The laws on goods: GoodsBack, GoodsTwice, GoodsKeep. -/
namespace Go.Proofs.YtckkiilbabbeaaaDoor
open Go Go.RowKit Sm
attribute [local go_sem] Oper.semAt_some

/-- A stack in a box. -/
structure StBox (w : World) (b : Nat) (i n : Int) : Prop where
  i : w.cell? ⟨b, 0, none⟩ = some (.int .u16 i)
  n : w.cell? ⟨b, 1, none⟩ = some (.int .i64 n)
theorem StBox.new (w : World) (i n : Int) (T : TypeId) : StBox (w.alloc (.cells #[.int .u16 i, .int .i64 n] T)) w.heap.size i n := by
  constructor <;> exact cell_whole (cur := [.int .u16 i, .int .i64 n]) (heap_alloc_new _ _) _
theorem StBox.below {w w' : World} {b : Nat} {i n : Int} (h : StBox w b i n) (hb : Below w.heap.size w w') : StBox w' b i n :=
  ⟨(hb.cell (World.block_lt_of_cell? _ _ h.i)).trans h.i, (hb.cell (World.block_lt_of_cell? _ _ h.n)).trans h.n⟩
/-- Give, Take of any list that stands somewhere. -/
abbrev GiveAt (w0 : World) (f : FuncId) (L : List St) (s : St) (R : List St) (c : Int) : Prop := ∀ (p : Option Addr) (cp : Nat) (W : World), InL elS W p L cp → Below w0.heap.size w0 W → Calls Tryd.prog f #[.slice p L.length cp, s.v] W (GoodsPost W R c)
theorem take30 (l : List St) : (l.take 30).length ≤ 30 := by rw [List.length_take]; omega
theorem sameG_els {w : World} {p q : Option Addr} (a b : List St) (h : a = b) (ca cb : Nat) (ha : InL elS w p a ca) (hb : InL elS w q b cb) (hl : a.length ≤ 1000) :
    Calls Tryd.prog 23 #[.slice p a.length ca, .slice q b.length cb] w fun e w' => e = .returned (.bool true) ∧ Below w.heap.size w w' := by
  subst h
  exact sameG_here a _ ca _ cb ha.els hb.els rfl rfl hl

end Go.Proofs.YtckkiilbabbeaaaDoor

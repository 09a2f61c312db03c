/- The laws on amounts' bytes: MoneyBytes, MoneyBack. -/
import Derived.Test.YtfjjodkapofgjaaGreatDoorKC3
import Derived.Test.YtfjjodkapofgjaaGreatDoorKC9
import Derived.Test.YtfjjodkapofgjaaGreatDoorKCZ
import Derived.Test.YtfjjodkapofgjaaGreatDoorKZ3
namespace Go.Proofs.YtfjjodkapofgjaaGreatDoor
open Go Go.RowKit Sm
attribute [local go_sem] Oper.semAt_some

abbrev BytesAt (f : FuncId) (p : Option Addr) (m c : Nat) (S : List UInt8) (e : Int) (B : Nat) (w0 : World) : Prop :=
  ∀ w, Below B w0 w → Calls Tryz.prog f #[.slice p m c] w fun x w' => x = .returned (.tuple #[.string ⟨S.toArray⟩, .int .i64 e]) ∧ Below w.heap.size w w'
abbrev ParseAt (f : FuncId) (S : List UInt8) (L : List Int) (e : Int) : Prop := ∀ w, Calls Tryz.prog f #[.string ⟨S.toArray⟩] w (LsPost w L e)
theorem Els.belowB {α : Type} {E : El α} {w w' : World} {p : Option Addr} {L : List α} (h : Els E w p L) (hb : Below w.heap.size w w') : Els E w' p L := h.below hb

theorem bytesR_err (L : List Int) : (bytesR L).2 = 0 ∨ (bytesR L).2 = 110 := by
  unfold bytesR
  split <;> simp
theorem parseR_err (t : List UInt8) : (parseR t).2 = 0 ∨ (parseR t).2 = 110 := by
  unfold parseR
  split <;> simp

end Go.Proofs.YtfjjodkapofgjaaGreatDoor

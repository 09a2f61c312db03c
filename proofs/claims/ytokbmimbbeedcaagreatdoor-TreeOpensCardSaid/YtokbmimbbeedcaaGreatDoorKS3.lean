/- The walk of add. -/
import Derived.RegionTactic
import Derived.ChangeAlike
import Derived.BigRegion
import Derived.RangeFuncCalls
import Derived.Shelf.Abstract
import Derived.BigFrameIn
import Derived.OwnWalkIn
import Derived.TacticsInMore
import Derived.LoopNIn
import Derived.LoopIn
import Derived.Test.YtokbmimbbeedcaaGreatDoorRows
import Derived.Laws.BitsAllLaws
import Derived.Test.YtokbmimbbeedcaaGreatDoorKD0
import Derived.Test.YtokbmimbbeedcaaGreatDoorKR
namespace Go.Proofs.YtokbmimbbeedcaaGreatDoor.Sm
open Go.RowKit
attribute [local go_sem] Oper.semAt_some

def stepS (h : Nat × Nat) (c : UInt8) : Nat × Nat := ((h.1 + c.toNat) % 65521, (h.2 + (h.1 + c.toNat) % 65521) % 65521)
def addS (h : Nat × Nat) (s : List UInt8) : Nat × Nat := s.foldl stepS h
theorem keepsFrom_turned {F : Nat → Prop} {B : Nat} {A A' : World} (h : Turned F A A') (hF : ∀ k, F k → k < B ∨ ∃ c t fr, A.heap[k]? = some (.cells c t fr)) : KeepsFrom B A A' :=
  ⟨h.size, fun k o hB hk ho => h.heap hk fun hf => by
    rcases hF k hf with hlt | ⟨c, t, fr, hc⟩
    · omega
    · rw [hc] at hk; cases hk; cases ho⟩
theorem keepsFrom_new {B : Nat} {A A' : World} (h : Turned (fun _ => False) A A') : KeepsFrom B A A' := keepsFrom_turned h fun _ h => h.elim

structure Veil (p : Prop) : Prop where
  out : p

/-- Behind the first statements. -/
structure AddI (w : World) (n Ba Bb : Nat) (h : Nat × Nat) (A : World) : Prop where
  a : A.heap[Ba]? = some (.cells #[.int .u32 h.1] 23 (0, 0))
  b : A.heap[Bb]? = some (.cells #[.int .u32 h.2] 23 (0, 0))
  c : A.heap[w.heap.size + 1]? = some (.cells #[.int .i64 n] 3 (0, 0))
  r : A.heap[w.heap.size + 2]? = some (.cells #[.int .u32 0, .int .u32 0] 309 (0, 0))
  t : Turned (fun _ => False) w A
theorem AddI.booked {w : World} {n Ba Bb B : Nat} {h : Nat × Nat} {A A' : World} (x : AddI w n Ba Bb h A) (hb : Booked B A A') (hB : w.heap.size ≤ B) : AddI w n Ba Bb h A' :=
  ⟨hb.heap x.a, hb.heap x.b, hb.heap x.c, hb.heap x.r, hb.turned x.t hB⟩
theorem AddI.new {w : World} {n Ba Bb : Nat} {h : Nat × Nat} {A A' : World} (x : AddI w n Ba Bb h A) (hb : Turned (fun _ => False) A A') : AddI w n Ba Bb h A' :=
  ⟨hb.heap x.a (fun h => h), hb.heap x.b (fun h => h), hb.heap x.c (fun h => h), hb.heap x.r (fun h => h), x.t.trans hb⟩
/-- Whatever is stored into the two. -/
theorem AddI.set {w : World} {n Ba Bb : Nat} {h h' : Nat × Nat} {A : World} (x : AddI w n Ba Bb h A) (_ : Ba ≠ Bb) (ha : w.heap.size + 2 < Ba) (hb : w.heap.size + 2 < Bb) {A' : World} (ht : Turned (fun k => k = Ba ∨ k = Bb) A A')
    (h1 : A'.heap[Ba]? = some (.cells #[.int .u32 h'.1] 23 (0, 0))) (h2 : A'.heap[Bb]? = some (.cells #[.int .u32 h'.2] 23 (0, 0))) : AddI w n Ba Bb h' A' :=
  ⟨h1, h2, ht.heap x.c (by omega), ht.heap x.r (by omega), x.t.then ht (fun k hk hf => by omega)⟩

theorem set0 {w : World} {b : Nat} {x v : Value} {t : TypeId} {fr : Nat × Nat} (h : w.heap[b]? = some (.cells #[x] t fr)) : (w.setCell ⟨b, 0, none⟩ v).heap[b]? = some (.cells #[v] t fr) := heap_setCell_at h 0 v
theorem set1 {w : World} {b g : Nat} {v : Value} {o : Obj} (hb : b ≠ g) (h : w.heap[b]? = some o) : (w.setCell ⟨g, 0, none⟩ v).heap[b]? = some o := by rw [Below.heap_setCell _ _ _ _ hb]; exact h
/-- What the two hold behind some stores. -/
structure Two (Ba Bb : Nat) (A A' : World) (v1 v2 : Int) : Prop where
  t : Turned (fun k => k = Ba ∨ k = Bb) A A'
  a : A'.heap[Ba]? = some (.cells #[.int .u32 v1] 23 (0, 0))
  b : A'.heap[Bb]? = some (.cells #[.int .u32 v2] 23 (0, 0))
theorem AddI.two {w : World} {n Ba Bb : Nat} {h : Nat × Nat} {A : World} (x : AddI w n Ba Bb h A) : Two Ba Bb A A h.1 h.2 := ⟨Turned.refl _ _, x.a, x.b⟩
theorem AddI.leaf {w : World} {n Ba Bb : Nat} {h h' : Nat × Nat} {A : World} (x : AddI w n Ba Bb h A) (hab : Ba ≠ Bb) (ha : w.heap.size + 2 < Ba) (hb : w.heap.size + 2 < Bb) {A' : World} {v1 v2 : Int} (y : Two Ba Bb A A' v1 v2) (e1 : v1 = (h'.1 : Nat)) (e2 : v2 = (h'.2 : Nat))
    {B k m : Nat} {o : Obj} (hk : A.heap[k]? = some o) (hka : k ≠ Ba) (hkb : k ≠ Bb) (hm : m < n) : KeepsFrom B A A' ∧ m + 1 ≤ n ∧ AddI w n Ba Bb h' A' ∧ A'.heap[k]? = some o := by
  subst e1 e2
  refine ⟨keepsFrom_turned y.t ?_, hm, x.set hab ha hb y.t y.a y.b, y.t.heap hk (by omega)⟩
  rintro j (rfl | rfl)
  · exact .inr ⟨_, _, _, x.a⟩
  · exact .inr ⟨_, _, _, x.b⟩

end Go.Proofs.YtokbmimbbeedcaaGreatDoor.Sm

/- The walk of add. -/
import Derived.RegionTactic
import Derived.ChangeAlike
import Derived.BigRegion
import Derived.RangeFuncCalls
import Derived.Shelf.Abstract
import Derived.BigFrameIn
import Derived.Test.YtaolhhgfnhhgaaaKS2
namespace Go.Proofs.Ytaolhhgfnhhgaaa.Sm
open Go.RowKit
attribute [local go_sem] Oper.semAt_some

def stepS (h : Nat × Nat) (c : UInt8) : Nat × Nat := ((h.1 + c.toNat) % 65521, (h.2 + (h.1 + c.toNat) % 65521) % 65521)
def addS (h : Nat × Nat) (s : List UInt8) : Nat × Nat := s.foldl stepS h
theorem addS_take (h : Nat × Nat) (s : List UInt8) (k : Nat) (hk : k < s.length) : addS h (s.take (k + 1)) = stepS (addS h (s.take k)) (s.getD k 0) := by
  unfold addS
  rw [List.take_succ_eq_append_getElem hk, List.foldl_append]
  simp [List.getD, hk]
theorem stepS_lt (h : Nat × Nat) (c : UInt8) : (stepS h c).1 < 65521 ∧ (stepS h c).2 < 65521 := ⟨Nat.mod_lt _ (by decide), Nat.mod_lt _ (by decide)⟩
theorem addS_lt (s : List UInt8) : ∀ (h : Nat × Nat), h.1 < 65521 ∧ h.2 < 65521 → (addS h s).1 < 65521 ∧ (addS h s).2 < 65521 := by
  induction s with
  | nil => exact fun h hh => hh
  | cons c s ih => exact fun h _ => ih _ (stepS_lt h c)

theorem keepsFrom_turned {F : Nat → Prop} {B : Nat} {A A' : World} (h : Turned F A A') (hF : ∀ k, F k → k < B ∨ ∃ c t fr, A.heap[k]? = some (.cells c t fr)) : KeepsFrom B A A' :=
  ⟨h.size, fun k o hB hk ho => h.heap hk fun hf => by
    rcases hF k hf with hlt | ⟨c, t, fr, hc⟩
    · omega
    · rw [hc] at hk; cases hk; cases ho⟩
theorem keepsFrom_new {B : Nat} {A A' : World} (h : Turned (fun _ => False) A A') : KeepsFrom B A A' := keepsFrom_turned h fun _ h => h.elim

structure Veil (p : Prop) : Prop where
  out : p

theorem set0 {w : World} {b : Nat} {x v : Value} {t : TypeId} {fr : Nat × Nat} (h : w.heap[b]? = some (.cells #[x] t fr)) : (w.setCell ⟨b, 0, none⟩ v).heap[b]? = some (.cells #[v] t fr) := heap_setCell_at h 0 v
theorem set1 {w : World} {b g : Nat} {v : Value} {o : Obj} (hb : b ≠ g) (h : w.heap[b]? = some o) : (w.setCell ⟨g, 0, none⟩ v).heap[b]? = some o := by rw [Below.heap_setCell _ _ _ _ hb]; exact h
/-- What the two hold behind some stores. -/
structure Two (Ba Bb : Nat) (A A' : World) (v1 v2 : Int) : Prop where
  t : Turned (fun k => k = Ba ∨ k = Bb) A A'
  a : A'.heap[Ba]? = some (.cells #[.int .u32 v1] 22 (0, 0))
  b : A'.heap[Bb]? = some (.cells #[.int .u32 v2] 22 (0, 0))
theorem Two.seta {Ba Bb : Nat} {A A' : World} {v1 v2 : Int} (x : Two Ba Bb A A' v1 v2) (hab : Ba ≠ Bb) (v : Int) : Two Ba Bb A (A'.setCell ⟨Ba, 0, none⟩ (.int .u32 v)) v v2 :=
  ⟨x.t.setCell (p := ⟨Ba, 0, none⟩) (.inl rfl) _, set0 x.a, set1 (Ne.symm hab) x.b⟩
theorem Two.setb {Ba Bb : Nat} {A A' : World} {v1 v2 : Int} (x : Two Ba Bb A A' v1 v2) (hab : Ba ≠ Bb) (v : Int) : Two Ba Bb A (A'.setCell ⟨Bb, 0, none⟩ (.int .u32 v)) v1 v :=
  ⟨x.t.setCell (p := ⟨Bb, 0, none⟩) (.inr rfl) _, set1 hab x.a, set0 x.b⟩
theorem leaf1 {g : Nat × Nat} {x1 x2 : Nat} {c : UInt8} {X1 X2 C v : Int} (ht : g = stepS (x1, x2) c) (he : (x1 : Int) = X1 ∧ (x2 : Int) = X2 ∧ (c.toNat : Int) = C) (hv : v = (X1 + C) % 65521) : v = (g.1 : Nat) := by
  obtain ⟨h1, h2, h3⟩ := he
  subst ht h1 h2 h3
  simp [stepS, hv]
theorem leaf2 {g : Nat × Nat} {x1 x2 : Nat} {c : UInt8} {X1 X2 C v : Int} (ht : g = stepS (x1, x2) c) (he : (x1 : Int) = X1 ∧ (x2 : Int) = X2 ∧ (c.toNat : Int) = C) (hv : v = (X2 + (X1 + C) % 65521) % 65521) : v = (g.2 : Nat) := by
  obtain ⟨h1, h2, h3⟩ := he
  subst ht h1 h2 h3
  simp [stepS, hv]

theorem heaps5 (w : World) (o1 o2 o3 o4 o5 : Obj) : Turned (fun _ => False) w (((((w.alloc o1).alloc o2).alloc o3).alloc o4).alloc o5).drew ∧ (((((w.alloc o1).alloc o2).alloc o3).alloc o4).alloc o5).drew.heap.size = w.heap.size + 5
    ∧ (((((w.alloc o1).alloc o2).alloc o3).alloc o4).alloc o5).drew.heap[w.heap.size + 1]? = some o2 ∧ (((((w.alloc o1).alloc o2).alloc o3).alloc o4).alloc o5).drew.heap[w.heap.size + 2]? = some o3
    ∧ (((((w.alloc o1).alloc o2).alloc o3).alloc o4).alloc o5).drew.heap[w.heap.size + 3]? = some o4 ∧ (((((w.alloc o1).alloc o2).alloc o3).alloc o4).alloc o5).drew.heap[w.heap.size + 4]? = some o5 := by
  refine ⟨(((((Turned.refl _ w).alloc _).alloc _).alloc _).alloc _ |>.alloc _).drew, by simp, ?_, ?_, ?_, ?_⟩ <;>
  · rw [heap_drew]
    simp only [heap_alloc_if, World.size_alloc]
    repeat (first | rw [if_neg (by omega)] | rw [if_pos (by first | trivial | omega)])

end Go.Proofs.Ytaolhhgfnhhgaaa.Sm

/- The walks of text, sums, sealed, Clone: the small functions round the sums. -/
namespace Go.Proofs.Ytaolhhgfnhhgaaa.Sm
open Go.RowKit
attribute [local go_sem] Oper.semAt_some

def okS (n : Nat) : Bool := decide (n % 65536 < 65521) && decide (n / 65536 < 65521)
theorem okS_true {n : Nat} (h : okS n = true) : n % 65536 < 65521 ∧ n / 65536 < 65521 := by simpa [okS] using h
theorem okS_of {n : Nat} {X Y : Int} (h : Veil (X = (n % 65536 : Nat) ∧ Y = (n / 65536 : Nat))) : (okS n = true ↔ X < 65521 ∧ Y < 65521) := by
  obtain ⟨⟨rfl, rfl⟩⟩ := h
  simp [okS]
  omega
theorem all_take_succ (f : Nat → Bool) (ns : List Nat) (k : Nat) (h : k < ns.length) : (ns.take (k + 1)).all f = ((ns.take k).all f && f (ns.getD k 0)) := by
  rw [List.take_succ_eq_append_getElem h, List.all_append]; simp [List.getD, h]

theorem all_bad {ns : List Nat} {k n : Nat} (h2 : (ns.take (k + 1)).all okS = ((ns.take k).all okS && okS n)) (hf : okS n = false) : ns.all okS = false := by
  rw [hf, Bool.and_false] at h2
  cases h3 : ns.all okS
  · rfl
  · have := List.all_eq_true.1 h3
    rw [List.all_eq_true.2 (fun x hx => this x (List.mem_of_mem_take hx))] at h2
    cases h2

end Go.Proofs.Ytaolhhgfnhhgaaa.Sm

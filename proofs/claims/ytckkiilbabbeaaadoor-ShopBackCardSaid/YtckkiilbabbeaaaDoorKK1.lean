/- Mail: the document's own Right, Bytes. -/
import Derived.Test.YtckkiilbabbeaaaDoorKK0
import Derived.Test.YtckkiilbabbeaaaDoorKF1
namespace Go.Proofs.YtckkiilbabbeaaaDoor
open Go Go.RowKit Sm
attribute [local go_sem] Oper.semAt_some

theorem ret_boolM {a b : Bool} (h : a = b) : Ending.returned (.bool a) = Ending.returned (.bool b) := by rw [h]
/-- A mail in a box. -/
structure MlBox (w : World) (b : Nat) (f : Int) (mo : Int) (i : Int) (n : Int) : Prop where
  f : w.cell? ⟨b, 0, none⟩ = some (.int .u32 f)
  mo : w.cell? ⟨b, 1, none⟩ = some (.int .i64 mo)
  i : w.cell? ⟨b, 2, none⟩ = some (.int .u16 i)
  n : w.cell? ⟨b, 3, none⟩ = some (.int .i64 n)
theorem MlBox.new (w : World) (f mo i n : Int) (T : TypeId) : MlBox (w.alloc (.cells #[.int .u32 f, .int .i64 mo, .int .u16 i, .int .i64 n] T)) w.heap.size f mo i n := by
  constructor <;> exact cell_whole (cur := [.int .u32 f, .int .i64 mo, .int .u16 i, .int .i64 n]) (heap_alloc_new _ _) _
theorem MlBox.below {w w' : World} {b : Nat} {f mo i n : Int} (h : MlBox w b f mo i n) (hb : Below w.heap.size w w') : MlBox w' b f mo i n :=
  ⟨(hb.cell (World.block_lt_of_cell? _ _ h.f)).trans h.f, (hb.cell (World.block_lt_of_cell? _ _ h.mo)).trans h.mo, (hb.cell (World.block_lt_of_cell? _ _ h.i)).trans h.i, (hb.cell (World.block_lt_of_cell? _ _ h.n)).trans h.n⟩

end Go.Proofs.YtckkiilbabbeaaaDoor

/- Mail: the document's own Parse. -/
namespace Go.Proofs.YtckkiilbabbeaaaDoor
open Go Go.RowKit Sm
attribute [local go_sem] Oper.semAt_some

theorem pkM {w : World} {g : Nat} {a0 a1 a2 a3 : Value} {t : TypeId} (h : w.heap[g]? = some (.cells #[a0, a1, a2, a3] t (0, 0))) :
    (w.cell? ⟨g, 0, none⟩ = some a0 ∧ w.cell? ⟨g, 1, none⟩ = some a1 ∧ w.cell? ⟨g, 2, none⟩ = some a2 ∧ w.cell? ⟨g, 3, none⟩ = some a3) ∧ (w.frozen? ⟨g, 0, none⟩ = false ∧ w.frozen? ⟨g, 1, none⟩ = false ∧ w.frozen? ⟨g, 2, none⟩ = false ∧ w.frozen? ⟨g, 3, none⟩ = false) := by
  have h' : w.heap[g]? = some (.cells [a0, a1, a2, a3].toArray t (0, 0)) := h
  exact ⟨⟨cell_whole h' 0, cell_whole h' 1, cell_whole h' 2, cell_whole h' 3⟩, frozen_whole h _, frozen_whole h _, frozen_whole h _, frozen_whole h _⟩
theorem stM {w : World} {g : Nat} {a0 a1 a2 a3 : Value} {t : TypeId} (h : w.heap[g]? = some (.cells #[a0, a1, a2, a3] t (0, 0))) (v0 v1 v2 v3 : Value) :
    ((((w.setCell ⟨g, 0, none⟩ v0).setCell ⟨g, 1, none⟩ v1).setCell ⟨g, 2, none⟩ v2).setCell ⟨g, 3, none⟩ v3).heap[g]? = some (.cells #[v0, v1, v2, v3] t (0, 0)) :=
  heap_setCell_at (heap_setCell_at (heap_setCell_at (heap_setCell_at h 0 v0) 1 v1) 2 v2) 3 v3
theorem tnM {w0 w : World} {g : Nat} (h : Below w0.heap.size w0 w) (hg : w0.heap.size ≤ g) (v0 v1 v2 v3 : Value) :
    Below w0.heap.size w0 ((((w.setCell ⟨g, 0, none⟩ v0).setCell ⟨g, 1, none⟩ v1).setCell ⟨g, 2, none⟩ v2).setCell ⟨g, 3, none⟩ v3) :=
  (((h.setCell hg v0).setCell hg v1).setCell hg v2).setCell hg v3
/-- Four cells stored elsewhere leave a block. -/
theorem otherM {w : World} {g k : Nat} {o : Obj} (h : w.heap[k]? = some o) (hne : k ≠ g) (v0 v1 v2 v3 : Value) :
    ((((w.setCell ⟨g, 0, none⟩ v0).setCell ⟨g, 1, none⟩ v1).setCell ⟨g, 2, none⟩ v2).setCell ⟨g, 3, none⟩ v3).heap[k]? = some o := by
  rw [Below.heap_setCell _ _ _ _ hne, Below.heap_setCell _ _ _ _ hne, Below.heap_setCell _ _ _ _ hne, Below.heap_setCell _ _ _ _ hne]
  exact h

end Go.Proofs.YtckkiilbabbeaaaDoor

/- Mail: the document's own copied, Send, Claim. -/
namespace Go.Proofs.YtckkiilbabbeaaaDoor
open Go Go.RowKit Sm
attribute [local go_sem] Oper.semAt_some

theorem results_acc3 {fn : Func} {p q r : Tmp} {tmps : Array Value} {w : World} {g : Nat} {x0 x1 z y : Value} (h : fn.results = #[.cell p 37, .tmp q, .tmp r]) (hp : tmps.getD p undef = .pointer (some ⟨g, 0, none⟩)) (hq : tmps.getD q undef = z) (hr : tmps.getD r undef = y) (hg : w.heap[g]? = some (.cells #[x0, x1] 37 (0, 0))) :
    (results fn tmps).run Tryd.prog w = .ok (.tuple #[.agg #[x0, x1], z, y]) w := by
  have hp' : tmps[p]?.getD undef = .pointer (some ⟨g, 0, none⟩) := by simpa using hp
  have hq' : tmps[q]?.getD undef = z := by simpa using hq
  have hr' : tmps[r]?.getD undef = y := by simpa using hr
  obtain ⟨⟨c0, c1⟩, -⟩ := pk2 hg
  simp [results, h, go_sem, hp', hq', hr', c0, c1]
theorem FreshE.turned {α : Type} {E : El α} {B : Nat} {w w' : World} {v : Value} {L : List α} {F : Nat → Prop} (h : FreshE E B w v L) (ht : Turned F w w') (hF : ∀ k, F k → k < B) : FreshE E B w' v L := by
  obtain ⟨p, c, rfl, he, hc, ha, hf⟩ := h
  refine ⟨p, c, rfl, ?_, hc, fun hn a hp => ?_, fun b o hp j hj => ?_⟩
  · by_cases hn : L = []
    · subst hn; exact Els.nil _ _
    · exact he.turned ht fun a hp h => by have := (ha hn a hp).1; have := hF _ h; omega
  · obtain ⟨h1, h2, h3⟩ := ha hn a hp
    exact ⟨h1, Nat.lt_of_lt_of_le h2 ht.size, h3⟩
  · have hn : L ≠ [] := by rintro rfl; simp at hj
    obtain ⟨h1, h2, -⟩ := ha hn _ hp
    have hb : w'.heap[b]? = w.heap[b]? := ht.block b h2 fun h => by have := hF _ h; dsimp only at h1; omega
    rw [World.frozen?_of_block hb]
    exact hf b o hp j hj
theorem two_turned (w : World) (g : Nat) (v0 v1 : Value) : Turned (· = g) w ((w.setCell ⟨g, 0, none⟩ v0).setCell ⟨g, 1, none⟩ v1) :=
  ((Turned.refl (· = g) w).setCell (p := ⟨g, 0, none⟩) rfl _).setCell (p := ⟨g, 1, none⟩) rfl _
def MailPost (w : World) (A : Ac) (L : List St) (c : Int) (e : Ending) (w' : World) : Prop := ∃ v, e = .returned (.tuple #[A.v, v, .int .i64 c]) ∧ FreshE elS w.heap.size w' v L ∧ Below w.heap.size w w'
theorem MailPost.nil {w w' : World} {c : Int} (hb : Below w.heap.size w w') : MailPost w Ac.zero [] c (.returned (.tuple #[.agg #[.int .i64 0, .int .i64 0], .slice none 0 0, .int .i64 c])) w' := ⟨_, rfl, FreshE.nil _ _ _, hb⟩

end Go.Proofs.YtckkiilbabbeaaaDoor

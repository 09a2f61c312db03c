/- The walk of the document's own Encode. -/
import Derived.Deep.RegionHeld3
import Derived.Deep.QuietTactic
import Derived.BigQuiet
import Derived.Laws.StructEq
import Derived.Test.YtokbmimbbeedcaaGreatDoorKP5
import Derived.Test.YtokbmimbbeedcaaGreatDoorKP1
import Derived.Test.YtokbmimbbeedcaaGreatDoorKS6
namespace Go.Proofs.YtokbmimbbeedcaaGreatDoor
open Go Go.RowKit Sm
attribute [local go_sem] Oper.semAt_some

/-- A page in its box. -/
def Box (b : Nat) (k i t : Int) (s : ByteArray) (W : World) : Prop := W.cell? ⟨b, 0, none⟩ = some (.int .i64 k) ∧ W.cell? ⟨b, 1, none⟩ = some (.int .u32 i) ∧ W.cell? ⟨b, 2, none⟩ = some (.int .u64 t) ∧ W.cell? ⟨b, 3, none⟩ = some (.string s)
theorem Box.new (w : World) (k i t : Int) (s : ByteArray) (T : TypeId) : Box w.heap.size k i t s (w.alloc (.cells #[.int .i64 k, .int .u32 i, .int .u64 t, .string s] T)) := by
  have h := heap_alloc_new w (.cells [.int .i64 k, .int .u32 i, .int .u64 t, .string s].toArray T)
  exact ⟨cell_whole h 0, cell_whole h 1, cell_whole h 2, cell_whole h 3⟩
theorem Box.below {b : Nat} {k i t : Int} {s : ByteArray} {W W' : World} (h : Box b k i t s W) (hb : Below W.heap.size W W') (hlt : b < W.heap.size) : Box b k i t s W' :=
  ⟨(hb.cell hlt).trans h.1, (hb.cell hlt).trans h.2.1, (hb.cell hlt).trans h.2.2.1, (hb.cell hlt).trans h.2.2.2⟩

end Go.Proofs.YtokbmimbbeedcaaGreatDoor

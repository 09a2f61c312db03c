/- The walk of load: the bytes at a page's place. -/
import Derived.Laws.ResultCell
import Derived.IntWalk
import Derived.Test.YtokbmimbbeedcaaGreatDoorKP8
import Derived.Test.YtokbmimbbeedcaaGreatDoorKD8
import Derived.Test.YtokbmimbbeedcaaGreatDoorKS3
namespace Go.Proofs.YtokbmimbbeedcaaGreatDoor
open Go Go.RowKit Sm
attribute [local go_sem] Oper.semAt_some

/-- A call in a round, by the callee's plain contract. -/
theorem calls_round {P : Program} {f : FuncId} {args : Array Value} {w : World} {R : Ending → World → Prop} {l m : Nat} (h : Calls P f args w R) :
    Fence.wide.fn f ∧ (Fence.wide.depth.isSome = true → 1 ≤ m) ∧ CallsIn (Fence.wide.inRound l) (m - 1) P f args w R := by
  refine ⟨trivial, fun hd => by simp [Fence.wide] at hd, ?_⟩
  have h' := (callsIn_wide (n := m - 1)).2 h
  refine ⟨trivial, fun cs hr => ?_⟩
  obtain ⟨e, w2, fr, hR, hs, hf⟩ := h'.2 cs (room_wide _)
  exact ⟨e, w2, fr, hR, hs, hf⟩
structure LoadI (w : World) (B1 B2 B3 : Nat) (d kb sb : Nat) (v : Value) (D : Dk) (r : ByteArray) (c : Int) (acc : List UInt8) (A : World) : Prop where
  disk : DiskAt A d kb sb v D
  bx : A.heap[w.heap.size]? = some (.cells #[.pointer (some ⟨d, 0, none⟩)] 25 (0, 0))
  rs : A.heap[B1]? = some (.cells #[.string r] 9 (0, 0))
  re : A.heap[B2]? = some (.cells #[.int .i64 c] 26 (0, 0))
  al : A.heap[B3]? = some (.cells #[.string ⟨acc.toArray⟩] 9 (0, 0))
  t : Turned (fun _ => False) w A
section
variable {w : World} {B1 B2 B3 d kb sb : Nat} {v : Value} {D : Dk} {r : ByteArray} {c : Int} {acc : List UInt8} {A A' : World}
theorem LoadI.booked {B : Nat} (h : LoadI w B1 B2 B3 d kb sb v D r c acc A) (hb : Booked B A A') (hB : w.heap.size ≤ B) : LoadI w B1 B2 B3 d kb sb v D r c acc A' :=
  ⟨h.disk.booked hb, hb.heap h.bx, hb.heap h.rs, hb.heap h.re, hb.heap h.al, hb.turned h.t hB⟩
theorem LoadI.new (h : LoadI w B1 B2 B3 d kb sb v D r c acc A) (hb : Turned (fun _ => False) A A') : LoadI w B1 B2 B3 d kb sb v D r c acc A' :=
  ⟨h.disk.kept' hb (fun _ => False.elim), hb.heap h.bx (fun h => h), hb.heap h.rs (fun h => h), hb.heap h.re (fun h => h), hb.heap h.al (fun h => h), h.t.trans hb⟩
/-- One sector more. -/
theorem LoadI.more (h : LoadI w B1 B2 B3 d kb sb v D r c acc A) (hD : ∀ k, Foot d kb sb v k → k < w.heap.size) (h3 : w.heap.size < B3) (h13 : B1 ≠ B3) (h23 : B2 ≠ B3) (acc' : List UInt8) : LoadI w B1 B2 B3 d kb sb v D r c acc' (A.setCell ⟨B3, 0, none⟩ (.string ⟨acc'.toArray⟩)) :=
  have ht : Turned (· = B3) A (A.setCell ⟨B3, 0, none⟩ (.string ⟨acc'.toArray⟩)) := (Turned.refl (· = B3) A).setCell (p := ⟨B3, 0, none⟩) rfl _
  ⟨h.disk.kept' ht (fun k e hf => by have := hD k hf; omega), ht.heap h.bx (by omega), ht.heap h.rs h13, ht.heap h.re h23, heap_setCell_at h.al 0 _, h.t.then ht (fun k hk e => by omega)⟩
/-- What the loop leaves where the disk tells an error. -/
structure LoadX (w : World) (B1 B2 : Nat) (A : World) : Prop where
  rs : A.heap[B1]? = some (.cells #[.string ⟨#[]⟩] 9 (0, 0))
  re : A.heap[B2]? = some (.cells #[.int .i64 10] 26 (0, 0))
  t : Turned (fun _ => False) w A
theorem LoadX.booked {B : Nat} (h : LoadX w B1 B2 A) (hb : Booked B A A') (hB : w.heap.size ≤ B) : LoadX w B1 B2 A' := ⟨hb.heap h.rs, hb.heap h.re, hb.turned h.t hB⟩
theorem LoadI.stop (h : LoadI w B1 B2 B3 d kb sb v D r c acc A) (h1 : w.heap.size < B1) (h2 : w.heap.size < B2) (h12 : B1 ≠ B2) : LoadX w B1 B2 ((A.setCell ⟨B1, 0, none⟩ (.string ⟨#[]⟩)).setCell ⟨B2, 0, none⟩ (.int .i64 10)) :=
  have ht1 : Turned (· = B1) A (A.setCell ⟨B1, 0, none⟩ (.string ⟨#[]⟩)) := (Turned.refl (· = B1) A).setCell (p := ⟨B1, 0, none⟩) rfl _
  have ht2 : Turned (· = B2) (A.setCell ⟨B1, 0, none⟩ (.string ⟨#[]⟩)) ((A.setCell ⟨B1, 0, none⟩ (.string ⟨#[]⟩)).setCell ⟨B2, 0, none⟩ (.int .i64 10)) := (Turned.refl (· = B2) _).setCell (p := ⟨B2, 0, none⟩) rfl _
  ⟨ht2.heap (heap_setCell_at h.rs 0 _) h12, heap_setCell_at (ht1.heap h.re (Ne.symm h12)) 0 _, (h.t.then ht1 (fun k hk e => by omega)).then ht2 (fun k hk e => by omega)⟩
end

end Go.Proofs.YtokbmimbbeedcaaGreatDoor

/- The walk of Write of a page. -/
import Derived.StillTailTactics
import Derived.DataShut
import Derived.Laws.ResultCell
import Derived.IntWalk
import Derived.Test.YtokbmimbbeedcaaGreatDoorKPL
import Derived.Test.YtokbmimbbeedcaaGreatDoorKP8
import Derived.Test.YtokbmimbbeedcaaGreatDoorKP1
import Derived.Test.YtokbmimbbeedcaaGreatDoorKD8
namespace Go.Proofs.YtokbmimbbeedcaaGreatDoor
open Go Go.RowKit Sm
attribute [local go_sem] Oper.semAt_some

/-- Between two rounds: the disk, and what the call itself has made. -/
structure WrI (w : World) (L B0 B6 B7 B8 cap : Nat) (row : Array Value) (t7 : TypeId) (f7 : Nat × Nat) (d kb sb : Nat) (v : Value) (D : Dk) (c : Int) (v' : Value) (A : World) : Prop where
  disk : DiskAt A d kb sb v' D
  own : v'.ownBlock = v.ownBlock ∨ ∀ k, v'.ownBlock = some k → L ≤ k
  bx : A.heap[B0]? = some (.cells #[.pointer (some ⟨d, 0, none⟩)] 25 (0, 0))
  er : A.heap[B6]? = some (.cells #[.int .i64 c] 26 (0, 0))
  by7 : A.heap[B7]? = some (.cells row t7 f7)
  sl : A.heap[B8]? = some (.cells #[.slice (some ⟨B7, 0, none⟩) 256 cap] 244 (0, 0))
  t : Turned (Foot d kb sb v) w A
section
variable {w : World} {L B0 B6 B7 B8 cap : Nat} {row : Array Value} {t7 : TypeId} {f7 : Nat × Nat} {d kb sb : Nat} {v : Value} {D : Dk} {c : Int} {v' : Value} {A A' : World}
theorem WrI.booked {B : Nat} (h : WrI w L B0 B6 B7 B8 cap row t7 f7 d kb sb v D c v' A) (hb : Booked B A A') (hB : w.heap.size ≤ B) : WrI w L B0 B6 B7 B8 cap row t7 f7 d kb sb v D c v' A' :=
  ⟨h.disk.booked hb, h.own, hb.heap h.bx, hb.heap h.er, hb.heap h.by7, hb.heap h.sl, hb.turned h.t hB⟩
/-- A block that the call has made is none of the disk's. -/
theorem WrI.off (h : WrI w L B0 B6 B7 B8 cap row t7 f7 d kb sb v D c v' A) (hf : ∀ k, Foot d kb sb v k → k < w.heap.size) {b : Nat} (h1 : w.heap.size ≤ b) (h2 : b < L) : ¬ Foot d kb sb v' b := by
  rintro (rfl | rfl | rfl | hk)
  · have := hf _ (.inl rfl); omega
  · have := hf _ (.inr (.inl rfl)); omega
  · have := hf _ (.inr (.inr (.inl rfl))); omega
  · rcases h.own with e | e
    · have := hf b (.inr (.inr (.inr (by rw [← e]; exact hk)))); omega
    · have := e b hk; omega
theorem foot_sub (ho : v'.ownBlock = v.ownBlock ∨ ∀ k, v'.ownBlock = some k → L ≤ k) (hL : w.heap.size ≤ L) : ∀ k, k < w.heap.size → Foot d kb sb v' k → Foot d kb sb v k := by
  rintro k hk (h | h | h | h)
  · exact .inl h
  · exact .inr (.inl h)
  · exact .inr (.inr (.inl h))
  · rcases ho with e | e
    · exact .inr (.inr (.inr (by rw [← e]; exact h)))
    · have := e k h; omega
/-- Behind a write of the disk's, and the store of what it told. -/
theorem WrI.next (h : WrI w L B0 B6 B7 B8 cap row t7 f7 d kb sb v D c v' A) (hf : ∀ k, Foot d kb sb v k → k < w.heap.size) (hL : w.heap.size ≤ L) (hA : L ≤ A.heap.size) (h0 : w.heap.size ≤ B0 ∧ B0 < L) (h6 : w.heap.size ≤ B6 ∧ B6 < L) (h7 : w.heap.size ≤ B7 ∧ B7 < L) (h8 : w.heap.size ≤ B8 ∧ B8 < L) (n06 : B0 ≠ B6) (n76 : B7 ≠ B6) (n86 : B8 ≠ B6)
    {D' : Dk} {v2 : Value} {w6 : World} (hD : DiskAt w6 d kb sb v2 D') (ht : Turned (Foot d kb sb v') A w6) (hv : v2.ownBlock = v'.ownBlock ∨ ∀ k, v2.ownBlock = some k → A.heap.size ≤ k) (c' : Int) :
    WrI w L B0 B6 B7 B8 cap row t7 f7 d kb sb v D' c' v2 (w6.setCell ⟨B6, 0, none⟩ (.int .i64 c')) := by
  have own2 : v2.ownBlock = v.ownBlock ∨ ∀ k, v2.ownBlock = some k → L ≤ k := by
    rcases hv with e | e
    · rcases h.own with e2 | e2
      · exact .inl (e.trans e2)
      · exact .inr fun k hk => e2 k (by rw [← e]; exact hk)
    · exact .inr fun k hk => Nat.le_trans hA (e k hk)
  have hT6 : Turned (· = B6) w6 (w6.setCell ⟨B6, 0, none⟩ (.int .i64 c')) := (Turned.refl (· = B6) w6).setCell (p := ⟨B6, 0, none⟩) rfl _
  have off2 : ¬ Foot d kb sb v2 B6 := by
    rintro (rfl | rfl | rfl | hk)
    · have := hf _ (.inl rfl); omega
    · have := hf _ (.inr (.inl rfl)); omega
    · have := hf _ (.inr (.inr (.inl rfl))); omega
    · rcases own2 with e | e
      · have := hf B6 (.inr (.inr (.inr (by rw [← e]; exact hk)))); omega
      · have := e B6 hk; omega
  refine ⟨hD.kept' hT6 (fun k e => e ▸ off2), own2, hT6.heap (ht.heap h.bx (h.off hf h0.1 h0.2)) n06, heap_setCell_at (ht.heap h.er (h.off hf h6.1 h6.2)) 0 _, hT6.heap (ht.heap h.by7 (h.off hf h7.1 h7.2)) n76, hT6.heap (ht.heap h.sl (h.off hf h8.1 h8.2)) n86, ?_⟩
  exact (h.t.then ht (foot_sub h.own hL)).then hT6 (fun k hk e => by omega)
end

end Go.Proofs.YtokbmimbbeedcaaGreatDoor

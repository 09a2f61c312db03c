/- The walk of found: the page whose bytes these are. -/
import Derived.Laws.IdiomStrings
import Derived.Test.YtokbmimbbeedcaaGreatDoorKP1
import Derived.Test.YtokbmimbbeedcaaGreatDoorKP7
namespace Go.Proofs.YtokbmimbbeedcaaGreatDoor
open Go Go.RowKit Sm
attribute [local go_sem] Oper.semAt_some

/-- The page that 256 bytes tell of, if they are a page's. -/
def lenOf (s : List UInt8) : Nat := getB ((s.drop 13).take 2)
def Pg.of (s : List UInt8) : Pg := ⟨getB (s.take 1), getB ((s.drop 1).take 4), getB ((s.drop 5).take 8), (s.drop 15).take (lenOf s)⟩
def Pg.zero : Pg := ⟨0, 0, 0, []⟩
/-- A text's bytes, in a new row. -/
theorem bytes_row (u : List UInt8) (w : World) : ∃ cap W, (convert 9 244 (.string ⟨u.toArray⟩)).run Tryz.prog w = .ok (.slice (some ⟨w.heap.size, 0, none⟩) u.length cap) W ∧ Below w.heap.size w W ∧ W.rangeAt w.heap.size 0 (u8s u) ∧ u.length ≤ cap ∧ w.heap.size < W.heap.size := by
  refine ⟨_, _, run_bytes_of_string (P := Tryz.prog) w 9 244 5 ⟨u.toArray⟩ Tryz.underlying9 Tryz.underlying244 Tryz.underlying5, below_al (Below.refl _ w).drew _, ?_, ?_, ?_⟩
  · intro i v hv
    obtain ⟨hi, rfl⟩ : ∃ hi : i < u.length, v = .int .u8 (u[i]).toNat := by
      simp only [u8s, List.getElem?_map] at hv
      by_cases hi : i < u.length
      · exact ⟨hi, by simp [hi, u8v] at hv; exact hv.symm⟩
      · simp [hi] at hv
    have := World.cell?_alloc_mark w.drew (bytesRow ⟨u.toArray⟩ (grownCap w (⟨u.toArray⟩ : ByteArray).size 0 5)) 5 ((bytesRow ⟨u.toArray⟩ (grownCap w (⟨u.toArray⟩ : ByteArray).size 0 5)).size, (bytesRow ⟨u.toArray⟩ (grownCap w (⟨u.toArray⟩ : ByteArray).size 0 5)).size + 1) i
    rw [bytesRow_at _ _ _ (by simpa using hi)] at this
    have e : (⟨u.toArray⟩ : ByteArray).data[i]'(by simpa using hi) = u[i] := by simp
    rw [e] at this
    rw [Nat.zero_add]
    exact this
  · have := grownCap_ge w (⟨u.toArray⟩ : ByteArray).size 0 5
    exact (show u.length ≤ _ from by simpa [ByteArray.size] using this)
  · simp

end Go.Proofs.YtokbmimbbeedcaaGreatDoor

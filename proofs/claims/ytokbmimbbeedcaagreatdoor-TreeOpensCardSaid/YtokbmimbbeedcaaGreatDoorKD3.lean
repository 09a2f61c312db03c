/- The walks of show, keep, fall. -/
import Derived.Deep.QuietTactic
import Derived.BigQuiet
import Derived.Test.YtokbmimbbeedcaaGreatDoorKD1
import Derived.Test.YtokbmimbbeedcaaGreatDoorKG
namespace Go.Proofs.YtokbmimbbeedcaaGreatDoor
open Go.RowKit

theorem Dk.Ok.set {D : Dk} (h : D.Ok) (i : Nat) {bs : List UInt8} (hb : bs.length = 64) : ({ D with seen := D.seen.set i bs } : Dk).Ok :=
  { h with
    len := by simp [h.len]
    s64 := fun s hs => by
      rcases List.mem_or_eq_of_mem_set hs with hs | rfl
      · exact h.s64 s hs
      · exact hb }

/-- The first n bytes of a write over what was there. -/
def tear (bs old : List UInt8) (n : Nat) : List UInt8 := bs.take n ++ old.drop n
theorem length_tear {bs old : List UInt8} {n : Nat} (hb : bs.length = 64) (ho : old.length = 64) (hn : n ≤ 64) : (tear bs old n).length = 64 := by simp [tear]; omega

end Go.Proofs.YtokbmimbbeedcaaGreatDoor

/- Trees: the laid variable of the package errors (a type, by reflection); a world that has it laid. -/
import Derived.Test.YtokbmimbbeedcaaGreatDoorRows
import Derived.Stop.LaidTwo
import Derived.LaidMore
import Derived.Stop.Joined
import Derived.Test.YtokbmimbbeedcaaGreatDoorKS3
namespace Go.Proofs.YtokbmimbbeedcaaGreatDoor
open Go Go.RowKit Go.ChangeShapes

def laidE : List (String × DataW Unit) := [("errors.errorType", Rows.laid_errors_errorType)]
theorem doorE (os : Os) (args : Array Value) : laidMetH Tryz.prog laidE ((World.doorLaid Tryz.prog 400 os).forCall (fun _ _ => 0) ⟨#[], args, []⟩).memory :=
  laidMetH_of_parts3 (fuel := 8) (laidMet_of_run' 8 (by kernel_rfl) (by kernel_rfl)) (by kernel_rfl) (by kernel_rfl)
end Go.Proofs.YtokbmimbbeedcaaGreatDoor

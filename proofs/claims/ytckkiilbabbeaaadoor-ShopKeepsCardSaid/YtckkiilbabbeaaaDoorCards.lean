/-
  DERIVED. GIVEN WITH THE SEED: THE CARDS: each row of YtckkiilbabbeaaaDoorRows.lean that lists a variable, with what it lists TIED to the program's text (the seventh form; the later family's looks); each row that meets fmt, with fmt's text TOLD by the authors' own Lean function (tested against real Go, not proved from fmt's source: count such statements apart). THE CARD IS WHAT COUNTS. Prove the row's statement (the work); the ties are given (YtckkiilbabbeaaaDoorTie.lean); close each card by the builder's one call (the guide's Derived/Test/ToyasCard.lean, 'card_holds'). Laid BY PROGRAM, IN A SANDBOX (cutbox-door.mjs). By AI agents, Wed Nov 11 2026. No macro, syntax, notation, axiom, sorry.
-/
import Derived.Test.YtckkiilbabbeaaaDoorRows
import GoSem.ClaimSeven
namespace Go.Proofs.YtckkiilbabbeaaaDoor
namespace Rows

/-- THE TIED CARD OF 'bazaarlaw15.ShopBytes'. -/
def shopBytesCard : Claim7 := { stood := { row := shopBytesRow, standIns := [], harness := (true, "2f7caad9e6fb4dce6352e8a27f96543b5bb3ef39d120c588c0c0eeb9148d1651"), looks := true }, kinds := [], alts := [], laidByText := true, laidKinds := [.sentinel, .sentinel, .sentinel], laidTests := true, laidLooks := .later }
def ShopBytesCardSaid : Prop := Claim7.holds Tryd.pinned (.plain (OpenSpec.ofChange shopBytesSpec)) shopBytesCard

/-- THE TIED CARD OF 'bazaarlaw15.ShopDoes'. -/
def shopDoesCard : Claim7 := { stood := { row := shopDoesRow, standIns := [], harness := (true, "2f7caad9e6fb4dce6352e8a27f96543b5bb3ef39d120c588c0c0eeb9148d1651"), looks := true }, kinds := [], alts := [], laidByText := true, laidKinds := [.sentinel, .sentinel, .sentinel], laidTests := true, laidLooks := .later }
def ShopDoesCardSaid : Prop := Claim7.holds Tryd.pinned (.plain (OpenSpec.ofChange shopDoesSpec)) shopDoesCard

/-- THE TIED CARD OF 'bazaarlaw15.ShopBack'. -/
def shopBackCard : Claim7 := { stood := { row := shopBackRow, standIns := [], harness := (true, "2f7caad9e6fb4dce6352e8a27f96543b5bb3ef39d120c588c0c0eeb9148d1651"), looks := true }, kinds := [], alts := [], laidByText := true, laidKinds := [.sentinel, .sentinel, .sentinel], laidTests := true, laidLooks := .later }
def ShopBackCardSaid : Prop := Claim7.holds Tryd.pinned (.plain (OpenSpec.ofChange shopBackSpec)) shopBackCard

/-- THE TIED CARD OF 'bazaarlaw15.ShopKeeps'. -/
def shopKeepsCard : Claim7 := { stood := { row := shopKeepsRow, standIns := [], harness := (true, "2f7caad9e6fb4dce6352e8a27f96543b5bb3ef39d120c588c0c0eeb9148d1651"), looks := true }, kinds := [], alts := [], laidByText := true, laidKinds := [.sentinel, .sentinel, .sentinel], laidTests := true, laidLooks := .later }
def ShopKeepsCardSaid : Prop := Claim7.holds Tryd.pinned (.plain (OpenSpec.ofChange shopKeepsSpec)) shopKeepsCard

/-- THE TIED CARD OF 'bazaarlaw15.ShopOwn'. -/
def shopOwnCard : Claim7 := { stood := { row := shopOwnRow, standIns := [], harness := (true, "2f7caad9e6fb4dce6352e8a27f96543b5bb3ef39d120c588c0c0eeb9148d1651"), looks := true }, kinds := [], alts := [], laidByText := true, laidKinds := [.sentinel, .sentinel, .sentinel], laidTests := true, laidLooks := .later }
def ShopOwnCardSaid : Prop := Claim7.holds Tryd.pinned (.plain (OpenSpec.ofChange shopOwnSpec)) shopOwnCard

/-- THE TIED CARD OF 'bazaarlaw15.ShopSizes'. -/
def shopSizesCard : Claim7 := { stood := { row := shopSizesRow, standIns := [], harness := (true, "2f7caad9e6fb4dce6352e8a27f96543b5bb3ef39d120c588c0c0eeb9148d1651"), looks := true }, kinds := [], alts := [], laidByText := true, laidKinds := [.sentinel, .sentinel, .sentinel], laidTests := true, laidLooks := .later }
def ShopSizesCardSaid : Prop := Claim7.holds Tryd.pinned (.plain (OpenSpec.ofChange shopSizesSpec)) shopSizesCard

/-- THE SECOND FORM's CARD OF 'bazaarlaw15.ShopBytes'. -/
def shopBytesUptoCard : Claim7 := { stood := { row := shopBytesUptoRow, standIns := [], harness := (true, "2f7caad9e6fb4dce6352e8a27f96543b5bb3ef39d120c588c0c0eeb9148d1651"), looks := true }, kinds := [], alts := [], laidByText := true, laidKinds := [.sentinel, .sentinel, .sentinel], laidTests := true, laidLooks := .later }
def ShopBytesUptoCardSaid : Prop := Claim7.holds Tryd.pinned (.plain (OpenSpec.upto shopBytesSpec)) shopBytesUptoCard

/-- THE SECOND FORM's CARD OF 'bazaarlaw15.ShopDoes'. -/
def shopDoesUptoCard : Claim7 := { stood := { row := shopDoesUptoRow, standIns := [], harness := (true, "2f7caad9e6fb4dce6352e8a27f96543b5bb3ef39d120c588c0c0eeb9148d1651"), looks := true }, kinds := [], alts := [], laidByText := true, laidKinds := [.sentinel, .sentinel, .sentinel], laidTests := true, laidLooks := .later }
def ShopDoesUptoCardSaid : Prop := Claim7.holds Tryd.pinned (.plain (OpenSpec.upto shopDoesSpec)) shopDoesUptoCard

/-- THE SECOND FORM's CARD OF 'bazaarlaw15.ShopBack'. -/
def shopBackUptoCard : Claim7 := { stood := { row := shopBackUptoRow, standIns := [], harness := (true, "2f7caad9e6fb4dce6352e8a27f96543b5bb3ef39d120c588c0c0eeb9148d1651"), looks := true }, kinds := [], alts := [], laidByText := true, laidKinds := [.sentinel, .sentinel, .sentinel], laidTests := true, laidLooks := .later }
def ShopBackUptoCardSaid : Prop := Claim7.holds Tryd.pinned (.plain (OpenSpec.upto shopBackSpec)) shopBackUptoCard

/-- THE SECOND FORM's CARD OF 'bazaarlaw15.ShopKeeps'. -/
def shopKeepsUptoCard : Claim7 := { stood := { row := shopKeepsUptoRow, standIns := [], harness := (true, "2f7caad9e6fb4dce6352e8a27f96543b5bb3ef39d120c588c0c0eeb9148d1651"), looks := true }, kinds := [], alts := [], laidByText := true, laidKinds := [.sentinel, .sentinel, .sentinel], laidTests := true, laidLooks := .later }
def ShopKeepsUptoCardSaid : Prop := Claim7.holds Tryd.pinned (.plain (OpenSpec.upto shopKeepsSpec)) shopKeepsUptoCard

/-- THE SECOND FORM's CARD OF 'bazaarlaw15.ShopOwn'. -/
def shopOwnUptoCard : Claim7 := { stood := { row := shopOwnUptoRow, standIns := [], harness := (true, "2f7caad9e6fb4dce6352e8a27f96543b5bb3ef39d120c588c0c0eeb9148d1651"), looks := true }, kinds := [], alts := [], laidByText := true, laidKinds := [.sentinel, .sentinel, .sentinel], laidTests := true, laidLooks := .later }
def ShopOwnUptoCardSaid : Prop := Claim7.holds Tryd.pinned (.plain (OpenSpec.upto shopOwnSpec)) shopOwnUptoCard

/-- THE SECOND FORM's CARD OF 'bazaarlaw15.ShopSizes'. -/
def shopSizesUptoCard : Claim7 := { stood := { row := shopSizesUptoRow, standIns := [], harness := (true, "2f7caad9e6fb4dce6352e8a27f96543b5bb3ef39d120c588c0c0eeb9148d1651"), looks := true }, kinds := [], alts := [], laidByText := true, laidKinds := [.sentinel, .sentinel, .sentinel], laidTests := true, laidLooks := .later }
def ShopSizesUptoCardSaid : Prop := Claim7.holds Tryd.pinned (.plain (OpenSpec.upto shopSizesSpec)) shopSizesUptoCard
end Rows
end Go.Proofs.YtckkiilbabbeaaaDoor

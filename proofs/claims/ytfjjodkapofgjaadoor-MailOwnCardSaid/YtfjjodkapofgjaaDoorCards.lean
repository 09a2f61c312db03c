/-
  DERIVED. GIVEN WITH THE SEED: THE CARDS: each row of YtfjjodkapofgjaaDoorRows.lean that lists a variable, with what it lists TIED to the program's text (the seventh form; the later family's looks); each row that meets fmt, with fmt's text TOLD by the authors' own Lean function (tested against real Go, not proved from fmt's source: count such statements apart). THE CARD IS WHAT COUNTS. Prove the row's statement (the work); the ties are given (YtfjjodkapofgjaaDoorTie.lean); close each card by the builder's one call (the guide's Derived/Test/ToyasCard.lean, 'card_holds'). Laid BY PROGRAM, IN A SANDBOX (cutbox-door.mjs). By AI agents, Wed Nov 11 2026. No macro, syntax, notation, axiom, sorry.
-/
import Derived.Test.YtfjjodkapofgjaaDoorRows
import GoSem.ClaimSeven
namespace Go.Proofs.YtfjjodkapofgjaaDoor
namespace Rows

/-- THE TIED CARD OF 'bazaarlaw14.MailBytes'. -/
def mailBytesCard : Claim7 := { stood := { row := mailBytesRow, standIns := [], harness := (true, "bb6e9f8775caa48c3fb433d5c307e0db08c62466c5e5a45f77c44ccd5e7cbeac"), looks := true }, kinds := [], alts := [], laidByText := true, laidKinds := [.sentinel, .sentinel, .sentinel], laidTests := true, laidLooks := .later }
def MailBytesCardSaid : Prop := Claim7.holds Tryd.pinned (.plain (OpenSpec.ofChange mailBytesSpec)) mailBytesCard

/-- THE TIED CARD OF 'bazaarlaw14.MailBack'. -/
def mailBackCard : Claim7 := { stood := { row := mailBackRow, standIns := [], harness := (true, "bb6e9f8775caa48c3fb433d5c307e0db08c62466c5e5a45f77c44ccd5e7cbeac"), looks := true }, kinds := [], alts := [], laidByText := true, laidKinds := [.sentinel, .sentinel, .sentinel], laidTests := true, laidLooks := .later }
def MailBackCardSaid : Prop := Claim7.holds Tryd.pinned (.plain (OpenSpec.ofChange mailBackSpec)) mailBackCard

/-- THE TIED CARD OF 'bazaarlaw14.MailOwn'. -/
def mailOwnCard : Claim7 := { stood := { row := mailOwnRow, standIns := [], harness := (true, "bb6e9f8775caa48c3fb433d5c307e0db08c62466c5e5a45f77c44ccd5e7cbeac"), looks := true }, kinds := [], alts := [], laidByText := true, laidKinds := [.sentinel, .sentinel, .sentinel], laidTests := true, laidLooks := .later }
def MailOwnCardSaid : Prop := Claim7.holds Tryd.pinned (.plain (OpenSpec.ofChange mailOwnSpec)) mailOwnCard

/-- THE TIED CARD OF 'bazaarlaw14.MailMoves'. -/
def mailMovesCard : Claim7 := { stood := { row := mailMovesRow, standIns := [], harness := (true, "bb6e9f8775caa48c3fb433d5c307e0db08c62466c5e5a45f77c44ccd5e7cbeac"), looks := true }, kinds := [], alts := [], laidByText := true, laidKinds := [.sentinel, .sentinel, .sentinel], laidTests := true, laidLooks := .later }
def MailMovesCardSaid : Prop := Claim7.holds Tryd.pinned (.plain (OpenSpec.ofChange mailMovesSpec)) mailMovesCard

/-- THE TIED CARD OF 'bazaarlaw14.MailSizes'. -/
def mailSizesCard : Claim7 := { stood := { row := mailSizesRow, standIns := [], harness := (true, "bb6e9f8775caa48c3fb433d5c307e0db08c62466c5e5a45f77c44ccd5e7cbeac"), looks := true }, kinds := [], alts := [], laidByText := true, laidKinds := [.sentinel, .sentinel, .sentinel], laidTests := true, laidLooks := .later }
def MailSizesCardSaid : Prop := Claim7.holds Tryd.pinned (.plain (OpenSpec.ofChange mailSizesSpec)) mailSizesCard

/-- THE SECOND FORM's CARD OF 'bazaarlaw14.MailBytes'. -/
def mailBytesUptoCard : Claim7 := { stood := { row := mailBytesUptoRow, standIns := [], harness := (true, "bb6e9f8775caa48c3fb433d5c307e0db08c62466c5e5a45f77c44ccd5e7cbeac"), looks := true }, kinds := [], alts := [], laidByText := true, laidKinds := [.sentinel, .sentinel, .sentinel], laidTests := true, laidLooks := .later }
def MailBytesUptoCardSaid : Prop := Claim7.holds Tryd.pinned (.plain (OpenSpec.upto mailBytesSpec)) mailBytesUptoCard

/-- THE SECOND FORM's CARD OF 'bazaarlaw14.MailBack'. -/
def mailBackUptoCard : Claim7 := { stood := { row := mailBackUptoRow, standIns := [], harness := (true, "bb6e9f8775caa48c3fb433d5c307e0db08c62466c5e5a45f77c44ccd5e7cbeac"), looks := true }, kinds := [], alts := [], laidByText := true, laidKinds := [.sentinel, .sentinel, .sentinel], laidTests := true, laidLooks := .later }
def MailBackUptoCardSaid : Prop := Claim7.holds Tryd.pinned (.plain (OpenSpec.upto mailBackSpec)) mailBackUptoCard

/-- THE SECOND FORM's CARD OF 'bazaarlaw14.MailOwn'. -/
def mailOwnUptoCard : Claim7 := { stood := { row := mailOwnUptoRow, standIns := [], harness := (true, "bb6e9f8775caa48c3fb433d5c307e0db08c62466c5e5a45f77c44ccd5e7cbeac"), looks := true }, kinds := [], alts := [], laidByText := true, laidKinds := [.sentinel, .sentinel, .sentinel], laidTests := true, laidLooks := .later }
def MailOwnUptoCardSaid : Prop := Claim7.holds Tryd.pinned (.plain (OpenSpec.upto mailOwnSpec)) mailOwnUptoCard

/-- THE SECOND FORM's CARD OF 'bazaarlaw14.MailMoves'. -/
def mailMovesUptoCard : Claim7 := { stood := { row := mailMovesUptoRow, standIns := [], harness := (true, "bb6e9f8775caa48c3fb433d5c307e0db08c62466c5e5a45f77c44ccd5e7cbeac"), looks := true }, kinds := [], alts := [], laidByText := true, laidKinds := [.sentinel, .sentinel, .sentinel], laidTests := true, laidLooks := .later }
def MailMovesUptoCardSaid : Prop := Claim7.holds Tryd.pinned (.plain (OpenSpec.upto mailMovesSpec)) mailMovesUptoCard

/-- THE SECOND FORM's CARD OF 'bazaarlaw14.MailSizes'. -/
def mailSizesUptoCard : Claim7 := { stood := { row := mailSizesUptoRow, standIns := [], harness := (true, "bb6e9f8775caa48c3fb433d5c307e0db08c62466c5e5a45f77c44ccd5e7cbeac"), looks := true }, kinds := [], alts := [], laidByText := true, laidKinds := [.sentinel, .sentinel, .sentinel], laidTests := true, laidLooks := .later }
def MailSizesUptoCardSaid : Prop := Claim7.holds Tryd.pinned (.plain (OpenSpec.upto mailSizesSpec)) mailSizesUptoCard
end Rows
end Go.Proofs.YtfjjodkapofgjaaDoor

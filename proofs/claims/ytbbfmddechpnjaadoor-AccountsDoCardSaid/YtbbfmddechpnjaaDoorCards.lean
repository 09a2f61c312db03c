/-
  DERIVED. GIVEN WITH THE SEED: THE CARDS: each row of YtbbfmddechpnjaaDoorRows.lean that lists a variable, with what it lists TIED to the program's text (the seventh form; the later family's looks); each row that meets fmt, with fmt's text TOLD by the authors' own Lean function (tested against real Go, not proved from fmt's source: count such statements apart). THE CARD IS WHAT COUNTS. Prove the row's statement (the work); the ties are given (YtbbfmddechpnjaaDoorTie.lean); close each card by the builder's one call (the guide's Derived/Test/ToyasCard.lean, 'card_holds'). Laid BY PROGRAM, IN A SANDBOX (cutbox-door.mjs). By AI agents, Wed Nov 11 2026. No macro, syntax, notation, axiom, sorry.
-/
import Derived.Test.YtbbfmddechpnjaaDoorRows
import GoSem.ClaimSeven
namespace Go.Proofs.YtbbfmddechpnjaaDoor
namespace Rows

/-- THE TIED CARD OF 'bazaarlaw13.AccountsDo'. -/
def accountsDoCard : Claim7 := { stood := { row := accountsDoRow, standIns := [], harness := (true, "19dec303481b24b8e10b37d727358e1870c29306dc24bb8c87885564b1ab8b23"), looks := true }, kinds := [], alts := [], laidByText := true, laidKinds := [.sentinel, .sentinel, .sentinel], laidTests := true, laidLooks := .later }
def AccountsDoCardSaid : Prop := Claim7.holds Tryd.pinned (.plain (OpenSpec.ofChange accountsDoSpec)) accountsDoCard

/-- THE TIED CARD OF 'bazaarlaw13.AccountsBytes'. -/
def accountsBytesCard : Claim7 := { stood := { row := accountsBytesRow, standIns := [], harness := (true, "19dec303481b24b8e10b37d727358e1870c29306dc24bb8c87885564b1ab8b23"), looks := true }, kinds := [], alts := [], laidByText := true, laidKinds := [.sentinel, .sentinel, .sentinel], laidTests := true, laidLooks := .later }
def AccountsBytesCardSaid : Prop := Claim7.holds Tryd.pinned (.plain (OpenSpec.ofChange accountsBytesSpec)) accountsBytesCard

/-- THE TIED CARD OF 'bazaarlaw13.AccountsBack'. -/
def accountsBackCard : Claim7 := { stood := { row := accountsBackRow, standIns := [], harness := (true, "19dec303481b24b8e10b37d727358e1870c29306dc24bb8c87885564b1ab8b23"), looks := true }, kinds := [], alts := [], laidByText := true, laidKinds := [.sentinel, .sentinel, .sentinel], laidTests := true, laidLooks := .later }
def AccountsBackCardSaid : Prop := Claim7.holds Tryd.pinned (.plain (OpenSpec.ofChange accountsBackSpec)) accountsBackCard

/-- THE TIED CARD OF 'bazaarlaw13.AccountsKeep'. -/
def accountsKeepCard : Claim7 := { stood := { row := accountsKeepRow, standIns := [], harness := (true, "19dec303481b24b8e10b37d727358e1870c29306dc24bb8c87885564b1ab8b23"), looks := true }, kinds := [], alts := [], laidByText := true, laidKinds := [.sentinel, .sentinel, .sentinel], laidTests := true, laidLooks := .later }
def AccountsKeepCardSaid : Prop := Claim7.holds Tryd.pinned (.plain (OpenSpec.ofChange accountsKeepSpec)) accountsKeepCard

/-- THE TIED CARD OF 'bazaarlaw13.AccountsTurn'. -/
def accountsTurnCard : Claim7 := { stood := { row := accountsTurnRow, standIns := [], harness := (true, "19dec303481b24b8e10b37d727358e1870c29306dc24bb8c87885564b1ab8b23"), looks := true }, kinds := [], alts := [], laidByText := true, laidKinds := [.sentinel, .sentinel, .sentinel], laidTests := true, laidLooks := .later }
def AccountsTurnCardSaid : Prop := Claim7.holds Tryd.pinned (.plain (OpenSpec.ofChange accountsTurnSpec)) accountsTurnCard

/-- THE TIED CARD OF 'bazaarlaw13.AccountsTwice'. -/
def accountsTwiceCard : Claim7 := { stood := { row := accountsTwiceRow, standIns := [], harness := (true, "19dec303481b24b8e10b37d727358e1870c29306dc24bb8c87885564b1ab8b23"), looks := true }, kinds := [], alts := [], laidByText := true, laidKinds := [.sentinel, .sentinel, .sentinel], laidTests := true, laidLooks := .later }
def AccountsTwiceCardSaid : Prop := Claim7.holds Tryd.pinned (.plain (OpenSpec.ofChange accountsTwiceSpec)) accountsTwiceCard

/-- THE SECOND FORM's CARD OF 'bazaarlaw13.AccountsDo'. -/
def accountsDoUptoCard : Claim7 := { stood := { row := accountsDoUptoRow, standIns := [], harness := (true, "19dec303481b24b8e10b37d727358e1870c29306dc24bb8c87885564b1ab8b23"), looks := true }, kinds := [], alts := [], laidByText := true, laidKinds := [.sentinel, .sentinel, .sentinel], laidTests := true, laidLooks := .later }
def AccountsDoUptoCardSaid : Prop := Claim7.holds Tryd.pinned (.plain (OpenSpec.upto accountsDoSpec)) accountsDoUptoCard

/-- THE SECOND FORM's CARD OF 'bazaarlaw13.AccountsBytes'. -/
def accountsBytesUptoCard : Claim7 := { stood := { row := accountsBytesUptoRow, standIns := [], harness := (true, "19dec303481b24b8e10b37d727358e1870c29306dc24bb8c87885564b1ab8b23"), looks := true }, kinds := [], alts := [], laidByText := true, laidKinds := [.sentinel, .sentinel, .sentinel], laidTests := true, laidLooks := .later }
def AccountsBytesUptoCardSaid : Prop := Claim7.holds Tryd.pinned (.plain (OpenSpec.upto accountsBytesSpec)) accountsBytesUptoCard

/-- THE SECOND FORM's CARD OF 'bazaarlaw13.AccountsBack'. -/
def accountsBackUptoCard : Claim7 := { stood := { row := accountsBackUptoRow, standIns := [], harness := (true, "19dec303481b24b8e10b37d727358e1870c29306dc24bb8c87885564b1ab8b23"), looks := true }, kinds := [], alts := [], laidByText := true, laidKinds := [.sentinel, .sentinel, .sentinel], laidTests := true, laidLooks := .later }
def AccountsBackUptoCardSaid : Prop := Claim7.holds Tryd.pinned (.plain (OpenSpec.upto accountsBackSpec)) accountsBackUptoCard

/-- THE SECOND FORM's CARD OF 'bazaarlaw13.AccountsKeep'. -/
def accountsKeepUptoCard : Claim7 := { stood := { row := accountsKeepUptoRow, standIns := [], harness := (true, "19dec303481b24b8e10b37d727358e1870c29306dc24bb8c87885564b1ab8b23"), looks := true }, kinds := [], alts := [], laidByText := true, laidKinds := [.sentinel, .sentinel, .sentinel], laidTests := true, laidLooks := .later }
def AccountsKeepUptoCardSaid : Prop := Claim7.holds Tryd.pinned (.plain (OpenSpec.upto accountsKeepSpec)) accountsKeepUptoCard

/-- THE SECOND FORM's CARD OF 'bazaarlaw13.AccountsTurn'. -/
def accountsTurnUptoCard : Claim7 := { stood := { row := accountsTurnUptoRow, standIns := [], harness := (true, "19dec303481b24b8e10b37d727358e1870c29306dc24bb8c87885564b1ab8b23"), looks := true }, kinds := [], alts := [], laidByText := true, laidKinds := [.sentinel, .sentinel, .sentinel], laidTests := true, laidLooks := .later }
def AccountsTurnUptoCardSaid : Prop := Claim7.holds Tryd.pinned (.plain (OpenSpec.upto accountsTurnSpec)) accountsTurnUptoCard

/-- THE SECOND FORM's CARD OF 'bazaarlaw13.AccountsTwice'. -/
def accountsTwiceUptoCard : Claim7 := { stood := { row := accountsTwiceUptoRow, standIns := [], harness := (true, "19dec303481b24b8e10b37d727358e1870c29306dc24bb8c87885564b1ab8b23"), looks := true }, kinds := [], alts := [], laidByText := true, laidKinds := [.sentinel, .sentinel, .sentinel], laidTests := true, laidLooks := .later }
def AccountsTwiceUptoCardSaid : Prop := Claim7.holds Tryd.pinned (.plain (OpenSpec.upto accountsTwiceSpec)) accountsTwiceUptoCard
end Rows
end Go.Proofs.YtbbfmddechpnjaaDoor

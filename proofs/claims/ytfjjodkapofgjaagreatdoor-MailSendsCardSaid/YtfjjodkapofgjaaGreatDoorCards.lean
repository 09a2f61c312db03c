/-
  DERIVED. GIVEN WITH THE SEED: THE CARDS: each row of YtfjjodkapofgjaaGreatDoorRows.lean that lists a variable, with what it lists TIED to the program's text (the seventh form; the later family's looks); each row that meets fmt, with fmt's text TOLD by the authors' own Lean function (tested against real Go, not proved from fmt's source: count such statements apart). THE CARD IS WHAT COUNTS. Prove the row's statement (the work); the ties are given (YtfjjodkapofgjaaGreatDoorTie.lean); close each card by the builder's one call (the guide's Derived/Test/ToyasCard.lean, 'card_holds'). Laid BY PROGRAM, IN A SANDBOX (cutbox-door.mjs). By AI agents, Wed Nov 11 2026. No macro, syntax, notation, axiom, sorry.
-/
import Derived.Test.YtfjjodkapofgjaaGreatDoorRows
import GoSem.ClaimSeven
namespace Go.Proofs.YtfjjodkapofgjaaGreatDoor
namespace Rows

/-- THE TIED CARD OF 'bazaarlaw14.MailSends'. -/
def mailSendsCard : Claim7 := { stood := { row := mailSendsRow, standIns := [], harness := (true, "5b7861ba1c797ebdd663e6b23bcf5612a2ce3408131257354eb36f8c050cbd09"), looks := true }, kinds := [], alts := [], laidByText := true, laidKinds := [.sentinel, .sentinel, .sentinel], laidTests := true, laidLooks := .later }
def MailSendsCardSaid : Prop := Claim7.holds Tryz.pinned (.plain (OpenSpec.ofChange mailSendsSpec)) mailSendsCard

/-- THE SECOND FORM's CARD OF 'bazaarlaw14.MailSends'. -/
def mailSendsUptoCard : Claim7 := { stood := { row := mailSendsUptoRow, standIns := [], harness := (true, "5b7861ba1c797ebdd663e6b23bcf5612a2ce3408131257354eb36f8c050cbd09"), looks := true }, kinds := [], alts := [], laidByText := true, laidKinds := [.sentinel, .sentinel, .sentinel], laidTests := true, laidLooks := .later }
def MailSendsUptoCardSaid : Prop := Claim7.holds Tryz.pinned (.plain (OpenSpec.upto mailSendsSpec)) mailSendsUptoCard
end Rows
end Go.Proofs.YtfjjodkapofgjaaGreatDoor

/-
  NARROWER THAN 'FOR EVERY INPUT', by the rows' own cells (each row's printed sentence says how): MailBytes: laid · MailBack: laid · MailOwn: laid · MailMoves: laid · MailSizes: laid.
  DERIVED. THE GIVEN ROWS OF THIS SEAT. 5 by the template 'for every input the law returns true; each argument reads behind the call as it read before'; 0 by the template 'total and deterministic' (their statements: YtfjjodkapofgjaaDoorTotals.lean).
  GIVEN WITH THE SEED: the statements are not yours to turn. If you find one false, say at which input.
  Laid BY PROGRAM, IN A SANDBOX (cutbox-rows.mjs): the forced cells as the released guide's own fill.sh prints them over the translation e7a7f0f67624ad32… (all of the seat's roots in one cut). By AI agents, Wed Nov 11 2026. No macro, syntax, notation, axiom, sorry.
-/
import Derived.Test.YtfjjodkapofgjaaDoorChecked
import GoSem.Claim
import GoSem.ClaimJoined
import GoSem.ClaimMapViews
import Derived.JoinedTies
import Derived.KernelRfl
namespace Go.Proofs.YtfjjodkapofgjaaDoor
/- THE CELL 'sum', in the pinned program and in every row, IS THE sha256 OF THE DUMP (.gsa) THAT YtfjjodkapofgjaaDoorProg.lean LOADS. Nothing in Lean hashes anything: it is a label: what it is worth is what the hold of that sum in a sandbox is worth. -/
noncomputable def Tryd.pinned : Pinned := { name := "ytfjjodkapofgjaadoor", sum := "e7a7f0f67624ad325cff7c6406db52556cb63bd49763cbe12d5133117faeaeef", checked := Tryd.checked }
namespace Rows
def none {H : Type} : Left H := { results := [], args := [] }

/- WHAT THE LISTED PACKAGE-LEVEL VARIABLES READ AS WHEN THE CALL BEGINS. Each datum BY PROGRAM (the guide's laid-datum.mjs) off the statement by which the dump's own 'gosem.cut.vars' lays the variable. In a bare row this is a premise. The card (YtfjjodkapofgjaaDoorCards.lean) ties it to the program's text. -/
def laid_bazaar_money_errAmount {H : Type} : DataW H := .iface "*errors.errorString" (.ptr (.agg [.lit (.string [97, 32, 110, 117, 109, 98, 101, 114, 32, 105, 115, 32, 110, 111, 32, 97, 109, 111, 117, 110, 116])]))
def laid_bazaar_money_errMore {H : Type} : DataW H := .iface "*errors.errorString" (.ptr (.agg [.lit (.string [119, 104, 97, 116, 32, 99, 111, 109, 101, 115, 32, 111, 102, 32, 97, 109, 111, 117, 110, 116, 115, 32, 105, 115, 32, 109, 111, 114, 101, 32, 116, 104, 97, 110, 32, 111, 110, 101])]))
def laid_bazaar_money_errLess {H : Type} : DataW H := .iface "*errors.errorString" (.ptr (.agg [.lit (.string [116, 104, 101, 114, 101, 32, 105, 115, 32, 108, 101, 115, 115, 32, 116, 104, 97, 110, 32, 119, 104, 97, 116, 32, 105, 115, 32, 116, 97, 107, 101, 110, 32, 97, 119, 97, 121])]))

/-- 'bazaarlaw14.MailBytes': WHATEVER THE INPUT: true; the input reads as it did. -/
def mailBytesSpec : ChangeSpec := { name := "mailBytes", fn := fun _ => fun
  | [d1, d2] => { results := [.lit (.bool true)], args := [d1, d2] }
  | _ => none }
def mailBytesRow : OpenClaim := { program := "ytfjjodkapofgjaadoor", sum := "e7a7f0f67624ad325cff7c6406db52556cb63bd49763cbe12d5133117faeaeef", func := "bazaar/bazaarlaw14.MailBytes", spec := "mailBytes", inPlace := ["internal/reflectlite.TypeOf", "internal/abi.NoEscape", "internal/bytealg.MakeNoZero"], unfollowed := true, recurses := true, named := ["bazaar/money.errLess", "bazaar/money.errAmount", "bazaar/money.errMore"], apart := false, laid := [("bazaar/money.errAmount", laid_bazaar_money_errAmount), ("bazaar/money.errMore", laid_bazaar_money_errMore), ("bazaar/money.errLess", laid_bazaar_money_errLess)] }
def MailBytesSaid : Prop := mailBytesRow.holds Tryd.pinned (OpenSpec.ofChange mailBytesSpec)

/-- ITS FALSE NEIGHBOUR: 'it returns false'. Refute it at one input. -/
def mailBytesWrong : ChangeSpec := { name := "mailBytes", fn := fun _ => fun
  | [d1, d2] => { results := [.lit (.bool false)], args := [d1, d2] }
  | _ => none }
def MailBytesWrongFalsely : Prop := mailBytesRow.holds Tryd.pinned (OpenSpec.ofChange mailBytesWrong)

/-- 'bazaarlaw14.MailBack': WHATEVER THE INPUT: true; the input reads as it did. -/
def mailBackSpec : ChangeSpec := { name := "mailBack", fn := fun _ => fun
  | [d1, d2, d3, d4] => { results := [.lit (.bool true)], args := [d1, d2, d3, d4] }
  | _ => none }
def mailBackRow : OpenClaim := { program := "ytfjjodkapofgjaadoor", sum := "e7a7f0f67624ad325cff7c6406db52556cb63bd49763cbe12d5133117faeaeef", func := "bazaar/bazaarlaw14.MailBack", spec := "mailBack", inPlace := ["internal/reflectlite.TypeOf", "internal/abi.NoEscape", "internal/bytealg.MakeNoZero"], unfollowed := true, recurses := true, named := ["bazaar/money.errLess", "bazaar/money.errAmount", "bazaar/money.errMore"], apart := false, laid := [("bazaar/money.errAmount", laid_bazaar_money_errAmount), ("bazaar/money.errMore", laid_bazaar_money_errMore), ("bazaar/money.errLess", laid_bazaar_money_errLess)] }
def MailBackSaid : Prop := mailBackRow.holds Tryd.pinned (OpenSpec.ofChange mailBackSpec)

/-- ITS FALSE NEIGHBOUR: 'it returns false'. Refute it at one input. -/
def mailBackWrong : ChangeSpec := { name := "mailBack", fn := fun _ => fun
  | [d1, d2, d3, d4] => { results := [.lit (.bool false)], args := [d1, d2, d3, d4] }
  | _ => none }
def MailBackWrongFalsely : Prop := mailBackRow.holds Tryd.pinned (OpenSpec.ofChange mailBackWrong)

/-- 'bazaarlaw14.MailOwn': WHATEVER THE INPUT: true; the input reads as it did. -/
def mailOwnSpec : ChangeSpec := { name := "mailOwn", fn := fun _ => fun
  | [d1, d2, d3] => { results := [.lit (.bool true)], args := [d1, d2, d3] }
  | _ => none }
def mailOwnRow : OpenClaim := { program := "ytfjjodkapofgjaadoor", sum := "e7a7f0f67624ad325cff7c6406db52556cb63bd49763cbe12d5133117faeaeef", func := "bazaar/bazaarlaw14.MailOwn", spec := "mailOwn", inPlace := ["internal/reflectlite.TypeOf", "internal/abi.NoEscape", "internal/bytealg.MakeNoZero"], unfollowed := true, recurses := true, named := ["bazaar/money.errLess", "bazaar/money.errAmount", "bazaar/money.errMore"], apart := false, laid := [("bazaar/money.errAmount", laid_bazaar_money_errAmount), ("bazaar/money.errMore", laid_bazaar_money_errMore), ("bazaar/money.errLess", laid_bazaar_money_errLess)] }
def MailOwnSaid : Prop := mailOwnRow.holds Tryd.pinned (OpenSpec.ofChange mailOwnSpec)

/-- ITS FALSE NEIGHBOUR: 'it returns false'. Refute it at one input. -/
def mailOwnWrong : ChangeSpec := { name := "mailOwn", fn := fun _ => fun
  | [d1, d2, d3] => { results := [.lit (.bool false)], args := [d1, d2, d3] }
  | _ => none }
def MailOwnWrongFalsely : Prop := mailOwnRow.holds Tryd.pinned (OpenSpec.ofChange mailOwnWrong)

/-- 'bazaarlaw14.MailMoves': WHATEVER THE INPUT: true; the input reads as it did. -/
def mailMovesSpec : ChangeSpec := { name := "mailMoves", fn := fun _ => fun
  | [d1, d2, d3, d4] => { results := [.lit (.bool true)], args := [d1, d2, d3, d4] }
  | _ => none }
def mailMovesRow : OpenClaim := { program := "ytfjjodkapofgjaadoor", sum := "e7a7f0f67624ad325cff7c6406db52556cb63bd49763cbe12d5133117faeaeef", func := "bazaar/bazaarlaw14.MailMoves", spec := "mailMoves", inPlace := ["internal/reflectlite.TypeOf", "internal/abi.NoEscape", "internal/bytealg.MakeNoZero"], unfollowed := true, recurses := true, named := ["bazaar/money.errLess", "bazaar/money.errAmount", "bazaar/money.errMore"], apart := false, laid := [("bazaar/money.errAmount", laid_bazaar_money_errAmount), ("bazaar/money.errMore", laid_bazaar_money_errMore), ("bazaar/money.errLess", laid_bazaar_money_errLess)] }
def MailMovesSaid : Prop := mailMovesRow.holds Tryd.pinned (OpenSpec.ofChange mailMovesSpec)

/-- ITS FALSE NEIGHBOUR: 'it returns false'. Refute it at one input. -/
def mailMovesWrong : ChangeSpec := { name := "mailMoves", fn := fun _ => fun
  | [d1, d2, d3, d4] => { results := [.lit (.bool false)], args := [d1, d2, d3, d4] }
  | _ => none }
def MailMovesWrongFalsely : Prop := mailMovesRow.holds Tryd.pinned (OpenSpec.ofChange mailMovesWrong)

/-- 'bazaarlaw14.MailSizes': WHATEVER THE INPUT: true; the input reads as it did. -/
def mailSizesSpec : ChangeSpec := { name := "mailSizes", fn := fun _ => fun
  | [d] => { results := [.lit (.bool true)], args := [d] }
  | _ => none }
def mailSizesRow : OpenClaim := { program := "ytfjjodkapofgjaadoor", sum := "e7a7f0f67624ad325cff7c6406db52556cb63bd49763cbe12d5133117faeaeef", func := "bazaar/bazaarlaw14.MailSizes", spec := "mailSizes", inPlace := ["internal/reflectlite.TypeOf", "internal/abi.NoEscape", "internal/bytealg.MakeNoZero"], unfollowed := true, recurses := true, named := ["bazaar/money.errLess", "bazaar/money.errAmount", "bazaar/money.errMore"], apart := false, laid := [("bazaar/money.errAmount", laid_bazaar_money_errAmount), ("bazaar/money.errMore", laid_bazaar_money_errMore), ("bazaar/money.errLess", laid_bazaar_money_errLess)] }
def MailSizesSaid : Prop := mailSizesRow.holds Tryd.pinned (OpenSpec.ofChange mailSizesSpec)

/-- ITS FALSE NEIGHBOUR: 'it returns false'. Refute it at one input. -/
def mailSizesWrong : ChangeSpec := { name := "mailSizes", fn := fun _ => fun
  | [d] => { results := [.lit (.bool false)], args := [d] }
  | _ => none }
def MailSizesWrongFalsely : Prop := mailSizesRow.holds Tryd.pinned (OpenSpec.ofChange mailSizesWrong)

/- THE SECOND FORM. 'bulk': how many values and letters a reading holds, each counted each time it is reached (what is shared counts as often as it is met; a slice's spare places count too). A statement '..UptoSaid' is the law's where the arguments, and the package variables that the reading takes, are together of bulk at most 1048576: NARROWER than '..Said'. Prove '..Said' where nothing that the law and all that it calls make is longer than what came in: it says more and counts as full. Else prove '..UptoSaid'. A law counts once. -/
mutual
def uptoBulk {H : Type} : DataW H → Nat
  | .lit (.string bytes) => bytes.length + 1
  | .lit _ => 1
  | .nil => 1
  | .ptr d => uptoBulk d + 1
  | .slice elems spare => uptoBulkAll elems + uptoBulkAll spare + 1
  | .agg parts => uptoBulkAll parts + 1
  | .iface _ d => uptoBulk d + 1
  | .map entries => uptoBulkEntries entries + 1
  | .held _ => 1
def uptoBulkAll {H : Type} : List (DataW H) → Nat
  | [] => 0
  | d :: r => uptoBulk d + uptoBulkAll r
def uptoBulkEntries {H : Type} : List (Lit × DataW H) → Nat
  | [] => 0
  | x :: r => uptoBulkEntry x + uptoBulkEntries r
def uptoBulkEntry {H : Type} : Lit × DataW H → Nat
  | (.string bytes, d) => bytes.length + uptoBulk d + 1
  | (_, d) => uptoBulk d + 1
 end
def uptoSmall : (H : Type) → List (DataW H) → Bool := fun _ ds => decide (uptoBulkAll ds ≤ 1048576)
def OpenSpec.upto (s : _root_.Go.ChangeSpec) : _root_.Go.OpenSpec := { _root_.Go.OpenSpec.ofChange s with cond := some uptoSmall }

/-- 'bazaarlaw14.MailBytes', WHERE WHAT IT READS IS OF BULK AT MOST 1048576: true; the input reads as it did. -/
def mailBytesUptoRow : OpenClaim := { program := "ytfjjodkapofgjaadoor", sum := "e7a7f0f67624ad325cff7c6406db52556cb63bd49763cbe12d5133117faeaeef", func := "bazaar/bazaarlaw14.MailBytes", spec := "mailBytes", inPlace := ["internal/reflectlite.TypeOf", "internal/abi.NoEscape", "internal/bytealg.MakeNoZero"], unfollowed := true, recurses := true, named := ["bazaar/money.errLess", "bazaar/money.errAmount", "bazaar/money.errMore"], apart := false, laid := [("bazaar/money.errAmount", laid_bazaar_money_errAmount), ("bazaar/money.errMore", laid_bazaar_money_errMore), ("bazaar/money.errLess", laid_bazaar_money_errLess)], narrowed := true }
def MailBytesUptoSaid : Prop := mailBytesUptoRow.holds Tryd.pinned (OpenSpec.upto mailBytesSpec)

/-- 'bazaarlaw14.MailBack', WHERE WHAT IT READS IS OF BULK AT MOST 1048576: true; the input reads as it did. -/
def mailBackUptoRow : OpenClaim := { program := "ytfjjodkapofgjaadoor", sum := "e7a7f0f67624ad325cff7c6406db52556cb63bd49763cbe12d5133117faeaeef", func := "bazaar/bazaarlaw14.MailBack", spec := "mailBack", inPlace := ["internal/reflectlite.TypeOf", "internal/abi.NoEscape", "internal/bytealg.MakeNoZero"], unfollowed := true, recurses := true, named := ["bazaar/money.errLess", "bazaar/money.errAmount", "bazaar/money.errMore"], apart := false, laid := [("bazaar/money.errAmount", laid_bazaar_money_errAmount), ("bazaar/money.errMore", laid_bazaar_money_errMore), ("bazaar/money.errLess", laid_bazaar_money_errLess)], narrowed := true }
def MailBackUptoSaid : Prop := mailBackUptoRow.holds Tryd.pinned (OpenSpec.upto mailBackSpec)

/-- 'bazaarlaw14.MailOwn', WHERE WHAT IT READS IS OF BULK AT MOST 1048576: true; the input reads as it did. -/
def mailOwnUptoRow : OpenClaim := { program := "ytfjjodkapofgjaadoor", sum := "e7a7f0f67624ad325cff7c6406db52556cb63bd49763cbe12d5133117faeaeef", func := "bazaar/bazaarlaw14.MailOwn", spec := "mailOwn", inPlace := ["internal/reflectlite.TypeOf", "internal/abi.NoEscape", "internal/bytealg.MakeNoZero"], unfollowed := true, recurses := true, named := ["bazaar/money.errLess", "bazaar/money.errAmount", "bazaar/money.errMore"], apart := false, laid := [("bazaar/money.errAmount", laid_bazaar_money_errAmount), ("bazaar/money.errMore", laid_bazaar_money_errMore), ("bazaar/money.errLess", laid_bazaar_money_errLess)], narrowed := true }
def MailOwnUptoSaid : Prop := mailOwnUptoRow.holds Tryd.pinned (OpenSpec.upto mailOwnSpec)

/-- 'bazaarlaw14.MailMoves', WHERE WHAT IT READS IS OF BULK AT MOST 1048576: true; the input reads as it did. -/
def mailMovesUptoRow : OpenClaim := { program := "ytfjjodkapofgjaadoor", sum := "e7a7f0f67624ad325cff7c6406db52556cb63bd49763cbe12d5133117faeaeef", func := "bazaar/bazaarlaw14.MailMoves", spec := "mailMoves", inPlace := ["internal/reflectlite.TypeOf", "internal/abi.NoEscape", "internal/bytealg.MakeNoZero"], unfollowed := true, recurses := true, named := ["bazaar/money.errLess", "bazaar/money.errAmount", "bazaar/money.errMore"], apart := false, laid := [("bazaar/money.errAmount", laid_bazaar_money_errAmount), ("bazaar/money.errMore", laid_bazaar_money_errMore), ("bazaar/money.errLess", laid_bazaar_money_errLess)], narrowed := true }
def MailMovesUptoSaid : Prop := mailMovesUptoRow.holds Tryd.pinned (OpenSpec.upto mailMovesSpec)

/-- 'bazaarlaw14.MailSizes', WHERE WHAT IT READS IS OF BULK AT MOST 1048576: true; the input reads as it did. -/
def mailSizesUptoRow : OpenClaim := { program := "ytfjjodkapofgjaadoor", sum := "e7a7f0f67624ad325cff7c6406db52556cb63bd49763cbe12d5133117faeaeef", func := "bazaar/bazaarlaw14.MailSizes", spec := "mailSizes", inPlace := ["internal/reflectlite.TypeOf", "internal/abi.NoEscape", "internal/bytealg.MakeNoZero"], unfollowed := true, recurses := true, named := ["bazaar/money.errLess", "bazaar/money.errAmount", "bazaar/money.errMore"], apart := false, laid := [("bazaar/money.errAmount", laid_bazaar_money_errAmount), ("bazaar/money.errMore", laid_bazaar_money_errMore), ("bazaar/money.errLess", laid_bazaar_money_errLess)], narrowed := true }
def MailSizesUptoSaid : Prop := mailSizesUptoRow.holds Tryd.pinned (OpenSpec.upto mailSizesSpec)

end Rows
end Go.Proofs.YtfjjodkapofgjaaDoor

/-
  NARROWER THAN 'FOR EVERY INPUT', by the rows' own cells (each row's printed sentence says how): GoodsDo: laid · GoodsKeep: laid · GoodsBack: laid · GoodsOwn: laid · GoodsSlots: laid · GoodsTwice: laid.
  DERIVED. THE GIVEN ROWS OF THIS SEAT. 6 by the template 'for every input the law returns true; each argument reads behind the call as it read before'; 0 by the template 'total and deterministic' (their statements: YtecalafjfbgbcaaDoorTotals.lean).
  GIVEN WITH THE SEED: the statements are not yours to turn. If you find one false, say at which input.
  Laid BY PROGRAM, IN A SANDBOX (cutbox-rows.mjs): the forced cells as the released guide's own fill.sh prints them over the translation c1a5552fbca59d96… (all of the seat's roots in one cut). By AI agents, Wed Nov 11 2026. No macro, syntax, notation, axiom, sorry.
-/
import Derived.Test.YtecalafjfbgbcaaDoorChecked
import GoSem.Claim
import GoSem.ClaimJoined
import GoSem.ClaimMapViews
import Derived.JoinedTies
import Derived.KernelRfl
namespace Go.Proofs.YtecalafjfbgbcaaDoor
/- THE CELL 'sum', in the pinned program and in every row, IS THE sha256 OF THE DUMP (.gsa) THAT YtecalafjfbgbcaaDoorProg.lean LOADS. Nothing in Lean hashes anything: it is a label: what it is worth is what the hold of that sum in a sandbox is worth. -/
noncomputable def Tryd.pinned : Pinned := { name := "ytecalafjfbgbcaadoor", sum := "c1a5552fbca59d96cd64df98590cdbdd79b60e58ccf3726042ca34a32ea861ba", checked := Tryd.checked }
namespace Rows
def none {H : Type} : Left H := { results := [], args := [] }

/- WHAT THE LISTED PACKAGE-LEVEL VARIABLES READ AS WHEN THE CALL BEGINS. Each datum BY PROGRAM (the guide's laid-datum.mjs) off the statement by which the dump's own 'gosem.cut.vars' lays the variable. In a bare row this is a premise. The card (YtecalafjfbgbcaaDoorCards.lean) ties it to the program's text. -/
def laid_bazaar_money_errAmount {H : Type} : DataW H := .iface "*errors.errorString" (.ptr (.agg [.lit (.string [97, 32, 110, 117, 109, 98, 101, 114, 32, 105, 115, 32, 110, 111, 32, 97, 109, 111, 117, 110, 116])]))
def laid_bazaar_money_errMore {H : Type} : DataW H := .iface "*errors.errorString" (.ptr (.agg [.lit (.string [119, 104, 97, 116, 32, 99, 111, 109, 101, 115, 32, 111, 102, 32, 97, 109, 111, 117, 110, 116, 115, 32, 105, 115, 32, 109, 111, 114, 101, 32, 116, 104, 97, 110, 32, 111, 110, 101])]))
def laid_bazaar_money_errLess {H : Type} : DataW H := .iface "*errors.errorString" (.ptr (.agg [.lit (.string [116, 104, 101, 114, 101, 32, 105, 115, 32, 108, 101, 115, 115, 32, 116, 104, 97, 110, 32, 119, 104, 97, 116, 32, 105, 115, 32, 116, 97, 107, 101, 110, 32, 97, 119, 97, 121])]))

/-- 'bazaarlaw12.GoodsDo': WHATEVER THE INPUT: true; the input reads as it did. -/
def goodsDoSpec : ChangeSpec := { name := "goodsDo", fn := fun _ => fun
  | [d1, d2, d3] => { results := [.lit (.bool true)], args := [d1, d2, d3] }
  | _ => none }
def goodsDoRow : OpenClaim := { program := "ytecalafjfbgbcaadoor", sum := "c1a5552fbca59d96cd64df98590cdbdd79b60e58ccf3726042ca34a32ea861ba", func := "bazaar/bazaarlaw12.GoodsDo", spec := "goodsDo", inPlace := ["internal/reflectlite.TypeOf"], unfollowed := true, recurses := true, named := ["bazaar/money.errMore", "bazaar/money.errAmount", "bazaar/money.errLess"], apart := false, laid := [("bazaar/money.errAmount", laid_bazaar_money_errAmount), ("bazaar/money.errMore", laid_bazaar_money_errMore), ("bazaar/money.errLess", laid_bazaar_money_errLess)] }
def GoodsDoSaid : Prop := goodsDoRow.holds Tryd.pinned (OpenSpec.ofChange goodsDoSpec)

/-- ITS FALSE NEIGHBOUR: 'it returns false'. Refute it at one input. -/
def goodsDoWrong : ChangeSpec := { name := "goodsDo", fn := fun _ => fun
  | [d1, d2, d3] => { results := [.lit (.bool false)], args := [d1, d2, d3] }
  | _ => none }
def GoodsDoWrongFalsely : Prop := goodsDoRow.holds Tryd.pinned (OpenSpec.ofChange goodsDoWrong)

/-- 'bazaarlaw12.GoodsKeep': WHATEVER THE INPUT: true; the input reads as it did. -/
def goodsKeepSpec : ChangeSpec := { name := "goodsKeep", fn := fun _ => fun
  | [d1, d2, d3, d4] => { results := [.lit (.bool true)], args := [d1, d2, d3, d4] }
  | _ => none }
def goodsKeepRow : OpenClaim := { program := "ytecalafjfbgbcaadoor", sum := "c1a5552fbca59d96cd64df98590cdbdd79b60e58ccf3726042ca34a32ea861ba", func := "bazaar/bazaarlaw12.GoodsKeep", spec := "goodsKeep", inPlace := ["internal/reflectlite.TypeOf"], unfollowed := true, recurses := true, named := ["bazaar/money.errMore", "bazaar/money.errAmount", "bazaar/money.errLess"], apart := false, laid := [("bazaar/money.errAmount", laid_bazaar_money_errAmount), ("bazaar/money.errMore", laid_bazaar_money_errMore), ("bazaar/money.errLess", laid_bazaar_money_errLess)] }
def GoodsKeepSaid : Prop := goodsKeepRow.holds Tryd.pinned (OpenSpec.ofChange goodsKeepSpec)

/-- ITS FALSE NEIGHBOUR: 'it returns false'. Refute it at one input. -/
def goodsKeepWrong : ChangeSpec := { name := "goodsKeep", fn := fun _ => fun
  | [d1, d2, d3, d4] => { results := [.lit (.bool false)], args := [d1, d2, d3, d4] }
  | _ => none }
def GoodsKeepWrongFalsely : Prop := goodsKeepRow.holds Tryd.pinned (OpenSpec.ofChange goodsKeepWrong)

/-- 'bazaarlaw12.GoodsBack': WHATEVER THE INPUT: true; the input reads as it did. -/
def goodsBackSpec : ChangeSpec := { name := "goodsBack", fn := fun _ => fun
  | [d1, d2] => { results := [.lit (.bool true)], args := [d1, d2] }
  | _ => none }
def goodsBackRow : OpenClaim := { program := "ytecalafjfbgbcaadoor", sum := "c1a5552fbca59d96cd64df98590cdbdd79b60e58ccf3726042ca34a32ea861ba", func := "bazaar/bazaarlaw12.GoodsBack", spec := "goodsBack", inPlace := ["internal/reflectlite.TypeOf"], unfollowed := true, recurses := true, named := ["bazaar/money.errMore", "bazaar/money.errAmount", "bazaar/money.errLess"], apart := false, laid := [("bazaar/money.errAmount", laid_bazaar_money_errAmount), ("bazaar/money.errMore", laid_bazaar_money_errMore), ("bazaar/money.errLess", laid_bazaar_money_errLess)] }
def GoodsBackSaid : Prop := goodsBackRow.holds Tryd.pinned (OpenSpec.ofChange goodsBackSpec)

/-- ITS FALSE NEIGHBOUR: 'it returns false'. Refute it at one input. -/
def goodsBackWrong : ChangeSpec := { name := "goodsBack", fn := fun _ => fun
  | [d1, d2] => { results := [.lit (.bool false)], args := [d1, d2] }
  | _ => none }
def GoodsBackWrongFalsely : Prop := goodsBackRow.holds Tryd.pinned (OpenSpec.ofChange goodsBackWrong)

/-- 'bazaarlaw12.GoodsOwn': WHATEVER THE INPUT: true; the input reads as it did. -/
def goodsOwnSpec : ChangeSpec := { name := "goodsOwn", fn := fun _ => fun
  | [d1, d2] => { results := [.lit (.bool true)], args := [d1, d2] }
  | _ => none }
def goodsOwnRow : OpenClaim := { program := "ytecalafjfbgbcaadoor", sum := "c1a5552fbca59d96cd64df98590cdbdd79b60e58ccf3726042ca34a32ea861ba", func := "bazaar/bazaarlaw12.GoodsOwn", spec := "goodsOwn", inPlace := ["internal/reflectlite.TypeOf"], unfollowed := true, recurses := true, named := ["bazaar/money.errMore", "bazaar/money.errAmount", "bazaar/money.errLess"], apart := false, laid := [("bazaar/money.errAmount", laid_bazaar_money_errAmount), ("bazaar/money.errMore", laid_bazaar_money_errMore), ("bazaar/money.errLess", laid_bazaar_money_errLess)] }
def GoodsOwnSaid : Prop := goodsOwnRow.holds Tryd.pinned (OpenSpec.ofChange goodsOwnSpec)

/-- ITS FALSE NEIGHBOUR: 'it returns false'. Refute it at one input. -/
def goodsOwnWrong : ChangeSpec := { name := "goodsOwn", fn := fun _ => fun
  | [d1, d2] => { results := [.lit (.bool false)], args := [d1, d2] }
  | _ => none }
def GoodsOwnWrongFalsely : Prop := goodsOwnRow.holds Tryd.pinned (OpenSpec.ofChange goodsOwnWrong)

/-- 'bazaarlaw12.GoodsSlots': WHATEVER THE INPUT: true; the input reads as it did. -/
def goodsSlotsSpec : ChangeSpec := { name := "goodsSlots", fn := fun _ => fun
  | [d1, d2] => { results := [.lit (.bool true)], args := [d1, d2] }
  | _ => none }
def goodsSlotsRow : OpenClaim := { program := "ytecalafjfbgbcaadoor", sum := "c1a5552fbca59d96cd64df98590cdbdd79b60e58ccf3726042ca34a32ea861ba", func := "bazaar/bazaarlaw12.GoodsSlots", spec := "goodsSlots", inPlace := ["internal/reflectlite.TypeOf"], unfollowed := true, recurses := true, named := ["bazaar/money.errMore", "bazaar/money.errAmount", "bazaar/money.errLess"], apart := false, laid := [("bazaar/money.errAmount", laid_bazaar_money_errAmount), ("bazaar/money.errMore", laid_bazaar_money_errMore), ("bazaar/money.errLess", laid_bazaar_money_errLess)] }
def GoodsSlotsSaid : Prop := goodsSlotsRow.holds Tryd.pinned (OpenSpec.ofChange goodsSlotsSpec)

/-- ITS FALSE NEIGHBOUR: 'it returns false'. Refute it at one input. -/
def goodsSlotsWrong : ChangeSpec := { name := "goodsSlots", fn := fun _ => fun
  | [d1, d2] => { results := [.lit (.bool false)], args := [d1, d2] }
  | _ => none }
def GoodsSlotsWrongFalsely : Prop := goodsSlotsRow.holds Tryd.pinned (OpenSpec.ofChange goodsSlotsWrong)

/-- 'bazaarlaw12.GoodsTwice': WHATEVER THE INPUT: true; the input reads as it did. -/
def goodsTwiceSpec : ChangeSpec := { name := "goodsTwice", fn := fun _ => fun
  | [d1, d2, d3, d4] => { results := [.lit (.bool true)], args := [d1, d2, d3, d4] }
  | _ => none }
def goodsTwiceRow : OpenClaim := { program := "ytecalafjfbgbcaadoor", sum := "c1a5552fbca59d96cd64df98590cdbdd79b60e58ccf3726042ca34a32ea861ba", func := "bazaar/bazaarlaw12.GoodsTwice", spec := "goodsTwice", inPlace := ["internal/reflectlite.TypeOf"], unfollowed := true, recurses := true, named := ["bazaar/money.errMore", "bazaar/money.errAmount", "bazaar/money.errLess"], apart := false, laid := [("bazaar/money.errAmount", laid_bazaar_money_errAmount), ("bazaar/money.errMore", laid_bazaar_money_errMore), ("bazaar/money.errLess", laid_bazaar_money_errLess)] }
def GoodsTwiceSaid : Prop := goodsTwiceRow.holds Tryd.pinned (OpenSpec.ofChange goodsTwiceSpec)

/-- ITS FALSE NEIGHBOUR: 'it returns false'. Refute it at one input. -/
def goodsTwiceWrong : ChangeSpec := { name := "goodsTwice", fn := fun _ => fun
  | [d1, d2, d3, d4] => { results := [.lit (.bool false)], args := [d1, d2, d3, d4] }
  | _ => none }
def GoodsTwiceWrongFalsely : Prop := goodsTwiceRow.holds Tryd.pinned (OpenSpec.ofChange goodsTwiceWrong)

/- THE SECOND FORM. 'bulk': how many values and letters a reading holds, each counted each time it is reached (what is shared counts as often as it is met; a slice's spare places count too). A statement '..UptoSaid' is the law's where the arguments, and the package variables that the reading takes, are together of bulk at most 1048576: NARROWER than '..Said'. Prove '..Said' where nothing that the law and all that it calls make is longer than what came in: it says more and counts as full. Else prove '..UptoSaid'. A law counts once. -/
mutual
def uptoBulk {H : Type} : DataW H → Nat
  | .lit (.string bytes) => bytes.length + 1
  | .lit _ => 1
  | .nil => 1
  | .ptr d => uptoBulk d + 1
  | .slice elems spare => uptoBulkAll elems + uptoBulkAll spare + 1
  | .agg parts => uptoBulkAll parts + 1
  | .iface _ d => uptoBulk d + 1
  | .map entries => uptoBulkEntries entries + 1
  | .held _ => 1
def uptoBulkAll {H : Type} : List (DataW H) → Nat
  | [] => 0
  | d :: r => uptoBulk d + uptoBulkAll r
def uptoBulkEntries {H : Type} : List (Lit × DataW H) → Nat
  | [] => 0
  | x :: r => uptoBulkEntry x + uptoBulkEntries r
def uptoBulkEntry {H : Type} : Lit × DataW H → Nat
  | (.string bytes, d) => bytes.length + uptoBulk d + 1
  | (_, d) => uptoBulk d + 1
 end
def uptoSmall : (H : Type) → List (DataW H) → Bool := fun _ ds => decide (uptoBulkAll ds ≤ 1048576)
def OpenSpec.upto (s : _root_.Go.ChangeSpec) : _root_.Go.OpenSpec := { _root_.Go.OpenSpec.ofChange s with cond := some uptoSmall }

/-- 'bazaarlaw12.GoodsDo', WHERE WHAT IT READS IS OF BULK AT MOST 1048576: true; the input reads as it did. -/
def goodsDoUptoRow : OpenClaim := { program := "ytecalafjfbgbcaadoor", sum := "c1a5552fbca59d96cd64df98590cdbdd79b60e58ccf3726042ca34a32ea861ba", func := "bazaar/bazaarlaw12.GoodsDo", spec := "goodsDo", inPlace := ["internal/reflectlite.TypeOf"], unfollowed := true, recurses := true, named := ["bazaar/money.errMore", "bazaar/money.errAmount", "bazaar/money.errLess"], apart := false, laid := [("bazaar/money.errAmount", laid_bazaar_money_errAmount), ("bazaar/money.errMore", laid_bazaar_money_errMore), ("bazaar/money.errLess", laid_bazaar_money_errLess)], narrowed := true }
def GoodsDoUptoSaid : Prop := goodsDoUptoRow.holds Tryd.pinned (OpenSpec.upto goodsDoSpec)

/-- 'bazaarlaw12.GoodsKeep', WHERE WHAT IT READS IS OF BULK AT MOST 1048576: true; the input reads as it did. -/
def goodsKeepUptoRow : OpenClaim := { program := "ytecalafjfbgbcaadoor", sum := "c1a5552fbca59d96cd64df98590cdbdd79b60e58ccf3726042ca34a32ea861ba", func := "bazaar/bazaarlaw12.GoodsKeep", spec := "goodsKeep", inPlace := ["internal/reflectlite.TypeOf"], unfollowed := true, recurses := true, named := ["bazaar/money.errMore", "bazaar/money.errAmount", "bazaar/money.errLess"], apart := false, laid := [("bazaar/money.errAmount", laid_bazaar_money_errAmount), ("bazaar/money.errMore", laid_bazaar_money_errMore), ("bazaar/money.errLess", laid_bazaar_money_errLess)], narrowed := true }
def GoodsKeepUptoSaid : Prop := goodsKeepUptoRow.holds Tryd.pinned (OpenSpec.upto goodsKeepSpec)

/-- 'bazaarlaw12.GoodsBack', WHERE WHAT IT READS IS OF BULK AT MOST 1048576: true; the input reads as it did. -/
def goodsBackUptoRow : OpenClaim := { program := "ytecalafjfbgbcaadoor", sum := "c1a5552fbca59d96cd64df98590cdbdd79b60e58ccf3726042ca34a32ea861ba", func := "bazaar/bazaarlaw12.GoodsBack", spec := "goodsBack", inPlace := ["internal/reflectlite.TypeOf"], unfollowed := true, recurses := true, named := ["bazaar/money.errMore", "bazaar/money.errAmount", "bazaar/money.errLess"], apart := false, laid := [("bazaar/money.errAmount", laid_bazaar_money_errAmount), ("bazaar/money.errMore", laid_bazaar_money_errMore), ("bazaar/money.errLess", laid_bazaar_money_errLess)], narrowed := true }
def GoodsBackUptoSaid : Prop := goodsBackUptoRow.holds Tryd.pinned (OpenSpec.upto goodsBackSpec)

/-- 'bazaarlaw12.GoodsOwn', WHERE WHAT IT READS IS OF BULK AT MOST 1048576: true; the input reads as it did. -/
def goodsOwnUptoRow : OpenClaim := { program := "ytecalafjfbgbcaadoor", sum := "c1a5552fbca59d96cd64df98590cdbdd79b60e58ccf3726042ca34a32ea861ba", func := "bazaar/bazaarlaw12.GoodsOwn", spec := "goodsOwn", inPlace := ["internal/reflectlite.TypeOf"], unfollowed := true, recurses := true, named := ["bazaar/money.errMore", "bazaar/money.errAmount", "bazaar/money.errLess"], apart := false, laid := [("bazaar/money.errAmount", laid_bazaar_money_errAmount), ("bazaar/money.errMore", laid_bazaar_money_errMore), ("bazaar/money.errLess", laid_bazaar_money_errLess)], narrowed := true }
def GoodsOwnUptoSaid : Prop := goodsOwnUptoRow.holds Tryd.pinned (OpenSpec.upto goodsOwnSpec)

/-- 'bazaarlaw12.GoodsSlots', WHERE WHAT IT READS IS OF BULK AT MOST 1048576: true; the input reads as it did. -/
def goodsSlotsUptoRow : OpenClaim := { program := "ytecalafjfbgbcaadoor", sum := "c1a5552fbca59d96cd64df98590cdbdd79b60e58ccf3726042ca34a32ea861ba", func := "bazaar/bazaarlaw12.GoodsSlots", spec := "goodsSlots", inPlace := ["internal/reflectlite.TypeOf"], unfollowed := true, recurses := true, named := ["bazaar/money.errMore", "bazaar/money.errAmount", "bazaar/money.errLess"], apart := false, laid := [("bazaar/money.errAmount", laid_bazaar_money_errAmount), ("bazaar/money.errMore", laid_bazaar_money_errMore), ("bazaar/money.errLess", laid_bazaar_money_errLess)], narrowed := true }
def GoodsSlotsUptoSaid : Prop := goodsSlotsUptoRow.holds Tryd.pinned (OpenSpec.upto goodsSlotsSpec)

/-- 'bazaarlaw12.GoodsTwice', WHERE WHAT IT READS IS OF BULK AT MOST 1048576: true; the input reads as it did. -/
def goodsTwiceUptoRow : OpenClaim := { program := "ytecalafjfbgbcaadoor", sum := "c1a5552fbca59d96cd64df98590cdbdd79b60e58ccf3726042ca34a32ea861ba", func := "bazaar/bazaarlaw12.GoodsTwice", spec := "goodsTwice", inPlace := ["internal/reflectlite.TypeOf"], unfollowed := true, recurses := true, named := ["bazaar/money.errMore", "bazaar/money.errAmount", "bazaar/money.errLess"], apart := false, laid := [("bazaar/money.errAmount", laid_bazaar_money_errAmount), ("bazaar/money.errMore", laid_bazaar_money_errMore), ("bazaar/money.errLess", laid_bazaar_money_errLess)], narrowed := true }
def GoodsTwiceUptoSaid : Prop := goodsTwiceUptoRow.holds Tryd.pinned (OpenSpec.upto goodsTwiceSpec)

end Rows
end Go.Proofs.YtecalafjfbgbcaaDoor

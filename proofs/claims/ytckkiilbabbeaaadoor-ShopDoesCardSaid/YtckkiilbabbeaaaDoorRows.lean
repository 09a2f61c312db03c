/-
  NARROWER THAN 'FOR EVERY INPUT', by the rows' own cells (each row's printed sentence says how): ShopBytes: laid · ShopDoes: laid · ShopBack: laid · ShopKeeps: laid · ShopOwn: laid · ShopSizes: laid.
  DERIVED. THE GIVEN ROWS OF THIS SEAT. 6 by the template 'for every input the law returns true; each argument reads behind the call as it read before'; 0 by the template 'total and deterministic' (their statements: YtckkiilbabbeaaaDoorTotals.lean).
  GIVEN WITH THE SEED: the statements are not yours to turn. If you find one false, say at which input.
  Laid BY PROGRAM, IN A SANDBOX (cutbox-rows.mjs): the forced cells as the released guide's own fill.sh prints them over the translation 4890bae34d9304e6… (all of the seat's roots in one cut). By AI agents, Wed Nov 11 2026. No macro, syntax, notation, axiom, sorry.
-/
import Derived.Test.YtckkiilbabbeaaaDoorChecked
import GoSem.Claim
import GoSem.ClaimJoined
import GoSem.ClaimMapViews
import Derived.JoinedTies
import Derived.KernelRfl
namespace Go.Proofs.YtckkiilbabbeaaaDoor
/- THE CELL 'sum', in the pinned program and in every row, IS THE sha256 OF THE DUMP (.gsa) THAT YtckkiilbabbeaaaDoorProg.lean LOADS. Nothing in Lean hashes anything: it is a label: what it is worth is what the hold of that sum in a sandbox is worth. -/
noncomputable def Tryd.pinned : Pinned := { name := "ytckkiilbabbeaaadoor", sum := "4890bae34d9304e6e9220ccb9d004551e2069e5c273ff7f56faf60a09ab9086a", checked := Tryd.checked }
namespace Rows
def none {H : Type} : Left H := { results := [], args := [] }

/- WHAT THE LISTED PACKAGE-LEVEL VARIABLES READ AS WHEN THE CALL BEGINS. Each datum BY PROGRAM (the guide's laid-datum.mjs) off the statement by which the dump's own 'gosem.cut.vars' lays the variable. In a bare row this is a premise. The card (YtckkiilbabbeaaaDoorCards.lean) ties it to the program's text. -/
def laid_bazaar_money_errAmount {H : Type} : DataW H := .iface "*errors.errorString" (.ptr (.agg [.lit (.string [97, 32, 110, 117, 109, 98, 101, 114, 32, 105, 115, 32, 110, 111, 32, 97, 109, 111, 117, 110, 116])]))
def laid_bazaar_money_errMore {H : Type} : DataW H := .iface "*errors.errorString" (.ptr (.agg [.lit (.string [119, 104, 97, 116, 32, 99, 111, 109, 101, 115, 32, 111, 102, 32, 97, 109, 111, 117, 110, 116, 115, 32, 105, 115, 32, 109, 111, 114, 101, 32, 116, 104, 97, 110, 32, 111, 110, 101])]))
def laid_bazaar_money_errLess {H : Type} : DataW H := .iface "*errors.errorString" (.ptr (.agg [.lit (.string [116, 104, 101, 114, 101, 32, 105, 115, 32, 108, 101, 115, 115, 32, 116, 104, 97, 110, 32, 119, 104, 97, 116, 32, 105, 115, 32, 116, 97, 107, 101, 110, 32, 97, 119, 97, 121])]))

/-- 'bazaarlaw15.ShopBytes': WHATEVER THE INPUT: true; the input reads as it did. -/
def shopBytesSpec : ChangeSpec := { name := "shopBytes", fn := fun _ => fun
  | [d1, d2] => { results := [.lit (.bool true)], args := [d1, d2] }
  | _ => none }
def shopBytesRow : OpenClaim := { program := "ytckkiilbabbeaaadoor", sum := "4890bae34d9304e6e9220ccb9d004551e2069e5c273ff7f56faf60a09ab9086a", func := "bazaar/bazaarlaw15.ShopBytes", spec := "shopBytes", inPlace := ["internal/reflectlite.TypeOf"], unfollowed := true, recurses := true, named := ["bazaar/money.errMore", "bazaar/money.errAmount", "bazaar/money.errLess"], apart := false, laid := [("bazaar/money.errAmount", laid_bazaar_money_errAmount), ("bazaar/money.errMore", laid_bazaar_money_errMore), ("bazaar/money.errLess", laid_bazaar_money_errLess)] }
def ShopBytesSaid : Prop := shopBytesRow.holds Tryd.pinned (OpenSpec.ofChange shopBytesSpec)

/-- ITS FALSE NEIGHBOUR: 'it returns false'. Refute it at one input. -/
def shopBytesWrong : ChangeSpec := { name := "shopBytes", fn := fun _ => fun
  | [d1, d2] => { results := [.lit (.bool false)], args := [d1, d2] }
  | _ => none }
def ShopBytesWrongFalsely : Prop := shopBytesRow.holds Tryd.pinned (OpenSpec.ofChange shopBytesWrong)

/-- 'bazaarlaw15.ShopDoes': WHATEVER THE INPUT: true; the input reads as it did. -/
def shopDoesSpec : ChangeSpec := { name := "shopDoes", fn := fun _ => fun
  | [d1, d2, d3, d4] => { results := [.lit (.bool true)], args := [d1, d2, d3, d4] }
  | _ => none }
def shopDoesRow : OpenClaim := { program := "ytckkiilbabbeaaadoor", sum := "4890bae34d9304e6e9220ccb9d004551e2069e5c273ff7f56faf60a09ab9086a", func := "bazaar/bazaarlaw15.ShopDoes", spec := "shopDoes", inPlace := ["internal/reflectlite.TypeOf"], unfollowed := true, recurses := true, named := ["bazaar/money.errMore", "bazaar/money.errAmount", "bazaar/money.errLess"], apart := false, laid := [("bazaar/money.errAmount", laid_bazaar_money_errAmount), ("bazaar/money.errMore", laid_bazaar_money_errMore), ("bazaar/money.errLess", laid_bazaar_money_errLess)] }
def ShopDoesSaid : Prop := shopDoesRow.holds Tryd.pinned (OpenSpec.ofChange shopDoesSpec)

/-- ITS FALSE NEIGHBOUR: 'it returns false'. Refute it at one input. -/
def shopDoesWrong : ChangeSpec := { name := "shopDoes", fn := fun _ => fun
  | [d1, d2, d3, d4] => { results := [.lit (.bool false)], args := [d1, d2, d3, d4] }
  | _ => none }
def ShopDoesWrongFalsely : Prop := shopDoesRow.holds Tryd.pinned (OpenSpec.ofChange shopDoesWrong)

/-- 'bazaarlaw15.ShopBack': WHATEVER THE INPUT: true; the input reads as it did. -/
def shopBackSpec : ChangeSpec := { name := "shopBack", fn := fun _ => fun
  | [d1, d2, d3] => { results := [.lit (.bool true)], args := [d1, d2, d3] }
  | _ => none }
def shopBackRow : OpenClaim := { program := "ytckkiilbabbeaaadoor", sum := "4890bae34d9304e6e9220ccb9d004551e2069e5c273ff7f56faf60a09ab9086a", func := "bazaar/bazaarlaw15.ShopBack", spec := "shopBack", inPlace := ["internal/reflectlite.TypeOf"], unfollowed := true, recurses := true, named := ["bazaar/money.errMore", "bazaar/money.errAmount", "bazaar/money.errLess"], apart := false, laid := [("bazaar/money.errAmount", laid_bazaar_money_errAmount), ("bazaar/money.errMore", laid_bazaar_money_errMore), ("bazaar/money.errLess", laid_bazaar_money_errLess)] }
def ShopBackSaid : Prop := shopBackRow.holds Tryd.pinned (OpenSpec.ofChange shopBackSpec)

/-- ITS FALSE NEIGHBOUR: 'it returns false'. Refute it at one input. -/
def shopBackWrong : ChangeSpec := { name := "shopBack", fn := fun _ => fun
  | [d1, d2, d3] => { results := [.lit (.bool false)], args := [d1, d2, d3] }
  | _ => none }
def ShopBackWrongFalsely : Prop := shopBackRow.holds Tryd.pinned (OpenSpec.ofChange shopBackWrong)

/-- 'bazaarlaw15.ShopKeeps': WHATEVER THE INPUT: true; the input reads as it did. -/
def shopKeepsSpec : ChangeSpec := { name := "shopKeeps", fn := fun _ => fun
  | [d1, d2, d3, d4] => { results := [.lit (.bool true)], args := [d1, d2, d3, d4] }
  | _ => none }
def shopKeepsRow : OpenClaim := { program := "ytckkiilbabbeaaadoor", sum := "4890bae34d9304e6e9220ccb9d004551e2069e5c273ff7f56faf60a09ab9086a", func := "bazaar/bazaarlaw15.ShopKeeps", spec := "shopKeeps", inPlace := ["internal/reflectlite.TypeOf"], unfollowed := true, recurses := true, named := ["bazaar/money.errMore", "bazaar/money.errAmount", "bazaar/money.errLess"], apart := false, laid := [("bazaar/money.errAmount", laid_bazaar_money_errAmount), ("bazaar/money.errMore", laid_bazaar_money_errMore), ("bazaar/money.errLess", laid_bazaar_money_errLess)] }
def ShopKeepsSaid : Prop := shopKeepsRow.holds Tryd.pinned (OpenSpec.ofChange shopKeepsSpec)

/-- ITS FALSE NEIGHBOUR: 'it returns false'. Refute it at one input. -/
def shopKeepsWrong : ChangeSpec := { name := "shopKeeps", fn := fun _ => fun
  | [d1, d2, d3, d4] => { results := [.lit (.bool false)], args := [d1, d2, d3, d4] }
  | _ => none }
def ShopKeepsWrongFalsely : Prop := shopKeepsRow.holds Tryd.pinned (OpenSpec.ofChange shopKeepsWrong)

/-- 'bazaarlaw15.ShopOwn': WHATEVER THE INPUT: true; the input reads as it did. -/
def shopOwnSpec : ChangeSpec := { name := "shopOwn", fn := fun _ => fun
  | [d1, d2] => { results := [.lit (.bool true)], args := [d1, d2] }
  | _ => none }
def shopOwnRow : OpenClaim := { program := "ytckkiilbabbeaaadoor", sum := "4890bae34d9304e6e9220ccb9d004551e2069e5c273ff7f56faf60a09ab9086a", func := "bazaar/bazaarlaw15.ShopOwn", spec := "shopOwn", inPlace := ["internal/reflectlite.TypeOf"], unfollowed := true, recurses := true, named := ["bazaar/money.errMore", "bazaar/money.errAmount", "bazaar/money.errLess"], apart := false, laid := [("bazaar/money.errAmount", laid_bazaar_money_errAmount), ("bazaar/money.errMore", laid_bazaar_money_errMore), ("bazaar/money.errLess", laid_bazaar_money_errLess)] }
def ShopOwnSaid : Prop := shopOwnRow.holds Tryd.pinned (OpenSpec.ofChange shopOwnSpec)

/-- ITS FALSE NEIGHBOUR: 'it returns false'. Refute it at one input. -/
def shopOwnWrong : ChangeSpec := { name := "shopOwn", fn := fun _ => fun
  | [d1, d2] => { results := [.lit (.bool false)], args := [d1, d2] }
  | _ => none }
def ShopOwnWrongFalsely : Prop := shopOwnRow.holds Tryd.pinned (OpenSpec.ofChange shopOwnWrong)

/-- 'bazaarlaw15.ShopSizes': WHATEVER THE INPUT: true; the input reads as it did. -/
def shopSizesSpec : ChangeSpec := { name := "shopSizes", fn := fun _ => fun
  | [d] => { results := [.lit (.bool true)], args := [d] }
  | _ => none }
def shopSizesRow : OpenClaim := { program := "ytckkiilbabbeaaadoor", sum := "4890bae34d9304e6e9220ccb9d004551e2069e5c273ff7f56faf60a09ab9086a", func := "bazaar/bazaarlaw15.ShopSizes", spec := "shopSizes", inPlace := ["internal/reflectlite.TypeOf"], unfollowed := true, recurses := true, named := ["bazaar/money.errMore", "bazaar/money.errAmount", "bazaar/money.errLess"], apart := false, laid := [("bazaar/money.errAmount", laid_bazaar_money_errAmount), ("bazaar/money.errMore", laid_bazaar_money_errMore), ("bazaar/money.errLess", laid_bazaar_money_errLess)] }
def ShopSizesSaid : Prop := shopSizesRow.holds Tryd.pinned (OpenSpec.ofChange shopSizesSpec)

/-- ITS FALSE NEIGHBOUR: 'it returns false'. Refute it at one input. -/
def shopSizesWrong : ChangeSpec := { name := "shopSizes", fn := fun _ => fun
  | [d] => { results := [.lit (.bool false)], args := [d] }
  | _ => none }
def ShopSizesWrongFalsely : Prop := shopSizesRow.holds Tryd.pinned (OpenSpec.ofChange shopSizesWrong)

/- THE SECOND FORM. 'bulk': how many values and letters a reading holds, each counted each time it is reached (what is shared counts as often as it is met; a slice's spare places count too). A statement '..UptoSaid' is the law's where the arguments, and the package variables that the reading takes, are together of bulk at most 1048576: NARROWER than '..Said'. Prove '..Said' where nothing that the law and all that it calls make is longer than what came in: it says more and counts as full. Else prove '..UptoSaid'. A law counts once. -/
mutual
def uptoBulk {H : Type} : DataW H → Nat
  | .lit (.string bytes) => bytes.length + 1
  | .lit _ => 1
  | .nil => 1
  | .ptr d => uptoBulk d + 1
  | .slice elems spare => uptoBulkAll elems + uptoBulkAll spare + 1
  | .agg parts => uptoBulkAll parts + 1
  | .iface _ d => uptoBulk d + 1
  | .map entries => uptoBulkEntries entries + 1
  | .held _ => 1
def uptoBulkAll {H : Type} : List (DataW H) → Nat
  | [] => 0
  | d :: r => uptoBulk d + uptoBulkAll r
def uptoBulkEntries {H : Type} : List (Lit × DataW H) → Nat
  | [] => 0
  | x :: r => uptoBulkEntry x + uptoBulkEntries r
def uptoBulkEntry {H : Type} : Lit × DataW H → Nat
  | (.string bytes, d) => bytes.length + uptoBulk d + 1
  | (_, d) => uptoBulk d + 1
 end
def uptoSmall : (H : Type) → List (DataW H) → Bool := fun _ ds => decide (uptoBulkAll ds ≤ 1048576)
def OpenSpec.upto (s : _root_.Go.ChangeSpec) : _root_.Go.OpenSpec := { _root_.Go.OpenSpec.ofChange s with cond := some uptoSmall }

/-- 'bazaarlaw15.ShopBytes', WHERE WHAT IT READS IS OF BULK AT MOST 1048576: true; the input reads as it did. -/
def shopBytesUptoRow : OpenClaim := { program := "ytckkiilbabbeaaadoor", sum := "4890bae34d9304e6e9220ccb9d004551e2069e5c273ff7f56faf60a09ab9086a", func := "bazaar/bazaarlaw15.ShopBytes", spec := "shopBytes", inPlace := ["internal/reflectlite.TypeOf"], unfollowed := true, recurses := true, named := ["bazaar/money.errMore", "bazaar/money.errAmount", "bazaar/money.errLess"], apart := false, laid := [("bazaar/money.errAmount", laid_bazaar_money_errAmount), ("bazaar/money.errMore", laid_bazaar_money_errMore), ("bazaar/money.errLess", laid_bazaar_money_errLess)], narrowed := true }
def ShopBytesUptoSaid : Prop := shopBytesUptoRow.holds Tryd.pinned (OpenSpec.upto shopBytesSpec)

/-- 'bazaarlaw15.ShopDoes', WHERE WHAT IT READS IS OF BULK AT MOST 1048576: true; the input reads as it did. -/
def shopDoesUptoRow : OpenClaim := { program := "ytckkiilbabbeaaadoor", sum := "4890bae34d9304e6e9220ccb9d004551e2069e5c273ff7f56faf60a09ab9086a", func := "bazaar/bazaarlaw15.ShopDoes", spec := "shopDoes", inPlace := ["internal/reflectlite.TypeOf"], unfollowed := true, recurses := true, named := ["bazaar/money.errMore", "bazaar/money.errAmount", "bazaar/money.errLess"], apart := false, laid := [("bazaar/money.errAmount", laid_bazaar_money_errAmount), ("bazaar/money.errMore", laid_bazaar_money_errMore), ("bazaar/money.errLess", laid_bazaar_money_errLess)], narrowed := true }
def ShopDoesUptoSaid : Prop := shopDoesUptoRow.holds Tryd.pinned (OpenSpec.upto shopDoesSpec)

/-- 'bazaarlaw15.ShopBack', WHERE WHAT IT READS IS OF BULK AT MOST 1048576: true; the input reads as it did. -/
def shopBackUptoRow : OpenClaim := { program := "ytckkiilbabbeaaadoor", sum := "4890bae34d9304e6e9220ccb9d004551e2069e5c273ff7f56faf60a09ab9086a", func := "bazaar/bazaarlaw15.ShopBack", spec := "shopBack", inPlace := ["internal/reflectlite.TypeOf"], unfollowed := true, recurses := true, named := ["bazaar/money.errMore", "bazaar/money.errAmount", "bazaar/money.errLess"], apart := false, laid := [("bazaar/money.errAmount", laid_bazaar_money_errAmount), ("bazaar/money.errMore", laid_bazaar_money_errMore), ("bazaar/money.errLess", laid_bazaar_money_errLess)], narrowed := true }
def ShopBackUptoSaid : Prop := shopBackUptoRow.holds Tryd.pinned (OpenSpec.upto shopBackSpec)

/-- 'bazaarlaw15.ShopKeeps', WHERE WHAT IT READS IS OF BULK AT MOST 1048576: true; the input reads as it did. -/
def shopKeepsUptoRow : OpenClaim := { program := "ytckkiilbabbeaaadoor", sum := "4890bae34d9304e6e9220ccb9d004551e2069e5c273ff7f56faf60a09ab9086a", func := "bazaar/bazaarlaw15.ShopKeeps", spec := "shopKeeps", inPlace := ["internal/reflectlite.TypeOf"], unfollowed := true, recurses := true, named := ["bazaar/money.errMore", "bazaar/money.errAmount", "bazaar/money.errLess"], apart := false, laid := [("bazaar/money.errAmount", laid_bazaar_money_errAmount), ("bazaar/money.errMore", laid_bazaar_money_errMore), ("bazaar/money.errLess", laid_bazaar_money_errLess)], narrowed := true }
def ShopKeepsUptoSaid : Prop := shopKeepsUptoRow.holds Tryd.pinned (OpenSpec.upto shopKeepsSpec)

/-- 'bazaarlaw15.ShopOwn', WHERE WHAT IT READS IS OF BULK AT MOST 1048576: true; the input reads as it did. -/
def shopOwnUptoRow : OpenClaim := { program := "ytckkiilbabbeaaadoor", sum := "4890bae34d9304e6e9220ccb9d004551e2069e5c273ff7f56faf60a09ab9086a", func := "bazaar/bazaarlaw15.ShopOwn", spec := "shopOwn", inPlace := ["internal/reflectlite.TypeOf"], unfollowed := true, recurses := true, named := ["bazaar/money.errMore", "bazaar/money.errAmount", "bazaar/money.errLess"], apart := false, laid := [("bazaar/money.errAmount", laid_bazaar_money_errAmount), ("bazaar/money.errMore", laid_bazaar_money_errMore), ("bazaar/money.errLess", laid_bazaar_money_errLess)], narrowed := true }
def ShopOwnUptoSaid : Prop := shopOwnUptoRow.holds Tryd.pinned (OpenSpec.upto shopOwnSpec)

/-- 'bazaarlaw15.ShopSizes', WHERE WHAT IT READS IS OF BULK AT MOST 1048576: true; the input reads as it did. -/
def shopSizesUptoRow : OpenClaim := { program := "ytckkiilbabbeaaadoor", sum := "4890bae34d9304e6e9220ccb9d004551e2069e5c273ff7f56faf60a09ab9086a", func := "bazaar/bazaarlaw15.ShopSizes", spec := "shopSizes", inPlace := ["internal/reflectlite.TypeOf"], unfollowed := true, recurses := true, named := ["bazaar/money.errMore", "bazaar/money.errAmount", "bazaar/money.errLess"], apart := false, laid := [("bazaar/money.errAmount", laid_bazaar_money_errAmount), ("bazaar/money.errMore", laid_bazaar_money_errMore), ("bazaar/money.errLess", laid_bazaar_money_errLess)], narrowed := true }
def ShopSizesUptoSaid : Prop := shopSizesUptoRow.holds Tryd.pinned (OpenSpec.upto shopSizesSpec)

end Rows
end Go.Proofs.YtckkiilbabbeaaaDoor

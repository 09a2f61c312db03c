/-
  No cell of these rows narrows 'for every input' (looked for: loops, veiled, ifaces, maps, wideKeys, modest, calm, conditions, laid).
  DERIVED. THE GIVEN ROWS OF THIS SEAT. 10 by the template 'for every input the law returns true; each argument reads behind the call as it read before'; 0 by the template 'total and deterministic' (their statements: YtghpcjkjhbafnaaTotals.lean).
  GIVEN WITH THE SEED: the statements are not yours to turn. If you find one false, say at which input.
  Laid BY PROGRAM, IN A SANDBOX (cutbox-rows.mjs): the forced cells as the released guide's own fill.sh prints them over the translation 6a1db86f0b806002… (all of the seat's roots in one cut). By AI agents, Wed Nov 11 2026. No macro, syntax, notation, axiom, sorry.
-/
import Derived.Test.YtghpcjkjhbafnaaChecked
import GoSem.Claim
import GoSem.ClaimJoined
import GoSem.ClaimMapViews
import Derived.JoinedTies
import Derived.KernelRfl
namespace Go.Proofs.Ytghpcjkjhbafnaa
/- THE CELL 'sum', in the pinned program and in every row, IS THE sha256 OF THE DUMP (.gsa) THAT YtghpcjkjhbafnaaProg.lean LOADS. Nothing in Lean hashes anything: it is a label: what it is worth is what the hold of that sum in a sandbox is worth. -/
noncomputable def Try.pinned : Pinned := { name := "ytghpcjkjhbafnaa", sum := "6a1db86f0b8060026700fb0626488d2ff34308f44cd2088c3abebb580edb1490", checked := Try.checked }
namespace Rows
def none {H : Type} : Left H := { results := [], args := [] }

/-- 'bazaarlaw01.DiskDoes': WHATEVER THE INPUT: true; the input reads as it did. -/
def diskDoesSpec : ChangeSpec := { name := "diskDoes", fn := fun _ => fun
  | [d1, d2] => { results := [.lit (.bool true)], args := [d1, d2] }
  | _ => none }
def diskDoesRow : OpenClaim := { program := "ytghpcjkjhbafnaa", sum := "6a1db86f0b8060026700fb0626488d2ff34308f44cd2088c3abebb580edb1490", func := "bazaar/bazaarlaw01.DiskDoes", spec := "diskDoes", unfollowed := true, recurses := true, apart := false }
def DiskDoesSaid : Prop := diskDoesRow.holds Try.pinned (OpenSpec.ofChange diskDoesSpec)

/-- ITS FALSE NEIGHBOUR: 'it returns false'. Refute it at one input. -/
def diskDoesWrong : ChangeSpec := { name := "diskDoes", fn := fun _ => fun
  | [d1, d2] => { results := [.lit (.bool false)], args := [d1, d2] }
  | _ => none }
def DiskDoesWrongFalsely : Prop := diskDoesRow.holds Try.pinned (OpenSpec.ofChange diskDoesWrong)

/-- 'bazaarlaw03.PageStores': WHATEVER THE INPUT: true; the input reads as it did. -/
def pageStoresSpec : ChangeSpec := { name := "pageStores", fn := fun _ => fun
  | [d1, d2, d3] => { results := [.lit (.bool true)], args := [d1, d2, d3] }
  | _ => none }
def pageStoresRow : OpenClaim := { program := "ytghpcjkjhbafnaa", sum := "6a1db86f0b8060026700fb0626488d2ff34308f44cd2088c3abebb580edb1490", func := "bazaar/bazaarlaw03.PageStores", spec := "pageStores", inPlace := ["internal/abi.NoEscape", "internal/bytealg.MakeNoZero"], unfollowed := true, recurses := true, apart := false }
def PageStoresSaid : Prop := pageStoresRow.holds Try.pinned (OpenSpec.ofChange pageStoresSpec)

/-- ITS FALSE NEIGHBOUR: 'it returns false'. Refute it at one input. -/
def pageStoresWrong : ChangeSpec := { name := "pageStores", fn := fun _ => fun
  | [d1, d2, d3] => { results := [.lit (.bool false)], args := [d1, d2, d3] }
  | _ => none }
def PageStoresWrongFalsely : Prop := pageStoresRow.holds Try.pinned (OpenSpec.ofChange pageStoresWrong)

/-- 'bazaarlaw03.PageKeeps': WHATEVER THE INPUT: true; the input reads as it did. -/
def pageKeepsSpec : ChangeSpec := { name := "pageKeeps", fn := fun _ => fun
  | [d] => { results := [.lit (.bool true)], args := [d] }
  | _ => none }
def pageKeepsRow : OpenClaim := { program := "ytghpcjkjhbafnaa", sum := "6a1db86f0b8060026700fb0626488d2ff34308f44cd2088c3abebb580edb1490", func := "bazaar/bazaarlaw03.PageKeeps", spec := "pageKeeps", inPlace := ["internal/abi.NoEscape", "internal/bytealg.MakeNoZero"], unfollowed := true, recurses := true, apart := false }
def PageKeepsSaid : Prop := pageKeepsRow.holds Try.pinned (OpenSpec.ofChange pageKeepsSpec)

/-- ITS FALSE NEIGHBOUR: 'it returns false'. Refute it at one input. -/
def pageKeepsWrong : ChangeSpec := { name := "pageKeeps", fn := fun _ => fun
  | [d] => { results := [.lit (.bool false)], args := [d] }
  | _ => none }
def PageKeepsWrongFalsely : Prop := pageKeepsRow.holds Try.pinned (OpenSpec.ofChange pageKeepsWrong)

/-- 'bazaarlaw04.MetaBytes': WHATEVER THE INPUT: true; the input reads as it did. -/
def metaBytesSpec : ChangeSpec := { name := "metaBytes", fn := fun _ => fun
  | [d] => { results := [.lit (.bool true)], args := [d] }
  | _ => none }
def metaBytesRow : OpenClaim := { program := "ytghpcjkjhbafnaa", sum := "6a1db86f0b8060026700fb0626488d2ff34308f44cd2088c3abebb580edb1490", func := "bazaar/bazaarlaw04.MetaBytes", spec := "metaBytes", inPlace := ["internal/abi.NoEscape", "internal/bytealg.MakeNoZero"], unfollowed := true, recurses := true, apart := false }
def MetaBytesSaid : Prop := metaBytesRow.holds Try.pinned (OpenSpec.ofChange metaBytesSpec)

/-- ITS FALSE NEIGHBOUR: 'it returns false'. Refute it at one input. -/
def metaBytesWrong : ChangeSpec := { name := "metaBytes", fn := fun _ => fun
  | [d] => { results := [.lit (.bool false)], args := [d] }
  | _ => none }
def MetaBytesWrongFalsely : Prop := metaBytesRow.holds Try.pinned (OpenSpec.ofChange metaBytesWrong)

/-- 'bazaarlaw04.MetaDecodes': WHATEVER THE INPUT: true; the input reads as it did. -/
def metaDecodesSpec : ChangeSpec := { name := "metaDecodes", fn := fun _ => fun
  | [d] => { results := [.lit (.bool true)], args := [d] }
  | _ => none }
def metaDecodesRow : OpenClaim := { program := "ytghpcjkjhbafnaa", sum := "6a1db86f0b8060026700fb0626488d2ff34308f44cd2088c3abebb580edb1490", func := "bazaar/bazaarlaw04.MetaDecodes", spec := "metaDecodes", inPlace := ["internal/abi.NoEscape", "internal/bytealg.MakeNoZero"], unfollowed := true, recurses := true, apart := false }
def MetaDecodesSaid : Prop := metaDecodesRow.holds Try.pinned (OpenSpec.ofChange metaDecodesSpec)

/-- ITS FALSE NEIGHBOUR: 'it returns false'. Refute it at one input. -/
def metaDecodesWrong : ChangeSpec := { name := "metaDecodes", fn := fun _ => fun
  | [d] => { results := [.lit (.bool false)], args := [d] }
  | _ => none }
def MetaDecodesWrongFalsely : Prop := metaDecodesRow.holds Try.pinned (OpenSpec.ofChange metaDecodesWrong)

/-- 'bazaarlaw04.MetaLoads': WHATEVER THE INPUT: true; the input reads as it did. -/
def metaLoadsSpec : ChangeSpec := { name := "metaLoads", fn := fun _ => fun
  | [d1, d2, d3] => { results := [.lit (.bool true)], args := [d1, d2, d3] }
  | _ => none }
def metaLoadsRow : OpenClaim := { program := "ytghpcjkjhbafnaa", sum := "6a1db86f0b8060026700fb0626488d2ff34308f44cd2088c3abebb580edb1490", func := "bazaar/bazaarlaw04.MetaLoads", spec := "metaLoads", inPlace := ["internal/abi.NoEscape", "internal/bytealg.MakeNoZero"], unfollowed := true, recurses := true, apart := false }
def MetaLoadsSaid : Prop := metaLoadsRow.holds Try.pinned (OpenSpec.ofChange metaLoadsSpec)

/-- ITS FALSE NEIGHBOUR: 'it returns false'. Refute it at one input. -/
def metaLoadsWrong : ChangeSpec := { name := "metaLoads", fn := fun _ => fun
  | [d1, d2, d3] => { results := [.lit (.bool false)], args := [d1, d2, d3] }
  | _ => none }
def MetaLoadsWrongFalsely : Prop := metaLoadsRow.holds Try.pinned (OpenSpec.ofChange metaLoadsWrong)

/-- 'bazaarlaw04.MetaBack': WHATEVER THE INPUT: true; the input reads as it did. -/
def metaBackSpec : ChangeSpec := { name := "metaBack", fn := fun _ => fun
  | [d1, d2] => { results := [.lit (.bool true)], args := [d1, d2] }
  | _ => none }
def metaBackRow : OpenClaim := { program := "ytghpcjkjhbafnaa", sum := "6a1db86f0b8060026700fb0626488d2ff34308f44cd2088c3abebb580edb1490", func := "bazaar/bazaarlaw04.MetaBack", spec := "metaBack", inPlace := ["internal/abi.NoEscape", "internal/bytealg.MakeNoZero"], unfollowed := true, recurses := true, apart := false }
def MetaBackSaid : Prop := metaBackRow.holds Try.pinned (OpenSpec.ofChange metaBackSpec)

/-- ITS FALSE NEIGHBOUR: 'it returns false'. Refute it at one input. -/
def metaBackWrong : ChangeSpec := { name := "metaBack", fn := fun _ => fun
  | [d1, d2] => { results := [.lit (.bool false)], args := [d1, d2] }
  | _ => none }
def MetaBackWrongFalsely : Prop := metaBackRow.holds Try.pinned (OpenSpec.ofChange metaBackWrong)

/-- 'bazaarlaw04.MetaTorn': WHATEVER THE INPUT: true; the input reads as it did. -/
def metaTornSpec : ChangeSpec := { name := "metaTorn", fn := fun _ => fun
  | [d1, d2, d3, d4] => { results := [.lit (.bool true)], args := [d1, d2, d3, d4] }
  | _ => none }
def metaTornRow : OpenClaim := { program := "ytghpcjkjhbafnaa", sum := "6a1db86f0b8060026700fb0626488d2ff34308f44cd2088c3abebb580edb1490", func := "bazaar/bazaarlaw04.MetaTorn", spec := "metaTorn", inPlace := ["internal/abi.NoEscape", "internal/bytealg.MakeNoZero"], unfollowed := true, recurses := true, apart := false }
def MetaTornSaid : Prop := metaTornRow.holds Try.pinned (OpenSpec.ofChange metaTornSpec)

/-- ITS FALSE NEIGHBOUR: 'it returns false'. Refute it at one input. -/
def metaTornWrong : ChangeSpec := { name := "metaTorn", fn := fun _ => fun
  | [d1, d2, d3, d4] => { results := [.lit (.bool false)], args := [d1, d2, d3, d4] }
  | _ => none }
def MetaTornWrongFalsely : Prop := metaTornRow.holds Try.pinned (OpenSpec.ofChange metaTornWrong)

/-- 'bazaarlaw04.MetaTurns': WHATEVER THE INPUT: true; the input reads as it did. -/
def metaTurnsSpec : ChangeSpec := { name := "metaTurns", fn := fun _ => fun
  | [d1, d2] => { results := [.lit (.bool true)], args := [d1, d2] }
  | _ => none }
def metaTurnsRow : OpenClaim := { program := "ytghpcjkjhbafnaa", sum := "6a1db86f0b8060026700fb0626488d2ff34308f44cd2088c3abebb580edb1490", func := "bazaar/bazaarlaw04.MetaTurns", spec := "metaTurns", inPlace := ["internal/abi.NoEscape", "internal/bytealg.MakeNoZero"], unfollowed := true, recurses := true, apart := false }
def MetaTurnsSaid : Prop := metaTurnsRow.holds Try.pinned (OpenSpec.ofChange metaTurnsSpec)

/-- ITS FALSE NEIGHBOUR: 'it returns false'. Refute it at one input. -/
def metaTurnsWrong : ChangeSpec := { name := "metaTurns", fn := fun _ => fun
  | [d1, d2] => { results := [.lit (.bool false)], args := [d1, d2] }
  | _ => none }
def MetaTurnsWrongFalsely : Prop := metaTurnsRow.holds Try.pinned (OpenSpec.ofChange metaTurnsWrong)

/-- 'bazaarlaw04.MetaSlots': WHATEVER THE INPUT: true; the input reads as it did. -/
def metaSlotsSpec : ChangeSpec := { name := "metaSlots", fn := fun _ => fun
  | [d] => { results := [.lit (.bool true)], args := [d] }
  | _ => none }
def metaSlotsRow : OpenClaim := { program := "ytghpcjkjhbafnaa", sum := "6a1db86f0b8060026700fb0626488d2ff34308f44cd2088c3abebb580edb1490", func := "bazaar/bazaarlaw04.MetaSlots", spec := "metaSlots", inPlace := ["internal/abi.NoEscape", "internal/bytealg.MakeNoZero"], unfollowed := true, recurses := true, apart := false }
def MetaSlotsSaid : Prop := metaSlotsRow.holds Try.pinned (OpenSpec.ofChange metaSlotsSpec)

/-- ITS FALSE NEIGHBOUR: 'it returns false'. Refute it at one input. -/
def metaSlotsWrong : ChangeSpec := { name := "metaSlots", fn := fun _ => fun
  | [d] => { results := [.lit (.bool false)], args := [d] }
  | _ => none }
def MetaSlotsWrongFalsely : Prop := metaSlotsRow.holds Try.pinned (OpenSpec.ofChange metaSlotsWrong)

/- THE SECOND FORM. 'bulk': how many values and letters a reading holds, each counted each time it is reached (what is shared counts as often as it is met; a slice's spare places count too). A statement '..UptoSaid' is the law's where the arguments, and the package variables that the reading takes, are together of bulk at most 1048576: NARROWER than '..Said'. Prove '..Said' where nothing that the law and all that it calls make is longer than what came in: it says more and counts as full. Else prove '..UptoSaid'. A law counts once. -/
mutual
def uptoBulk {H : Type} : DataW H → Nat
  | .lit (.string bytes) => bytes.length + 1
  | .lit _ => 1
  | .nil => 1
  | .ptr d => uptoBulk d + 1
  | .slice elems spare => uptoBulkAll elems + uptoBulkAll spare + 1
  | .agg parts => uptoBulkAll parts + 1
  | .iface _ d => uptoBulk d + 1
  | .map entries => uptoBulkEntries entries + 1
  | .held _ => 1
def uptoBulkAll {H : Type} : List (DataW H) → Nat
  | [] => 0
  | d :: r => uptoBulk d + uptoBulkAll r
def uptoBulkEntries {H : Type} : List (Lit × DataW H) → Nat
  | [] => 0
  | x :: r => uptoBulkEntry x + uptoBulkEntries r
def uptoBulkEntry {H : Type} : Lit × DataW H → Nat
  | (.string bytes, d) => bytes.length + uptoBulk d + 1
  | (_, d) => uptoBulk d + 1
 end
def uptoSmall : (H : Type) → List (DataW H) → Bool := fun _ ds => decide (uptoBulkAll ds ≤ 1048576)
def OpenSpec.upto (s : _root_.Go.ChangeSpec) : _root_.Go.OpenSpec := { _root_.Go.OpenSpec.ofChange s with cond := some uptoSmall }

/-- 'bazaarlaw01.DiskDoes', WHERE WHAT IT READS IS OF BULK AT MOST 1048576: true; the input reads as it did. -/
def diskDoesUptoRow : OpenClaim := { program := "ytghpcjkjhbafnaa", sum := "6a1db86f0b8060026700fb0626488d2ff34308f44cd2088c3abebb580edb1490", func := "bazaar/bazaarlaw01.DiskDoes", spec := "diskDoes", unfollowed := true, recurses := true, apart := false, narrowed := true }
def DiskDoesUptoSaid : Prop := diskDoesUptoRow.holds Try.pinned (OpenSpec.upto diskDoesSpec)

/-- 'bazaarlaw03.PageStores', WHERE WHAT IT READS IS OF BULK AT MOST 1048576: true; the input reads as it did. -/
def pageStoresUptoRow : OpenClaim := { program := "ytghpcjkjhbafnaa", sum := "6a1db86f0b8060026700fb0626488d2ff34308f44cd2088c3abebb580edb1490", func := "bazaar/bazaarlaw03.PageStores", spec := "pageStores", inPlace := ["internal/abi.NoEscape", "internal/bytealg.MakeNoZero"], unfollowed := true, recurses := true, apart := false, narrowed := true }
def PageStoresUptoSaid : Prop := pageStoresUptoRow.holds Try.pinned (OpenSpec.upto pageStoresSpec)

/-- 'bazaarlaw03.PageKeeps', WHERE WHAT IT READS IS OF BULK AT MOST 1048576: true; the input reads as it did. -/
def pageKeepsUptoRow : OpenClaim := { program := "ytghpcjkjhbafnaa", sum := "6a1db86f0b8060026700fb0626488d2ff34308f44cd2088c3abebb580edb1490", func := "bazaar/bazaarlaw03.PageKeeps", spec := "pageKeeps", inPlace := ["internal/abi.NoEscape", "internal/bytealg.MakeNoZero"], unfollowed := true, recurses := true, apart := false, narrowed := true }
def PageKeepsUptoSaid : Prop := pageKeepsUptoRow.holds Try.pinned (OpenSpec.upto pageKeepsSpec)

/-- 'bazaarlaw04.MetaBytes', WHERE WHAT IT READS IS OF BULK AT MOST 1048576: true; the input reads as it did. -/
def metaBytesUptoRow : OpenClaim := { program := "ytghpcjkjhbafnaa", sum := "6a1db86f0b8060026700fb0626488d2ff34308f44cd2088c3abebb580edb1490", func := "bazaar/bazaarlaw04.MetaBytes", spec := "metaBytes", inPlace := ["internal/abi.NoEscape", "internal/bytealg.MakeNoZero"], unfollowed := true, recurses := true, apart := false, narrowed := true }
def MetaBytesUptoSaid : Prop := metaBytesUptoRow.holds Try.pinned (OpenSpec.upto metaBytesSpec)

/-- 'bazaarlaw04.MetaDecodes', WHERE WHAT IT READS IS OF BULK AT MOST 1048576: true; the input reads as it did. -/
def metaDecodesUptoRow : OpenClaim := { program := "ytghpcjkjhbafnaa", sum := "6a1db86f0b8060026700fb0626488d2ff34308f44cd2088c3abebb580edb1490", func := "bazaar/bazaarlaw04.MetaDecodes", spec := "metaDecodes", inPlace := ["internal/abi.NoEscape", "internal/bytealg.MakeNoZero"], unfollowed := true, recurses := true, apart := false, narrowed := true }
def MetaDecodesUptoSaid : Prop := metaDecodesUptoRow.holds Try.pinned (OpenSpec.upto metaDecodesSpec)

/-- 'bazaarlaw04.MetaLoads', WHERE WHAT IT READS IS OF BULK AT MOST 1048576: true; the input reads as it did. -/
def metaLoadsUptoRow : OpenClaim := { program := "ytghpcjkjhbafnaa", sum := "6a1db86f0b8060026700fb0626488d2ff34308f44cd2088c3abebb580edb1490", func := "bazaar/bazaarlaw04.MetaLoads", spec := "metaLoads", inPlace := ["internal/abi.NoEscape", "internal/bytealg.MakeNoZero"], unfollowed := true, recurses := true, apart := false, narrowed := true }
def MetaLoadsUptoSaid : Prop := metaLoadsUptoRow.holds Try.pinned (OpenSpec.upto metaLoadsSpec)

/-- 'bazaarlaw04.MetaBack', WHERE WHAT IT READS IS OF BULK AT MOST 1048576: true; the input reads as it did. -/
def metaBackUptoRow : OpenClaim := { program := "ytghpcjkjhbafnaa", sum := "6a1db86f0b8060026700fb0626488d2ff34308f44cd2088c3abebb580edb1490", func := "bazaar/bazaarlaw04.MetaBack", spec := "metaBack", inPlace := ["internal/abi.NoEscape", "internal/bytealg.MakeNoZero"], unfollowed := true, recurses := true, apart := false, narrowed := true }
def MetaBackUptoSaid : Prop := metaBackUptoRow.holds Try.pinned (OpenSpec.upto metaBackSpec)

/-- 'bazaarlaw04.MetaTorn', WHERE WHAT IT READS IS OF BULK AT MOST 1048576: true; the input reads as it did. -/
def metaTornUptoRow : OpenClaim := { program := "ytghpcjkjhbafnaa", sum := "6a1db86f0b8060026700fb0626488d2ff34308f44cd2088c3abebb580edb1490", func := "bazaar/bazaarlaw04.MetaTorn", spec := "metaTorn", inPlace := ["internal/abi.NoEscape", "internal/bytealg.MakeNoZero"], unfollowed := true, recurses := true, apart := false, narrowed := true }
def MetaTornUptoSaid : Prop := metaTornUptoRow.holds Try.pinned (OpenSpec.upto metaTornSpec)

/-- 'bazaarlaw04.MetaTurns', WHERE WHAT IT READS IS OF BULK AT MOST 1048576: true; the input reads as it did. -/
def metaTurnsUptoRow : OpenClaim := { program := "ytghpcjkjhbafnaa", sum := "6a1db86f0b8060026700fb0626488d2ff34308f44cd2088c3abebb580edb1490", func := "bazaar/bazaarlaw04.MetaTurns", spec := "metaTurns", inPlace := ["internal/abi.NoEscape", "internal/bytealg.MakeNoZero"], unfollowed := true, recurses := true, apart := false, narrowed := true }
def MetaTurnsUptoSaid : Prop := metaTurnsUptoRow.holds Try.pinned (OpenSpec.upto metaTurnsSpec)

/-- 'bazaarlaw04.MetaSlots', WHERE WHAT IT READS IS OF BULK AT MOST 1048576: true; the input reads as it did. -/
def metaSlotsUptoRow : OpenClaim := { program := "ytghpcjkjhbafnaa", sum := "6a1db86f0b8060026700fb0626488d2ff34308f44cd2088c3abebb580edb1490", func := "bazaar/bazaarlaw04.MetaSlots", spec := "metaSlots", inPlace := ["internal/abi.NoEscape", "internal/bytealg.MakeNoZero"], unfollowed := true, recurses := true, apart := false, narrowed := true }
def MetaSlotsUptoSaid : Prop := metaSlotsUptoRow.holds Try.pinned (OpenSpec.upto metaSlotsSpec)

end Rows
end Go.Proofs.Ytghpcjkjhbafnaa

/-
  DERIVED. GIVEN WITH THE SEED: THE CARDS: each row of YtecalafjfbgbcaaDoorRows.lean that lists a variable, with what it lists TIED to the program's text (the seventh form; the later family's looks); each row that meets fmt, with fmt's text TOLD by the authors' own Lean function (tested against real Go, not proved from fmt's source: count such statements apart). THE CARD IS WHAT COUNTS. Prove the row's statement (the work); the ties are given (YtecalafjfbgbcaaDoorTie.lean); close each card by the builder's one call (the guide's Derived/Test/ToyasCard.lean, 'card_holds'). Laid BY PROGRAM, IN A SANDBOX (cutbox-door.mjs). By AI agents, Wed Nov 11 2026. No macro, syntax, notation, axiom, sorry.
-/
import Derived.Test.YtecalafjfbgbcaaDoorRows
import GoSem.ClaimSeven
namespace Go.Proofs.YtecalafjfbgbcaaDoor
namespace Rows

/-- THE TIED CARD OF 'bazaarlaw12.GoodsDo'. -/
def goodsDoCard : Claim7 := { stood := { row := goodsDoRow, standIns := [], harness := (true, "58ecb3deaace5e02e43e0fa917e4578eaac3b4a995deb4b1fe8da3d69ca30aa3"), looks := true }, kinds := [], alts := [], laidByText := true, laidKinds := [.sentinel, .sentinel, .sentinel], laidTests := true, laidLooks := .later }
def GoodsDoCardSaid : Prop := Claim7.holds Tryd.pinned (.plain (OpenSpec.ofChange goodsDoSpec)) goodsDoCard

/-- THE TIED CARD OF 'bazaarlaw12.GoodsKeep'. -/
def goodsKeepCard : Claim7 := { stood := { row := goodsKeepRow, standIns := [], harness := (true, "58ecb3deaace5e02e43e0fa917e4578eaac3b4a995deb4b1fe8da3d69ca30aa3"), looks := true }, kinds := [], alts := [], laidByText := true, laidKinds := [.sentinel, .sentinel, .sentinel], laidTests := true, laidLooks := .later }
def GoodsKeepCardSaid : Prop := Claim7.holds Tryd.pinned (.plain (OpenSpec.ofChange goodsKeepSpec)) goodsKeepCard

/-- THE TIED CARD OF 'bazaarlaw12.GoodsBack'. -/
def goodsBackCard : Claim7 := { stood := { row := goodsBackRow, standIns := [], harness := (true, "58ecb3deaace5e02e43e0fa917e4578eaac3b4a995deb4b1fe8da3d69ca30aa3"), looks := true }, kinds := [], alts := [], laidByText := true, laidKinds := [.sentinel, .sentinel, .sentinel], laidTests := true, laidLooks := .later }
def GoodsBackCardSaid : Prop := Claim7.holds Tryd.pinned (.plain (OpenSpec.ofChange goodsBackSpec)) goodsBackCard

/-- THE TIED CARD OF 'bazaarlaw12.GoodsOwn'. -/
def goodsOwnCard : Claim7 := { stood := { row := goodsOwnRow, standIns := [], harness := (true, "58ecb3deaace5e02e43e0fa917e4578eaac3b4a995deb4b1fe8da3d69ca30aa3"), looks := true }, kinds := [], alts := [], laidByText := true, laidKinds := [.sentinel, .sentinel, .sentinel], laidTests := true, laidLooks := .later }
def GoodsOwnCardSaid : Prop := Claim7.holds Tryd.pinned (.plain (OpenSpec.ofChange goodsOwnSpec)) goodsOwnCard

/-- THE TIED CARD OF 'bazaarlaw12.GoodsSlots'. -/
def goodsSlotsCard : Claim7 := { stood := { row := goodsSlotsRow, standIns := [], harness := (true, "58ecb3deaace5e02e43e0fa917e4578eaac3b4a995deb4b1fe8da3d69ca30aa3"), looks := true }, kinds := [], alts := [], laidByText := true, laidKinds := [.sentinel, .sentinel, .sentinel], laidTests := true, laidLooks := .later }
def GoodsSlotsCardSaid : Prop := Claim7.holds Tryd.pinned (.plain (OpenSpec.ofChange goodsSlotsSpec)) goodsSlotsCard

/-- THE TIED CARD OF 'bazaarlaw12.GoodsTwice'. -/
def goodsTwiceCard : Claim7 := { stood := { row := goodsTwiceRow, standIns := [], harness := (true, "58ecb3deaace5e02e43e0fa917e4578eaac3b4a995deb4b1fe8da3d69ca30aa3"), looks := true }, kinds := [], alts := [], laidByText := true, laidKinds := [.sentinel, .sentinel, .sentinel], laidTests := true, laidLooks := .later }
def GoodsTwiceCardSaid : Prop := Claim7.holds Tryd.pinned (.plain (OpenSpec.ofChange goodsTwiceSpec)) goodsTwiceCard

/-- THE SECOND FORM's CARD OF 'bazaarlaw12.GoodsDo'. -/
def goodsDoUptoCard : Claim7 := { stood := { row := goodsDoUptoRow, standIns := [], harness := (true, "58ecb3deaace5e02e43e0fa917e4578eaac3b4a995deb4b1fe8da3d69ca30aa3"), looks := true }, kinds := [], alts := [], laidByText := true, laidKinds := [.sentinel, .sentinel, .sentinel], laidTests := true, laidLooks := .later }
def GoodsDoUptoCardSaid : Prop := Claim7.holds Tryd.pinned (.plain (OpenSpec.upto goodsDoSpec)) goodsDoUptoCard

/-- THE SECOND FORM's CARD OF 'bazaarlaw12.GoodsKeep'. -/
def goodsKeepUptoCard : Claim7 := { stood := { row := goodsKeepUptoRow, standIns := [], harness := (true, "58ecb3deaace5e02e43e0fa917e4578eaac3b4a995deb4b1fe8da3d69ca30aa3"), looks := true }, kinds := [], alts := [], laidByText := true, laidKinds := [.sentinel, .sentinel, .sentinel], laidTests := true, laidLooks := .later }
def GoodsKeepUptoCardSaid : Prop := Claim7.holds Tryd.pinned (.plain (OpenSpec.upto goodsKeepSpec)) goodsKeepUptoCard

/-- THE SECOND FORM's CARD OF 'bazaarlaw12.GoodsBack'. -/
def goodsBackUptoCard : Claim7 := { stood := { row := goodsBackUptoRow, standIns := [], harness := (true, "58ecb3deaace5e02e43e0fa917e4578eaac3b4a995deb4b1fe8da3d69ca30aa3"), looks := true }, kinds := [], alts := [], laidByText := true, laidKinds := [.sentinel, .sentinel, .sentinel], laidTests := true, laidLooks := .later }
def GoodsBackUptoCardSaid : Prop := Claim7.holds Tryd.pinned (.plain (OpenSpec.upto goodsBackSpec)) goodsBackUptoCard

/-- THE SECOND FORM's CARD OF 'bazaarlaw12.GoodsOwn'. -/
def goodsOwnUptoCard : Claim7 := { stood := { row := goodsOwnUptoRow, standIns := [], harness := (true, "58ecb3deaace5e02e43e0fa917e4578eaac3b4a995deb4b1fe8da3d69ca30aa3"), looks := true }, kinds := [], alts := [], laidByText := true, laidKinds := [.sentinel, .sentinel, .sentinel], laidTests := true, laidLooks := .later }
def GoodsOwnUptoCardSaid : Prop := Claim7.holds Tryd.pinned (.plain (OpenSpec.upto goodsOwnSpec)) goodsOwnUptoCard

/-- THE SECOND FORM's CARD OF 'bazaarlaw12.GoodsSlots'. -/
def goodsSlotsUptoCard : Claim7 := { stood := { row := goodsSlotsUptoRow, standIns := [], harness := (true, "58ecb3deaace5e02e43e0fa917e4578eaac3b4a995deb4b1fe8da3d69ca30aa3"), looks := true }, kinds := [], alts := [], laidByText := true, laidKinds := [.sentinel, .sentinel, .sentinel], laidTests := true, laidLooks := .later }
def GoodsSlotsUptoCardSaid : Prop := Claim7.holds Tryd.pinned (.plain (OpenSpec.upto goodsSlotsSpec)) goodsSlotsUptoCard

/-- THE SECOND FORM's CARD OF 'bazaarlaw12.GoodsTwice'. -/
def goodsTwiceUptoCard : Claim7 := { stood := { row := goodsTwiceUptoRow, standIns := [], harness := (true, "58ecb3deaace5e02e43e0fa917e4578eaac3b4a995deb4b1fe8da3d69ca30aa3"), looks := true }, kinds := [], alts := [], laidByText := true, laidKinds := [.sentinel, .sentinel, .sentinel], laidTests := true, laidLooks := .later }
def GoodsTwiceUptoCardSaid : Prop := Claim7.holds Tryd.pinned (.plain (OpenSpec.upto goodsTwiceSpec)) goodsTwiceUptoCard
end Rows
end Go.Proofs.YtecalafjfbgbcaaDoor

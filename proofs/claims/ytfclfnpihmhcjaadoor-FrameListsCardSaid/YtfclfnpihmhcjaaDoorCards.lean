/-
  DERIVED. GIVEN WITH THE SEED: THE CARDS: each row of YtfclfnpihmhcjaaDoorRows.lean that lists a variable, with what it lists TIED to the program's text (the seventh form; the later family's looks); each row that meets fmt, with fmt's text TOLD by the authors' own Lean function (tested against real Go, not proved from fmt's source: count such statements apart). THE CARD IS WHAT COUNTS. Prove the row's statement (the work); the ties are given (YtfclfnpihmhcjaaDoorTie.lean); close each card by the builder's one call (the guide's Derived/Test/ToyasCard.lean, 'card_holds'). Laid BY PROGRAM, IN A SANDBOX (cutbox-door.mjs). By AI agents, Wed Nov 11 2026. No macro, syntax, notation, axiom, sorry.
-/
import Derived.Test.YtfclfnpihmhcjaaDoorRows
import GoSem.ClaimSeven
namespace Go.Proofs.YtfclfnpihmhcjaaDoor
namespace Rows

/-- THE TIED CARD OF 'wigwaglaw05.FrameNames'. -/
def frameNamesCard : Claim7 := { stood := { row := frameNamesRow, standIns := [], harness := (true, "0af932781d631ec6309ac614fc16388e853ea07b11500c9c71507fb84789da2f"), looks := true }, kinds := [], alts := [], laidByText := true, laidKinds := [.data, .data], laidTests := true, laidLooks := .later }
def FrameNamesCardSaid : Prop := Claim7.holds Tryd.pinned (.plain (OpenSpec.ofChange frameNamesSpec)) frameNamesCard

/-- THE TIED CARD OF 'wigwaglaw05.FrameEncodes'. -/
def frameEncodesCard : Claim7 := { stood := { row := frameEncodesRow, standIns := [], harness := (true, "0af932781d631ec6309ac614fc16388e853ea07b11500c9c71507fb84789da2f"), looks := true }, kinds := [], alts := [], laidByText := true, laidKinds := [.data, .data], laidTests := true, laidLooks := .later }
def FrameEncodesCardSaid : Prop := Claim7.holds Tryd.pinned (.plain (OpenSpec.ofChange frameEncodesSpec)) frameEncodesCard

/-- THE TIED CARD OF 'wigwaglaw05.FrameParses'. -/
def frameParsesCard : Claim7 := { stood := { row := frameParsesRow, standIns := [], harness := (true, "0af932781d631ec6309ac614fc16388e853ea07b11500c9c71507fb84789da2f"), looks := true }, kinds := [], alts := [], laidByText := true, laidKinds := [.data, .data], laidTests := true, laidLooks := .later }
def FrameParsesCardSaid : Prop := Claim7.holds Tryd.pinned (.plain (OpenSpec.ofChange frameParsesSpec)) frameParsesCard

/-- THE TIED CARD OF 'wigwaglaw05.FrameBack'. -/
def frameBackCard : Claim7 := { stood := { row := frameBackRow, standIns := [], harness := (true, "0af932781d631ec6309ac614fc16388e853ea07b11500c9c71507fb84789da2f"), looks := true }, kinds := [], alts := [], laidByText := true, laidKinds := [.data, .data], laidTests := true, laidLooks := .later }
def FrameBackCardSaid : Prop := Claim7.holds Tryd.pinned (.plain (OpenSpec.ofChange frameBackSpec)) frameBackCard

/-- THE TIED CARD OF 'wigwaglaw05.FrameFine'. -/
def frameFineCard : Claim7 := { stood := { row := frameFineRow, standIns := [], harness := (true, "0af932781d631ec6309ac614fc16388e853ea07b11500c9c71507fb84789da2f"), looks := true }, kinds := [], alts := [], laidByText := true, laidKinds := [.data, .data], laidTests := true, laidLooks := .later }
def FrameFineCardSaid : Prop := Claim7.holds Tryd.pinned (.plain (OpenSpec.ofChange frameFineSpec)) frameFineCard

/-- THE TIED CARD OF 'wigwaglaw05.FrameSpans'. -/
def frameSpansCard : Claim7 := { stood := { row := frameSpansRow, standIns := [], harness := (true, "0af932781d631ec6309ac614fc16388e853ea07b11500c9c71507fb84789da2f"), looks := true }, kinds := [], alts := [], laidByText := true, laidKinds := [.data, .data], laidTests := true, laidLooks := .later }
def FrameSpansCardSaid : Prop := Claim7.holds Tryd.pinned (.plain (OpenSpec.ofChange frameSpansSpec)) frameSpansCard

/-- THE TIED CARD OF 'wigwaglaw05.FrameLists'. -/
def frameListsCard : Claim7 := { stood := { row := frameListsRow, standIns := [], harness := (true, "0af932781d631ec6309ac614fc16388e853ea07b11500c9c71507fb84789da2f"), looks := true }, kinds := [], alts := [], laidByText := true, laidKinds := [.data, .data], laidTests := true, laidLooks := .later }
def FrameListsCardSaid : Prop := Claim7.holds Tryd.pinned (.plain (OpenSpec.ofChange frameListsSpec)) frameListsCard

/-- THE TIED CARD OF 'wigwaglaw05.FrameZeros'. -/
def frameZerosCard : Claim7 := { stood := { row := frameZerosRow, standIns := [], harness := (true, "0af932781d631ec6309ac614fc16388e853ea07b11500c9c71507fb84789da2f"), looks := true }, kinds := [], alts := [], laidByText := true, laidKinds := [.data, .data], laidTests := true, laidLooks := .later }
def FrameZerosCardSaid : Prop := Claim7.holds Tryd.pinned (.plain (OpenSpec.ofChange frameZerosSpec)) frameZerosCard

/-- THE SECOND FORM's CARD OF 'wigwaglaw05.FrameNames'. -/
def frameNamesUptoCard : Claim7 := { stood := { row := frameNamesUptoRow, standIns := [], harness := (true, "0af932781d631ec6309ac614fc16388e853ea07b11500c9c71507fb84789da2f"), looks := true }, kinds := [], alts := [], laidByText := true, laidKinds := [.data, .data], laidTests := true, laidLooks := .later }
def FrameNamesUptoCardSaid : Prop := Claim7.holds Tryd.pinned (.plain (OpenSpec.upto frameNamesSpec)) frameNamesUptoCard

/-- THE SECOND FORM's CARD OF 'wigwaglaw05.FrameEncodes'. -/
def frameEncodesUptoCard : Claim7 := { stood := { row := frameEncodesUptoRow, standIns := [], harness := (true, "0af932781d631ec6309ac614fc16388e853ea07b11500c9c71507fb84789da2f"), looks := true }, kinds := [], alts := [], laidByText := true, laidKinds := [.data, .data], laidTests := true, laidLooks := .later }
def FrameEncodesUptoCardSaid : Prop := Claim7.holds Tryd.pinned (.plain (OpenSpec.upto frameEncodesSpec)) frameEncodesUptoCard

/-- THE SECOND FORM's CARD OF 'wigwaglaw05.FrameParses'. -/
def frameParsesUptoCard : Claim7 := { stood := { row := frameParsesUptoRow, standIns := [], harness := (true, "0af932781d631ec6309ac614fc16388e853ea07b11500c9c71507fb84789da2f"), looks := true }, kinds := [], alts := [], laidByText := true, laidKinds := [.data, .data], laidTests := true, laidLooks := .later }
def FrameParsesUptoCardSaid : Prop := Claim7.holds Tryd.pinned (.plain (OpenSpec.upto frameParsesSpec)) frameParsesUptoCard

/-- THE SECOND FORM's CARD OF 'wigwaglaw05.FrameBack'. -/
def frameBackUptoCard : Claim7 := { stood := { row := frameBackUptoRow, standIns := [], harness := (true, "0af932781d631ec6309ac614fc16388e853ea07b11500c9c71507fb84789da2f"), looks := true }, kinds := [], alts := [], laidByText := true, laidKinds := [.data, .data], laidTests := true, laidLooks := .later }
def FrameBackUptoCardSaid : Prop := Claim7.holds Tryd.pinned (.plain (OpenSpec.upto frameBackSpec)) frameBackUptoCard

/-- THE SECOND FORM's CARD OF 'wigwaglaw05.FrameFine'. -/
def frameFineUptoCard : Claim7 := { stood := { row := frameFineUptoRow, standIns := [], harness := (true, "0af932781d631ec6309ac614fc16388e853ea07b11500c9c71507fb84789da2f"), looks := true }, kinds := [], alts := [], laidByText := true, laidKinds := [.data, .data], laidTests := true, laidLooks := .later }
def FrameFineUptoCardSaid : Prop := Claim7.holds Tryd.pinned (.plain (OpenSpec.upto frameFineSpec)) frameFineUptoCard

/-- THE SECOND FORM's CARD OF 'wigwaglaw05.FrameSpans'. -/
def frameSpansUptoCard : Claim7 := { stood := { row := frameSpansUptoRow, standIns := [], harness := (true, "0af932781d631ec6309ac614fc16388e853ea07b11500c9c71507fb84789da2f"), looks := true }, kinds := [], alts := [], laidByText := true, laidKinds := [.data, .data], laidTests := true, laidLooks := .later }
def FrameSpansUptoCardSaid : Prop := Claim7.holds Tryd.pinned (.plain (OpenSpec.upto frameSpansSpec)) frameSpansUptoCard

/-- THE SECOND FORM's CARD OF 'wigwaglaw05.FrameLists'. -/
def frameListsUptoCard : Claim7 := { stood := { row := frameListsUptoRow, standIns := [], harness := (true, "0af932781d631ec6309ac614fc16388e853ea07b11500c9c71507fb84789da2f"), looks := true }, kinds := [], alts := [], laidByText := true, laidKinds := [.data, .data], laidTests := true, laidLooks := .later }
def FrameListsUptoCardSaid : Prop := Claim7.holds Tryd.pinned (.plain (OpenSpec.upto frameListsSpec)) frameListsUptoCard

/-- THE SECOND FORM's CARD OF 'wigwaglaw05.FrameZeros'. -/
def frameZerosUptoCard : Claim7 := { stood := { row := frameZerosUptoRow, standIns := [], harness := (true, "0af932781d631ec6309ac614fc16388e853ea07b11500c9c71507fb84789da2f"), looks := true }, kinds := [], alts := [], laidByText := true, laidKinds := [.data, .data], laidTests := true, laidLooks := .later }
def FrameZerosUptoCardSaid : Prop := Claim7.holds Tryd.pinned (.plain (OpenSpec.upto frameZerosSpec)) frameZerosUptoCard
end Rows
end Go.Proofs.YtfclfnpihmhcjaaDoor

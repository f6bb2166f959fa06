/-
  DERIVED. GIVEN WITH THE SEED: THE CARDS: each row of YtjojnbeflongkaaDoorRows.lean that lists a variable, with what it lists TIED to the program's text (the seventh form; the later family's looks); each row that meets fmt, with fmt's text TOLD by the authors' own Lean function (tested against real Go, not proved from fmt's source: count such statements apart). THE CARD IS WHAT COUNTS. Prove the row's statement (the work); the ties are given (YtjojnbeflongkaaDoorTie.lean); close each card by the builder's one call (the guide's Derived/Test/ToyasCard.lean, 'card_holds'). Laid BY PROGRAM, IN A SANDBOX (cutbox-door.mjs). By AI agents, Wed Nov 11 2026. No macro, syntax, notation, axiom, sorry.
-/
import Derived.Test.YtjojnbeflongkaaDoorRows
import GoSem.ClaimSeven
namespace Go.Proofs.YtjojnbeflongkaaDoor
namespace Rows

/-- THE TIED CARD OF 'wigwaglaw13.ProbeNames'. -/
def probeNamesCard : Claim7 := { stood := { row := probeNamesRow, standIns := [], harness := (true, "0cfa15146e02506e26c00cdb08a8114b329d7ab63ab7622119cae80ce9231d0a"), looks := false }, kinds := [], alts := [], laidByText := true, laidKinds := [.data], laidTests := true, laidLooks := .later }
def ProbeNamesCardSaid : Prop := Claim7.holds Tryd.pinned (.plain (OpenSpec.ofChange probeNamesSpec)) probeNamesCard

/-- THE TIED CARD OF 'wigwaglaw13.ProbeTells'. -/
def probeTellsCard : Claim7 := { stood := { row := probeTellsRow, standIns := [], harness := (true, "0cfa15146e02506e26c00cdb08a8114b329d7ab63ab7622119cae80ce9231d0a"), looks := false }, kinds := [], alts := [], laidByText := true, laidKinds := [.data], laidTests := true, laidLooks := .later }
def ProbeTellsCardSaid : Prop := Claim7.holds Tryd.pinned (.plain (OpenSpec.ofChange probeTellsSpec)) probeTellsCard

/-- THE TIED CARD OF 'wigwaglaw13.ProbeHolds'. -/
def probeHoldsCard : Claim7 := { stood := { row := probeHoldsRow, standIns := [], harness := (true, "0cfa15146e02506e26c00cdb08a8114b329d7ab63ab7622119cae80ce9231d0a"), looks := false }, kinds := [], alts := [], laidByText := true, laidKinds := [.data], laidTests := true, laidLooks := .later }
def ProbeHoldsCardSaid : Prop := Claim7.holds Tryd.pinned (.plain (OpenSpec.ofChange probeHoldsSpec)) probeHoldsCard

/-- THE TIED CARD OF 'wigwaglaw13.ProbeLows'. -/
def probeLowsCard : Claim7 := { stood := { row := probeLowsRow, standIns := [], harness := (true, "0cfa15146e02506e26c00cdb08a8114b329d7ab63ab7622119cae80ce9231d0a"), looks := false }, kinds := [], alts := [], laidByText := true, laidKinds := [.data], laidTests := true, laidLooks := .later }
def ProbeLowsCardSaid : Prop := Claim7.holds Tryd.pinned (.plain (OpenSpec.ofChange probeLowsSpec)) probeLowsCard

/-- THE TIED CARD OF 'wigwaglaw13.ProbeQuiet'. -/
def probeQuietCard : Claim7 := { stood := { row := probeQuietRow, standIns := [], harness := (true, "0cfa15146e02506e26c00cdb08a8114b329d7ab63ab7622119cae80ce9231d0a"), looks := false }, kinds := [], alts := [], laidByText := true, laidKinds := [.data], laidTests := true, laidLooks := .later }
def ProbeQuietCardSaid : Prop := Claim7.holds Tryd.pinned (.plain (OpenSpec.ofChange probeQuietSpec)) probeQuietCard

/-- THE TIED CARD OF 'wigwaglaw13.ProbeDrains'. -/
def probeDrainsCard : Claim7 := { stood := { row := probeDrainsRow, standIns := [], harness := (true, "0cfa15146e02506e26c00cdb08a8114b329d7ab63ab7622119cae80ce9231d0a"), looks := false }, kinds := [], alts := [], laidByText := true, laidKinds := [.data], laidTests := true, laidLooks := .later }
def ProbeDrainsCardSaid : Prop := Claim7.holds Tryd.pinned (.plain (OpenSpec.ofChange probeDrainsSpec)) probeDrainsCard

/-- THE SECOND FORM's CARD OF 'wigwaglaw13.ProbeNames'. -/
def probeNamesUptoCard : Claim7 := { stood := { row := probeNamesUptoRow, standIns := [], harness := (true, "0cfa15146e02506e26c00cdb08a8114b329d7ab63ab7622119cae80ce9231d0a"), looks := false }, kinds := [], alts := [], laidByText := true, laidKinds := [.data], laidTests := true, laidLooks := .later }
def ProbeNamesUptoCardSaid : Prop := Claim7.holds Tryd.pinned (.plain (OpenSpec.upto probeNamesSpec)) probeNamesUptoCard

/-- THE SECOND FORM's CARD OF 'wigwaglaw13.ProbeTells'. -/
def probeTellsUptoCard : Claim7 := { stood := { row := probeTellsUptoRow, standIns := [], harness := (true, "0cfa15146e02506e26c00cdb08a8114b329d7ab63ab7622119cae80ce9231d0a"), looks := false }, kinds := [], alts := [], laidByText := true, laidKinds := [.data], laidTests := true, laidLooks := .later }
def ProbeTellsUptoCardSaid : Prop := Claim7.holds Tryd.pinned (.plain (OpenSpec.upto probeTellsSpec)) probeTellsUptoCard

/-- THE SECOND FORM's CARD OF 'wigwaglaw13.ProbeHolds'. -/
def probeHoldsUptoCard : Claim7 := { stood := { row := probeHoldsUptoRow, standIns := [], harness := (true, "0cfa15146e02506e26c00cdb08a8114b329d7ab63ab7622119cae80ce9231d0a"), looks := false }, kinds := [], alts := [], laidByText := true, laidKinds := [.data], laidTests := true, laidLooks := .later }
def ProbeHoldsUptoCardSaid : Prop := Claim7.holds Tryd.pinned (.plain (OpenSpec.upto probeHoldsSpec)) probeHoldsUptoCard

/-- THE SECOND FORM's CARD OF 'wigwaglaw13.ProbeLows'. -/
def probeLowsUptoCard : Claim7 := { stood := { row := probeLowsUptoRow, standIns := [], harness := (true, "0cfa15146e02506e26c00cdb08a8114b329d7ab63ab7622119cae80ce9231d0a"), looks := false }, kinds := [], alts := [], laidByText := true, laidKinds := [.data], laidTests := true, laidLooks := .later }
def ProbeLowsUptoCardSaid : Prop := Claim7.holds Tryd.pinned (.plain (OpenSpec.upto probeLowsSpec)) probeLowsUptoCard

/-- THE SECOND FORM's CARD OF 'wigwaglaw13.ProbeQuiet'. -/
def probeQuietUptoCard : Claim7 := { stood := { row := probeQuietUptoRow, standIns := [], harness := (true, "0cfa15146e02506e26c00cdb08a8114b329d7ab63ab7622119cae80ce9231d0a"), looks := false }, kinds := [], alts := [], laidByText := true, laidKinds := [.data], laidTests := true, laidLooks := .later }
def ProbeQuietUptoCardSaid : Prop := Claim7.holds Tryd.pinned (.plain (OpenSpec.upto probeQuietSpec)) probeQuietUptoCard

/-- THE SECOND FORM's CARD OF 'wigwaglaw13.ProbeDrains'. -/
def probeDrainsUptoCard : Claim7 := { stood := { row := probeDrainsUptoRow, standIns := [], harness := (true, "0cfa15146e02506e26c00cdb08a8114b329d7ab63ab7622119cae80ce9231d0a"), looks := false }, kinds := [], alts := [], laidByText := true, laidKinds := [.data], laidTests := true, laidLooks := .later }
def ProbeDrainsUptoCardSaid : Prop := Claim7.holds Tryd.pinned (.plain (OpenSpec.upto probeDrainsSpec)) probeDrainsUptoCard
end Rows
end Go.Proofs.YtjojnbeflongkaaDoor

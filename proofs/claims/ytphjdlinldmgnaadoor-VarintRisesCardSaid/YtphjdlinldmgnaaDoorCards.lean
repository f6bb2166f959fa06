/-
  DERIVED. GIVEN WITH THE SEED: THE CARDS: each row of YtphjdlinldmgnaaDoorRows.lean that lists a variable, with what it lists TIED to the program's text (the seventh form; the later family's looks); each row that meets fmt, with fmt's text TOLD by the authors' own Lean function (tested against real Go, not proved from fmt's source: count such statements apart). THE CARD IS WHAT COUNTS. Prove the row's statement (the work); the ties are given (YtphjdlinldmgnaaDoorTie.lean); close each card by the builder's one call (the guide's Derived/Test/ToyasCard.lean, 'card_holds'). Laid BY PROGRAM, IN A SANDBOX (cutbox-door.mjs). By AI agents, Wed Nov 11 2026. No macro, syntax, notation, axiom, sorry.
-/
import Derived.Test.YtphjdlinldmgnaaDoorRows
import GoSem.ClaimSeven
namespace Go.Proofs.YtphjdlinldmgnaaDoor
namespace Rows

/-- THE TIED CARD OF 'wigwaglaw03.VarintNames'. -/
def varintNamesCard : Claim7 := { stood := { row := varintNamesRow, standIns := [], harness := (true, "c6a13142a35a782391a3892c23b8891977bad80e44468b0d5c8d40cffa60ecdf"), looks := false }, kinds := [], alts := [], laidByText := true, laidKinds := [.data], laidTests := true, laidLooks := .later }
def VarintNamesCardSaid : Prop := Claim7.holds Tryd.pinned (.plain (OpenSpec.ofChange varintNamesSpec)) varintNamesCard

/-- THE TIED CARD OF 'wigwaglaw03.VarintTells'. -/
def varintTellsCard : Claim7 := { stood := { row := varintTellsRow, standIns := [], harness := (true, "c6a13142a35a782391a3892c23b8891977bad80e44468b0d5c8d40cffa60ecdf"), looks := false }, kinds := [], alts := [], laidByText := true, laidKinds := [.data], laidTests := true, laidLooks := .later }
def VarintTellsCardSaid : Prop := Claim7.holds Tryd.pinned (.plain (OpenSpec.ofChange varintTellsSpec)) varintTellsCard

/-- THE TIED CARD OF 'wigwaglaw03.VarintBack'. -/
def varintBackCard : Claim7 := { stood := { row := varintBackRow, standIns := [], harness := (true, "c6a13142a35a782391a3892c23b8891977bad80e44468b0d5c8d40cffa60ecdf"), looks := false }, kinds := [], alts := [], laidByText := true, laidKinds := [.data], laidTests := true, laidLooks := .later }
def VarintBackCardSaid : Prop := Claim7.holds Tryd.pinned (.plain (OpenSpec.ofChange varintBackSpec)) varintBackCard

/-- THE TIED CARD OF 'wigwaglaw03.VarintShort'. -/
def varintShortCard : Claim7 := { stood := { row := varintShortRow, standIns := [], harness := (true, "c6a13142a35a782391a3892c23b8891977bad80e44468b0d5c8d40cffa60ecdf"), looks := false }, kinds := [], alts := [], laidByText := true, laidKinds := [.data], laidTests := true, laidLooks := .later }
def VarintShortCardSaid : Prop := Claim7.holds Tryd.pinned (.plain (OpenSpec.ofChange varintShortSpec)) varintShortCard

/-- THE TIED CARD OF 'wigwaglaw03.VarintRises'. -/
def varintRisesCard : Claim7 := { stood := { row := varintRisesRow, standIns := [], harness := (true, "c6a13142a35a782391a3892c23b8891977bad80e44468b0d5c8d40cffa60ecdf"), looks := false }, kinds := [], alts := [], laidByText := true, laidKinds := [.data], laidTests := true, laidLooks := .later }
def VarintRisesCardSaid : Prop := Claim7.holds Tryd.pinned (.plain (OpenSpec.ofChange varintRisesSpec)) varintRisesCard

/-- THE TIED CARD OF 'wigwaglaw03.VarintMany'. -/
def varintManyCard : Claim7 := { stood := { row := varintManyRow, standIns := [], harness := (true, "c6a13142a35a782391a3892c23b8891977bad80e44468b0d5c8d40cffa60ecdf"), looks := false }, kinds := [], alts := [], laidByText := true, laidKinds := [.data], laidTests := true, laidLooks := .later }
def VarintManyCardSaid : Prop := Claim7.holds Tryd.pinned (.plain (OpenSpec.ofChange varintManySpec)) varintManyCard

/-- THE SECOND FORM's CARD OF 'wigwaglaw03.VarintNames'. -/
def varintNamesUptoCard : Claim7 := { stood := { row := varintNamesUptoRow, standIns := [], harness := (true, "c6a13142a35a782391a3892c23b8891977bad80e44468b0d5c8d40cffa60ecdf"), looks := false }, kinds := [], alts := [], laidByText := true, laidKinds := [.data], laidTests := true, laidLooks := .later }
def VarintNamesUptoCardSaid : Prop := Claim7.holds Tryd.pinned (.plain (OpenSpec.upto varintNamesSpec)) varintNamesUptoCard

/-- THE SECOND FORM's CARD OF 'wigwaglaw03.VarintTells'. -/
def varintTellsUptoCard : Claim7 := { stood := { row := varintTellsUptoRow, standIns := [], harness := (true, "c6a13142a35a782391a3892c23b8891977bad80e44468b0d5c8d40cffa60ecdf"), looks := false }, kinds := [], alts := [], laidByText := true, laidKinds := [.data], laidTests := true, laidLooks := .later }
def VarintTellsUptoCardSaid : Prop := Claim7.holds Tryd.pinned (.plain (OpenSpec.upto varintTellsSpec)) varintTellsUptoCard

/-- THE SECOND FORM's CARD OF 'wigwaglaw03.VarintBack'. -/
def varintBackUptoCard : Claim7 := { stood := { row := varintBackUptoRow, standIns := [], harness := (true, "c6a13142a35a782391a3892c23b8891977bad80e44468b0d5c8d40cffa60ecdf"), looks := false }, kinds := [], alts := [], laidByText := true, laidKinds := [.data], laidTests := true, laidLooks := .later }
def VarintBackUptoCardSaid : Prop := Claim7.holds Tryd.pinned (.plain (OpenSpec.upto varintBackSpec)) varintBackUptoCard

/-- THE SECOND FORM's CARD OF 'wigwaglaw03.VarintShort'. -/
def varintShortUptoCard : Claim7 := { stood := { row := varintShortUptoRow, standIns := [], harness := (true, "c6a13142a35a782391a3892c23b8891977bad80e44468b0d5c8d40cffa60ecdf"), looks := false }, kinds := [], alts := [], laidByText := true, laidKinds := [.data], laidTests := true, laidLooks := .later }
def VarintShortUptoCardSaid : Prop := Claim7.holds Tryd.pinned (.plain (OpenSpec.upto varintShortSpec)) varintShortUptoCard

/-- THE SECOND FORM's CARD OF 'wigwaglaw03.VarintRises'. -/
def varintRisesUptoCard : Claim7 := { stood := { row := varintRisesUptoRow, standIns := [], harness := (true, "c6a13142a35a782391a3892c23b8891977bad80e44468b0d5c8d40cffa60ecdf"), looks := false }, kinds := [], alts := [], laidByText := true, laidKinds := [.data], laidTests := true, laidLooks := .later }
def VarintRisesUptoCardSaid : Prop := Claim7.holds Tryd.pinned (.plain (OpenSpec.upto varintRisesSpec)) varintRisesUptoCard

/-- THE SECOND FORM's CARD OF 'wigwaglaw03.VarintMany'. -/
def varintManyUptoCard : Claim7 := { stood := { row := varintManyUptoRow, standIns := [], harness := (true, "c6a13142a35a782391a3892c23b8891977bad80e44468b0d5c8d40cffa60ecdf"), looks := false }, kinds := [], alts := [], laidByText := true, laidKinds := [.data], laidTests := true, laidLooks := .later }
def VarintManyUptoCardSaid : Prop := Claim7.holds Tryd.pinned (.plain (OpenSpec.upto varintManySpec)) varintManyUptoCard
end Rows
end Go.Proofs.YtphjdlinldmgnaaDoor

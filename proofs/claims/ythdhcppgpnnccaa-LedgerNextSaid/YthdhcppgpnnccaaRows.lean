/-
  No cell of these rows narrows 'for every input' (looked for: loops, veiled, ifaces, maps, wideKeys, modest, calm, conditions, laid).
  DERIVED. THE GIVEN ROWS OF THIS SEAT. 7 by the template 'for every input the law returns true; each argument reads behind the call as it read before'; 0 by the template 'total and deterministic' (their statements: YthdhcppgpnnccaaTotals.lean).
  GIVEN WITH THE SEED: the statements are not yours to turn. If you find one false, say at which input.
  Laid BY PROGRAM, IN A SANDBOX (cutbox-rows.mjs): the forced cells as the released guide's own fill.sh prints them over the translation d7a62a940d6fa63e… (all of the seat's roots in one cut). By AI agents, Wed Nov 11 2026. No macro, syntax, notation, axiom, sorry.
-/
import Derived.Test.YthdhcppgpnnccaaChecked
import GoSem.Claim
import GoSem.ClaimJoined
import GoSem.ClaimMapViews
import Derived.JoinedTies
import Derived.KernelRfl
namespace Go.Proofs.Ythdhcppgpnnccaa
/- THE CELL 'sum', in the pinned program and in every row, IS THE sha256 OF THE DUMP (.gsa) THAT YthdhcppgpnnccaaProg.lean LOADS. Nothing in Lean hashes anything: it is a label: what it is worth is what the hold of that sum in a sandbox is worth. -/
noncomputable def Try.pinned : Pinned := { name := "ythdhcppgpnnccaa", sum := "d7a62a940d6fa63eed094791786b80428c9f672d4ac4e0283674451d6018aa4b", checked := Try.checked }
namespace Rows
def none {H : Type} : Left H := { results := [], args := [] }

/-- 'wigwaglaw09.LedgerTakes': WHATEVER THE INPUT: true; the input reads as it did. -/
def ledgerTakesSpec : ChangeSpec := { name := "ledgerTakes", fn := fun _ => fun
  | [d1, d2] => { results := [.lit (.bool true)], args := [d1, d2] }
  | _ => none }
def ledgerTakesRow : OpenClaim := { program := "ythdhcppgpnnccaa", sum := "d7a62a940d6fa63eed094791786b80428c9f672d4ac4e0283674451d6018aa4b", func := "wigwag/wigwaglaw09.LedgerTakes", spec := "ledgerTakes", inPlace := ["math/bits.Add64"], unfollowed := true, recurses := true, apart := false }
def LedgerTakesSaid : Prop := ledgerTakesRow.holds Try.pinned (OpenSpec.ofChange ledgerTakesSpec)

/-- ITS FALSE NEIGHBOUR: 'it returns false'. Refute it at one input. -/
def ledgerTakesWrong : ChangeSpec := { name := "ledgerTakes", fn := fun _ => fun
  | [d1, d2] => { results := [.lit (.bool false)], args := [d1, d2] }
  | _ => none }
def LedgerTakesWrongFalsely : Prop := ledgerTakesRow.holds Try.pinned (OpenSpec.ofChange ledgerTakesWrong)

/-- 'wigwaglaw09.LedgerLoses': WHATEVER THE INPUT: true; the input reads as it did. -/
def ledgerLosesSpec : ChangeSpec := { name := "ledgerLoses", fn := fun _ => fun
  | [d1, d2, d3, d4, d5] => { results := [.lit (.bool true)], args := [d1, d2, d3, d4, d5] }
  | _ => none }
def ledgerLosesRow : OpenClaim := { program := "ythdhcppgpnnccaa", sum := "d7a62a940d6fa63eed094791786b80428c9f672d4ac4e0283674451d6018aa4b", func := "wigwag/wigwaglaw09.LedgerLoses", spec := "ledgerLoses", inPlace := ["math/bits.Add64"], unfollowed := true, recurses := true, apart := false }
def LedgerLosesSaid : Prop := ledgerLosesRow.holds Try.pinned (OpenSpec.ofChange ledgerLosesSpec)

/-- ITS FALSE NEIGHBOUR: 'it returns false'. Refute it at one input. -/
def ledgerLosesWrong : ChangeSpec := { name := "ledgerLoses", fn := fun _ => fun
  | [d1, d2, d3, d4, d5] => { results := [.lit (.bool false)], args := [d1, d2, d3, d4, d5] }
  | _ => none }
def LedgerLosesWrongFalsely : Prop := ledgerLosesRow.holds Try.pinned (OpenSpec.ofChange ledgerLosesWrong)

/-- 'wigwaglaw09.LedgerAll': WHATEVER THE INPUT: true; the input reads as it did. -/
def ledgerAllSpec : ChangeSpec := { name := "ledgerAll", fn := fun _ => fun
  | [d1, d2, d3, d4, d5] => { results := [.lit (.bool true)], args := [d1, d2, d3, d4, d5] }
  | _ => none }
def ledgerAllRow : OpenClaim := { program := "ythdhcppgpnnccaa", sum := "d7a62a940d6fa63eed094791786b80428c9f672d4ac4e0283674451d6018aa4b", func := "wigwag/wigwaglaw09.LedgerAll", spec := "ledgerAll", inPlace := ["math/bits.Add64"], unfollowed := true, recurses := true, apart := false }
def LedgerAllSaid : Prop := ledgerAllRow.holds Try.pinned (OpenSpec.ofChange ledgerAllSpec)

/-- ITS FALSE NEIGHBOUR: 'it returns false'. Refute it at one input. -/
def ledgerAllWrong : ChangeSpec := { name := "ledgerAll", fn := fun _ => fun
  | [d1, d2, d3, d4, d5] => { results := [.lit (.bool false)], args := [d1, d2, d3, d4, d5] }
  | _ => none }
def LedgerAllWrongFalsely : Prop := ledgerAllRow.holds Try.pinned (OpenSpec.ofChange ledgerAllWrong)

/-- 'wigwaglaw09.LedgerNext': WHATEVER THE INPUT: true; the input reads as it did. -/
def ledgerNextSpec : ChangeSpec := { name := "ledgerNext", fn := fun _ => fun
  | [d1, d2, d3, d4] => { results := [.lit (.bool true)], args := [d1, d2, d3, d4] }
  | _ => none }
def ledgerNextRow : OpenClaim := { program := "ythdhcppgpnnccaa", sum := "d7a62a940d6fa63eed094791786b80428c9f672d4ac4e0283674451d6018aa4b", func := "wigwag/wigwaglaw09.LedgerNext", spec := "ledgerNext", inPlace := ["math/bits.Add64"], unfollowed := true, recurses := true, apart := false }
def LedgerNextSaid : Prop := ledgerNextRow.holds Try.pinned (OpenSpec.ofChange ledgerNextSpec)

/-- ITS FALSE NEIGHBOUR: 'it returns false'. Refute it at one input. -/
def ledgerNextWrong : ChangeSpec := { name := "ledgerNext", fn := fun _ => fun
  | [d1, d2, d3, d4] => { results := [.lit (.bool false)], args := [d1, d2, d3, d4] }
  | _ => none }
def LedgerNextWrongFalsely : Prop := ledgerNextRow.holds Try.pinned (OpenSpec.ofChange ledgerNextWrong)

/-- 'wigwaglaw09.LedgerFar': WHATEVER THE INPUT: true; the input reads as it did. -/
def ledgerFarSpec : ChangeSpec := { name := "ledgerFar", fn := fun _ => fun
  | [d1, d2, d3] => { results := [.lit (.bool true)], args := [d1, d2, d3] }
  | _ => none }
def ledgerFarRow : OpenClaim := { program := "ythdhcppgpnnccaa", sum := "d7a62a940d6fa63eed094791786b80428c9f672d4ac4e0283674451d6018aa4b", func := "wigwag/wigwaglaw09.LedgerFar", spec := "ledgerFar", inPlace := ["math/bits.Add64"], unfollowed := true, recurses := true, apart := false }
def LedgerFarSaid : Prop := ledgerFarRow.holds Try.pinned (OpenSpec.ofChange ledgerFarSpec)

/-- ITS FALSE NEIGHBOUR: 'it returns false'. Refute it at one input. -/
def ledgerFarWrong : ChangeSpec := { name := "ledgerFar", fn := fun _ => fun
  | [d1, d2, d3] => { results := [.lit (.bool false)], args := [d1, d2, d3] }
  | _ => none }
def LedgerFarWrongFalsely : Prop := ledgerFarRow.holds Try.pinned (OpenSpec.ofChange ledgerFarWrong)

/-- 'wigwaglaw09.LedgerAgain': WHATEVER THE INPUT: true; the input reads as it did. -/
def ledgerAgainSpec : ChangeSpec := { name := "ledgerAgain", fn := fun _ => fun
  | [d1, d2, d3, d4, d5] => { results := [.lit (.bool true)], args := [d1, d2, d3, d4, d5] }
  | _ => none }
def ledgerAgainRow : OpenClaim := { program := "ythdhcppgpnnccaa", sum := "d7a62a940d6fa63eed094791786b80428c9f672d4ac4e0283674451d6018aa4b", func := "wigwag/wigwaglaw09.LedgerAgain", spec := "ledgerAgain", inPlace := ["math/bits.Add64"], unfollowed := true, recurses := true, apart := false }
def LedgerAgainSaid : Prop := ledgerAgainRow.holds Try.pinned (OpenSpec.ofChange ledgerAgainSpec)

/-- ITS FALSE NEIGHBOUR: 'it returns false'. Refute it at one input. -/
def ledgerAgainWrong : ChangeSpec := { name := "ledgerAgain", fn := fun _ => fun
  | [d1, d2, d3, d4, d5] => { results := [.lit (.bool false)], args := [d1, d2, d3, d4, d5] }
  | _ => none }
def LedgerAgainWrongFalsely : Prop := ledgerAgainRow.holds Try.pinned (OpenSpec.ofChange ledgerAgainWrong)

/-- 'wigwaglaw09.LedgerLater': WHATEVER THE INPUT: true; the input reads as it did. -/
def ledgerLaterSpec : ChangeSpec := { name := "ledgerLater", fn := fun _ => fun
  | [d1, d2, d3, d4, d5] => { results := [.lit (.bool true)], args := [d1, d2, d3, d4, d5] }
  | _ => none }
def ledgerLaterRow : OpenClaim := { program := "ythdhcppgpnnccaa", sum := "d7a62a940d6fa63eed094791786b80428c9f672d4ac4e0283674451d6018aa4b", func := "wigwag/wigwaglaw09.LedgerLater", spec := "ledgerLater", inPlace := ["math/bits.Add64"], unfollowed := true, recurses := true, apart := false }
def LedgerLaterSaid : Prop := ledgerLaterRow.holds Try.pinned (OpenSpec.ofChange ledgerLaterSpec)

/-- ITS FALSE NEIGHBOUR: 'it returns false'. Refute it at one input. -/
def ledgerLaterWrong : ChangeSpec := { name := "ledgerLater", fn := fun _ => fun
  | [d1, d2, d3, d4, d5] => { results := [.lit (.bool false)], args := [d1, d2, d3, d4, d5] }
  | _ => none }
def LedgerLaterWrongFalsely : Prop := ledgerLaterRow.holds Try.pinned (OpenSpec.ofChange ledgerLaterWrong)

/- THE SECOND FORM. 'bulk': how many values and letters a reading holds, each counted each time it is reached (what is shared counts as often as it is met; a slice's spare places count too). A statement '..UptoSaid' is the law's where the arguments, and the package variables that the reading takes, are together of bulk at most 1048576: NARROWER than '..Said'. Prove '..Said' where nothing that the law and all that it calls make is longer than what came in: it says more and counts as full. Else prove '..UptoSaid'. A law counts once. -/
mutual
def uptoBulk {H : Type} : DataW H → Nat
  | .lit (.string bytes) => bytes.length + 1
  | .lit _ => 1
  | .nil => 1
  | .ptr d => uptoBulk d + 1
  | .slice elems spare => uptoBulkAll elems + uptoBulkAll spare + 1
  | .agg parts => uptoBulkAll parts + 1
  | .iface _ d => uptoBulk d + 1
  | .map entries => uptoBulkEntries entries + 1
  | .held _ => 1
def uptoBulkAll {H : Type} : List (DataW H) → Nat
  | [] => 0
  | d :: r => uptoBulk d + uptoBulkAll r
def uptoBulkEntries {H : Type} : List (Lit × DataW H) → Nat
  | [] => 0
  | x :: r => uptoBulkEntry x + uptoBulkEntries r
def uptoBulkEntry {H : Type} : Lit × DataW H → Nat
  | (.string bytes, d) => bytes.length + uptoBulk d + 1
  | (_, d) => uptoBulk d + 1
 end
def uptoSmall : (H : Type) → List (DataW H) → Bool := fun _ ds => decide (uptoBulkAll ds ≤ 1048576)
def OpenSpec.upto (s : _root_.Go.ChangeSpec) : _root_.Go.OpenSpec := { _root_.Go.OpenSpec.ofChange s with cond := some uptoSmall }

/-- 'wigwaglaw09.LedgerTakes', WHERE WHAT IT READS IS OF BULK AT MOST 1048576: true; the input reads as it did. -/
def ledgerTakesUptoRow : OpenClaim := { program := "ythdhcppgpnnccaa", sum := "d7a62a940d6fa63eed094791786b80428c9f672d4ac4e0283674451d6018aa4b", func := "wigwag/wigwaglaw09.LedgerTakes", spec := "ledgerTakes", inPlace := ["math/bits.Add64"], unfollowed := true, recurses := true, apart := false, narrowed := true }
def LedgerTakesUptoSaid : Prop := ledgerTakesUptoRow.holds Try.pinned (OpenSpec.upto ledgerTakesSpec)

/-- 'wigwaglaw09.LedgerLoses', WHERE WHAT IT READS IS OF BULK AT MOST 1048576: true; the input reads as it did. -/
def ledgerLosesUptoRow : OpenClaim := { program := "ythdhcppgpnnccaa", sum := "d7a62a940d6fa63eed094791786b80428c9f672d4ac4e0283674451d6018aa4b", func := "wigwag/wigwaglaw09.LedgerLoses", spec := "ledgerLoses", inPlace := ["math/bits.Add64"], unfollowed := true, recurses := true, apart := false, narrowed := true }
def LedgerLosesUptoSaid : Prop := ledgerLosesUptoRow.holds Try.pinned (OpenSpec.upto ledgerLosesSpec)

/-- 'wigwaglaw09.LedgerAll', WHERE WHAT IT READS IS OF BULK AT MOST 1048576: true; the input reads as it did. -/
def ledgerAllUptoRow : OpenClaim := { program := "ythdhcppgpnnccaa", sum := "d7a62a940d6fa63eed094791786b80428c9f672d4ac4e0283674451d6018aa4b", func := "wigwag/wigwaglaw09.LedgerAll", spec := "ledgerAll", inPlace := ["math/bits.Add64"], unfollowed := true, recurses := true, apart := false, narrowed := true }
def LedgerAllUptoSaid : Prop := ledgerAllUptoRow.holds Try.pinned (OpenSpec.upto ledgerAllSpec)

/-- 'wigwaglaw09.LedgerNext', WHERE WHAT IT READS IS OF BULK AT MOST 1048576: true; the input reads as it did. -/
def ledgerNextUptoRow : OpenClaim := { program := "ythdhcppgpnnccaa", sum := "d7a62a940d6fa63eed094791786b80428c9f672d4ac4e0283674451d6018aa4b", func := "wigwag/wigwaglaw09.LedgerNext", spec := "ledgerNext", inPlace := ["math/bits.Add64"], unfollowed := true, recurses := true, apart := false, narrowed := true }
def LedgerNextUptoSaid : Prop := ledgerNextUptoRow.holds Try.pinned (OpenSpec.upto ledgerNextSpec)

/-- 'wigwaglaw09.LedgerFar', WHERE WHAT IT READS IS OF BULK AT MOST 1048576: true; the input reads as it did. -/
def ledgerFarUptoRow : OpenClaim := { program := "ythdhcppgpnnccaa", sum := "d7a62a940d6fa63eed094791786b80428c9f672d4ac4e0283674451d6018aa4b", func := "wigwag/wigwaglaw09.LedgerFar", spec := "ledgerFar", inPlace := ["math/bits.Add64"], unfollowed := true, recurses := true, apart := false, narrowed := true }
def LedgerFarUptoSaid : Prop := ledgerFarUptoRow.holds Try.pinned (OpenSpec.upto ledgerFarSpec)

/-- 'wigwaglaw09.LedgerAgain', WHERE WHAT IT READS IS OF BULK AT MOST 1048576: true; the input reads as it did. -/
def ledgerAgainUptoRow : OpenClaim := { program := "ythdhcppgpnnccaa", sum := "d7a62a940d6fa63eed094791786b80428c9f672d4ac4e0283674451d6018aa4b", func := "wigwag/wigwaglaw09.LedgerAgain", spec := "ledgerAgain", inPlace := ["math/bits.Add64"], unfollowed := true, recurses := true, apart := false, narrowed := true }
def LedgerAgainUptoSaid : Prop := ledgerAgainUptoRow.holds Try.pinned (OpenSpec.upto ledgerAgainSpec)

/-- 'wigwaglaw09.LedgerLater', WHERE WHAT IT READS IS OF BULK AT MOST 1048576: true; the input reads as it did. -/
def ledgerLaterUptoRow : OpenClaim := { program := "ythdhcppgpnnccaa", sum := "d7a62a940d6fa63eed094791786b80428c9f672d4ac4e0283674451d6018aa4b", func := "wigwag/wigwaglaw09.LedgerLater", spec := "ledgerLater", inPlace := ["math/bits.Add64"], unfollowed := true, recurses := true, apart := false, narrowed := true }
def LedgerLaterUptoSaid : Prop := ledgerLaterUptoRow.holds Try.pinned (OpenSpec.upto ledgerLaterSpec)

end Rows
end Go.Proofs.Ythdhcppgpnnccaa

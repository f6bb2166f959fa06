/-
  No cell of these rows narrows 'for every input' (looked for: loops, veiled, ifaces, maps, wideKeys, modest, calm, conditions, laid).
  DERIVED. THE GIVEN ROWS OF THIS SEAT. 7 by the template 'for every input the law returns true; each argument reads behind the call as it read before'; 0 by the template 'total and deterministic' (their statements: YtfifhllckhdkfaaTotals.lean).
  GIVEN WITH THE SEED: the statements are not yours to turn. If you find one false, say at which input.
  Laid BY PROGRAM, IN A SANDBOX (cutbox-rows.mjs): the forced cells as the released guide's own fill.sh prints them over the translation e3a5e299820d6581… (all of the seat's roots in one cut). By AI agents, Wed Nov 11 2026. No macro, syntax, notation, axiom, sorry.
-/
import Derived.Test.YtfifhllckhdkfaaChecked
import GoSem.Claim
import GoSem.ClaimJoined
import GoSem.ClaimMapViews
import Derived.JoinedTies
import Derived.KernelRfl
namespace Go.Proofs.Ytfifhllckhdkfaa
/- THE CELL 'sum', in the pinned program and in every row, IS THE sha256 OF THE DUMP (.gsa) THAT YtfifhllckhdkfaaProg.lean LOADS. Nothing in Lean hashes anything: it is a label: what it is worth is what the hold of that sum in a sandbox is worth. -/
noncomputable def Try.pinned : Pinned := { name := "ytfifhllckhdkfaa", sum := "e3a5e299820d658180bd9ec23f76aa51a2b87739f175ce40c811a765fc76e1ee", checked := Try.checked }
namespace Rows
def none {H : Type} : Left H := { results := [], args := [] }

/-- 'wigwaglaw10.RenoNames': WHATEVER THE INPUT: true; the input reads as it did. -/
def renoNamesSpec : ChangeSpec := { name := "renoNames", fn := fun _ => fun
  | [] => { results := [.lit (.bool true)], args := [] }
  | _ => none }
def renoNamesRow : OpenClaim := { program := "ytfifhllckhdkfaa", sum := "e3a5e299820d658180bd9ec23f76aa51a2b87739f175ce40c811a765fc76e1ee", func := "wigwag/wigwaglaw10.RenoNames", spec := "renoNames", inPlace := ["math/bits.Add64"], unfollowed := true, recurses := true, apart := false }
def RenoNamesSaid : Prop := renoNamesRow.holds Try.pinned (OpenSpec.ofChange renoNamesSpec)

/-- ITS FALSE NEIGHBOUR: 'it returns false'. Refute it at one input. -/
def renoNamesWrong : ChangeSpec := { name := "renoNames", fn := fun _ => fun
  | [] => { results := [.lit (.bool false)], args := [] }
  | _ => none }
def RenoNamesWrongFalsely : Prop := renoNamesRow.holds Try.pinned (OpenSpec.ofChange renoNamesWrong)

/-- 'wigwaglaw10.RenoTells': WHATEVER THE INPUT: true; the input reads as it did. -/
def renoTellsSpec : ChangeSpec := { name := "renoTells", fn := fun _ => fun
  | [d1, d2, d3, d4, d5] => { results := [.lit (.bool true)], args := [d1, d2, d3, d4, d5] }
  | _ => none }
def renoTellsRow : OpenClaim := { program := "ytfifhllckhdkfaa", sum := "e3a5e299820d658180bd9ec23f76aa51a2b87739f175ce40c811a765fc76e1ee", func := "wigwag/wigwaglaw10.RenoTells", spec := "renoTells", inPlace := ["math/bits.Add64"], unfollowed := true, recurses := true, apart := false }
def RenoTellsSaid : Prop := renoTellsRow.holds Try.pinned (OpenSpec.ofChange renoTellsSpec)

/-- ITS FALSE NEIGHBOUR: 'it returns false'. Refute it at one input. -/
def renoTellsWrong : ChangeSpec := { name := "renoTells", fn := fun _ => fun
  | [d1, d2, d3, d4, d5] => { results := [.lit (.bool false)], args := [d1, d2, d3, d4, d5] }
  | _ => none }
def RenoTellsWrongFalsely : Prop := renoTellsRow.holds Try.pinned (OpenSpec.ofChange renoTellsWrong)

/-- 'wigwaglaw10.RenoHolds': WHATEVER THE INPUT: true; the input reads as it did. -/
def renoHoldsSpec : ChangeSpec := { name := "renoHolds", fn := fun _ => fun
  | [d] => { results := [.lit (.bool true)], args := [d] }
  | _ => none }
def renoHoldsRow : OpenClaim := { program := "ytfifhllckhdkfaa", sum := "e3a5e299820d658180bd9ec23f76aa51a2b87739f175ce40c811a765fc76e1ee", func := "wigwag/wigwaglaw10.RenoHolds", spec := "renoHolds", inPlace := ["math/bits.Add64"], unfollowed := true, recurses := true, apart := false }
def RenoHoldsSaid : Prop := renoHoldsRow.holds Try.pinned (OpenSpec.ofChange renoHoldsSpec)

/-- ITS FALSE NEIGHBOUR: 'it returns false'. Refute it at one input. -/
def renoHoldsWrong : ChangeSpec := { name := "renoHolds", fn := fun _ => fun
  | [d] => { results := [.lit (.bool false)], args := [d] }
  | _ => none }
def RenoHoldsWrongFalsely : Prop := renoHoldsRow.holds Try.pinned (OpenSpec.ofChange renoHoldsWrong)

/-- 'wigwaglaw10.RenoOnce': WHATEVER THE INPUT: true; the input reads as it did. -/
def renoOnceSpec : ChangeSpec := { name := "renoOnce", fn := fun _ => fun
  | [d1, d2, d3, d4, d5] => { results := [.lit (.bool true)], args := [d1, d2, d3, d4, d5] }
  | _ => none }
def renoOnceRow : OpenClaim := { program := "ytfifhllckhdkfaa", sum := "e3a5e299820d658180bd9ec23f76aa51a2b87739f175ce40c811a765fc76e1ee", func := "wigwag/wigwaglaw10.RenoOnce", spec := "renoOnce", inPlace := ["math/bits.Add64"], unfollowed := true, recurses := true, apart := false }
def RenoOnceSaid : Prop := renoOnceRow.holds Try.pinned (OpenSpec.ofChange renoOnceSpec)

/-- ITS FALSE NEIGHBOUR: 'it returns false'. Refute it at one input. -/
def renoOnceWrong : ChangeSpec := { name := "renoOnce", fn := fun _ => fun
  | [d1, d2, d3, d4, d5] => { results := [.lit (.bool false)], args := [d1, d2, d3, d4, d5] }
  | _ => none }
def RenoOnceWrongFalsely : Prop := renoOnceRow.holds Try.pinned (OpenSpec.ofChange renoOnceWrong)

/-- 'wigwaglaw10.RenoRound': WHATEVER THE INPUT: true; the input reads as it did. -/
def renoRoundSpec : ChangeSpec := { name := "renoRound", fn := fun _ => fun
  | [d1, d2] => { results := [.lit (.bool true)], args := [d1, d2] }
  | _ => none }
def renoRoundRow : OpenClaim := { program := "ytfifhllckhdkfaa", sum := "e3a5e299820d658180bd9ec23f76aa51a2b87739f175ce40c811a765fc76e1ee", func := "wigwag/wigwaglaw10.RenoRound", spec := "renoRound", inPlace := ["math/bits.Add64"], unfollowed := true, recurses := true, apart := false }
def RenoRoundSaid : Prop := renoRoundRow.holds Try.pinned (OpenSpec.ofChange renoRoundSpec)

/-- ITS FALSE NEIGHBOUR: 'it returns false'. Refute it at one input. -/
def renoRoundWrong : ChangeSpec := { name := "renoRound", fn := fun _ => fun
  | [d1, d2] => { results := [.lit (.bool false)], args := [d1, d2] }
  | _ => none }
def RenoRoundWrongFalsely : Prop := renoRoundRow.holds Try.pinned (OpenSpec.ofChange renoRoundWrong)

/-- 'wigwaglaw10.RenoSlow': WHATEVER THE INPUT: true; the input reads as it did. -/
def renoSlowSpec : ChangeSpec := { name := "renoSlow", fn := fun _ => fun
  | [d] => { results := [.lit (.bool true)], args := [d] }
  | _ => none }
def renoSlowRow : OpenClaim := { program := "ytfifhllckhdkfaa", sum := "e3a5e299820d658180bd9ec23f76aa51a2b87739f175ce40c811a765fc76e1ee", func := "wigwag/wigwaglaw10.RenoSlow", spec := "renoSlow", inPlace := ["math/bits.Add64"], unfollowed := true, recurses := true, apart := false }
def RenoSlowSaid : Prop := renoSlowRow.holds Try.pinned (OpenSpec.ofChange renoSlowSpec)

/-- ITS FALSE NEIGHBOUR: 'it returns false'. Refute it at one input. -/
def renoSlowWrong : ChangeSpec := { name := "renoSlow", fn := fun _ => fun
  | [d] => { results := [.lit (.bool false)], args := [d] }
  | _ => none }
def RenoSlowWrongFalsely : Prop := renoSlowRow.holds Try.pinned (OpenSpec.ofChange renoSlowWrong)

/-- 'wigwaglaw10.RenoFalls': WHATEVER THE INPUT: true; the input reads as it did. -/
def renoFallsSpec : ChangeSpec := { name := "renoFalls", fn := fun _ => fun
  | [d] => { results := [.lit (.bool true)], args := [d] }
  | _ => none }
def renoFallsRow : OpenClaim := { program := "ytfifhllckhdkfaa", sum := "e3a5e299820d658180bd9ec23f76aa51a2b87739f175ce40c811a765fc76e1ee", func := "wigwag/wigwaglaw10.RenoFalls", spec := "renoFalls", inPlace := ["math/bits.Add64"], unfollowed := true, recurses := true, apart := false }
def RenoFallsSaid : Prop := renoFallsRow.holds Try.pinned (OpenSpec.ofChange renoFallsSpec)

/-- ITS FALSE NEIGHBOUR: 'it returns false'. Refute it at one input. -/
def renoFallsWrong : ChangeSpec := { name := "renoFalls", fn := fun _ => fun
  | [d] => { results := [.lit (.bool false)], args := [d] }
  | _ => none }
def RenoFallsWrongFalsely : Prop := renoFallsRow.holds Try.pinned (OpenSpec.ofChange renoFallsWrong)

/- THE SECOND FORM. 'bulk': how many values and letters a reading holds, each counted each time it is reached (what is shared counts as often as it is met; a slice's spare places count too). A statement '..UptoSaid' is the law's where the arguments, and the package variables that the reading takes, are together of bulk at most 1048576: NARROWER than '..Said'. Prove '..Said' where nothing that the law and all that it calls make is longer than what came in: it says more and counts as full. Else prove '..UptoSaid'. A law counts once. -/
mutual
def uptoBulk {H : Type} : DataW H → Nat
  | .lit (.string bytes) => bytes.length + 1
  | .lit _ => 1
  | .nil => 1
  | .ptr d => uptoBulk d + 1
  | .slice elems spare => uptoBulkAll elems + uptoBulkAll spare + 1
  | .agg parts => uptoBulkAll parts + 1
  | .iface _ d => uptoBulk d + 1
  | .map entries => uptoBulkEntries entries + 1
  | .held _ => 1
def uptoBulkAll {H : Type} : List (DataW H) → Nat
  | [] => 0
  | d :: r => uptoBulk d + uptoBulkAll r
def uptoBulkEntries {H : Type} : List (Lit × DataW H) → Nat
  | [] => 0
  | x :: r => uptoBulkEntry x + uptoBulkEntries r
def uptoBulkEntry {H : Type} : Lit × DataW H → Nat
  | (.string bytes, d) => bytes.length + uptoBulk d + 1
  | (_, d) => uptoBulk d + 1
 end
def uptoSmall : (H : Type) → List (DataW H) → Bool := fun _ ds => decide (uptoBulkAll ds ≤ 1048576)
def OpenSpec.upto (s : _root_.Go.ChangeSpec) : _root_.Go.OpenSpec := { _root_.Go.OpenSpec.ofChange s with cond := some uptoSmall }

/-- 'wigwaglaw10.RenoNames', WHERE WHAT IT READS IS OF BULK AT MOST 1048576: true; the input reads as it did. -/
def renoNamesUptoRow : OpenClaim := { program := "ytfifhllckhdkfaa", sum := "e3a5e299820d658180bd9ec23f76aa51a2b87739f175ce40c811a765fc76e1ee", func := "wigwag/wigwaglaw10.RenoNames", spec := "renoNames", inPlace := ["math/bits.Add64"], unfollowed := true, recurses := true, apart := false, narrowed := true }
def RenoNamesUptoSaid : Prop := renoNamesUptoRow.holds Try.pinned (OpenSpec.upto renoNamesSpec)

/-- 'wigwaglaw10.RenoTells', WHERE WHAT IT READS IS OF BULK AT MOST 1048576: true; the input reads as it did. -/
def renoTellsUptoRow : OpenClaim := { program := "ytfifhllckhdkfaa", sum := "e3a5e299820d658180bd9ec23f76aa51a2b87739f175ce40c811a765fc76e1ee", func := "wigwag/wigwaglaw10.RenoTells", spec := "renoTells", inPlace := ["math/bits.Add64"], unfollowed := true, recurses := true, apart := false, narrowed := true }
def RenoTellsUptoSaid : Prop := renoTellsUptoRow.holds Try.pinned (OpenSpec.upto renoTellsSpec)

/-- 'wigwaglaw10.RenoHolds', WHERE WHAT IT READS IS OF BULK AT MOST 1048576: true; the input reads as it did. -/
def renoHoldsUptoRow : OpenClaim := { program := "ytfifhllckhdkfaa", sum := "e3a5e299820d658180bd9ec23f76aa51a2b87739f175ce40c811a765fc76e1ee", func := "wigwag/wigwaglaw10.RenoHolds", spec := "renoHolds", inPlace := ["math/bits.Add64"], unfollowed := true, recurses := true, apart := false, narrowed := true }
def RenoHoldsUptoSaid : Prop := renoHoldsUptoRow.holds Try.pinned (OpenSpec.upto renoHoldsSpec)

/-- 'wigwaglaw10.RenoOnce', WHERE WHAT IT READS IS OF BULK AT MOST 1048576: true; the input reads as it did. -/
def renoOnceUptoRow : OpenClaim := { program := "ytfifhllckhdkfaa", sum := "e3a5e299820d658180bd9ec23f76aa51a2b87739f175ce40c811a765fc76e1ee", func := "wigwag/wigwaglaw10.RenoOnce", spec := "renoOnce", inPlace := ["math/bits.Add64"], unfollowed := true, recurses := true, apart := false, narrowed := true }
def RenoOnceUptoSaid : Prop := renoOnceUptoRow.holds Try.pinned (OpenSpec.upto renoOnceSpec)

/-- 'wigwaglaw10.RenoRound', WHERE WHAT IT READS IS OF BULK AT MOST 1048576: true; the input reads as it did. -/
def renoRoundUptoRow : OpenClaim := { program := "ytfifhllckhdkfaa", sum := "e3a5e299820d658180bd9ec23f76aa51a2b87739f175ce40c811a765fc76e1ee", func := "wigwag/wigwaglaw10.RenoRound", spec := "renoRound", inPlace := ["math/bits.Add64"], unfollowed := true, recurses := true, apart := false, narrowed := true }
def RenoRoundUptoSaid : Prop := renoRoundUptoRow.holds Try.pinned (OpenSpec.upto renoRoundSpec)

/-- 'wigwaglaw10.RenoSlow', WHERE WHAT IT READS IS OF BULK AT MOST 1048576: true; the input reads as it did. -/
def renoSlowUptoRow : OpenClaim := { program := "ytfifhllckhdkfaa", sum := "e3a5e299820d658180bd9ec23f76aa51a2b87739f175ce40c811a765fc76e1ee", func := "wigwag/wigwaglaw10.RenoSlow", spec := "renoSlow", inPlace := ["math/bits.Add64"], unfollowed := true, recurses := true, apart := false, narrowed := true }
def RenoSlowUptoSaid : Prop := renoSlowUptoRow.holds Try.pinned (OpenSpec.upto renoSlowSpec)

/-- 'wigwaglaw10.RenoFalls', WHERE WHAT IT READS IS OF BULK AT MOST 1048576: true; the input reads as it did. -/
def renoFallsUptoRow : OpenClaim := { program := "ytfifhllckhdkfaa", sum := "e3a5e299820d658180bd9ec23f76aa51a2b87739f175ce40c811a765fc76e1ee", func := "wigwag/wigwaglaw10.RenoFalls", spec := "renoFalls", inPlace := ["math/bits.Add64"], unfollowed := true, recurses := true, apart := false, narrowed := true }
def RenoFallsUptoSaid : Prop := renoFallsUptoRow.holds Try.pinned (OpenSpec.upto renoFallsSpec)

end Rows
end Go.Proofs.Ytfifhllckhdkfaa

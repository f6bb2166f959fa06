/-
  No cell of these rows narrows 'for every input' (looked for: loops, veiled, ifaces, maps, wideKeys, modest, calm, conditions, laid).
  DERIVED. THE GIVEN ROWS OF THIS SEAT. 5 by the template 'for every input the law returns true; each argument reads behind the call as it read before'; 0 by the template 'total and deterministic' (their statements: YtpdmepblmjjeeaaTotals.lean).
  GIVEN WITH THE SEED: the statements are not yours to turn. If you find one false, say at which input.
  Laid BY PROGRAM, IN A SANDBOX (cutbox-rows.mjs): the forced cells as the released guide's own fill.sh prints them over the translation 15460e01d62795a3… (all of the seat's roots in one cut). By AI agents, Wed Nov 11 2026. No macro, syntax, notation, axiom, sorry.
-/
import Derived.Test.YtpdmepblmjjeeaaChecked
import GoSem.Claim
import GoSem.ClaimJoined
import GoSem.ClaimMapViews
import Derived.JoinedTies
import Derived.KernelRfl
namespace Go.Proofs.Ytpdmepblmjjeeaa
/- THE CELL 'sum', in the pinned program and in every row, IS THE sha256 OF THE DUMP (.gsa) THAT YtpdmepblmjjeeaaProg.lean LOADS. Nothing in Lean hashes anything: it is a label: what it is worth is what the hold of that sum in a sandbox is worth. -/
noncomputable def Try.pinned : Pinned := { name := "ytpdmepblmjjeeaa", sum := "15460e01d62795a3896427e0937e40606d1db2a292b0c07ace0386742c372277", checked := Try.checked }
namespace Rows
def none {H : Type} : Left H := { results := [], args := [] }

/-- 'wigwaglaw14.PragueTells': WHATEVER THE INPUT: true; the input reads as it did. -/
def pragueTellsSpec : ChangeSpec := { name := "pragueTells", fn := fun _ => fun
  | [d1, d2, d3, d4, d5] => { results := [.lit (.bool true)], args := [d1, d2, d3, d4, d5] }
  | _ => none }
def pragueTellsRow : OpenClaim := { program := "ytpdmepblmjjeeaa", sum := "15460e01d62795a3896427e0937e40606d1db2a292b0c07ace0386742c372277", func := "wigwag/wigwaglaw14.PragueTells", spec := "pragueTells", inPlace := ["math/bits.Add64"], unfollowed := true, recurses := true, named := ["math/bits.divideError", "math/bits.overflowError"], apart := false }
def PragueTellsSaid : Prop := pragueTellsRow.holds Try.pinned (OpenSpec.ofChange pragueTellsSpec)

/-- ITS FALSE NEIGHBOUR: 'it returns false'. Refute it at one input. -/
def pragueTellsWrong : ChangeSpec := { name := "pragueTells", fn := fun _ => fun
  | [d1, d2, d3, d4, d5] => { results := [.lit (.bool false)], args := [d1, d2, d3, d4, d5] }
  | _ => none }
def PragueTellsWrongFalsely : Prop := pragueTellsRow.holds Try.pinned (OpenSpec.ofChange pragueTellsWrong)

/-- 'wigwaglaw14.PragueHolds': WHATEVER THE INPUT: true; the input reads as it did. -/
def pragueHoldsSpec : ChangeSpec := { name := "pragueHolds", fn := fun _ => fun
  | [d1, d2] => { results := [.lit (.bool true)], args := [d1, d2] }
  | _ => none }
def pragueHoldsRow : OpenClaim := { program := "ytpdmepblmjjeeaa", sum := "15460e01d62795a3896427e0937e40606d1db2a292b0c07ace0386742c372277", func := "wigwag/wigwaglaw14.PragueHolds", spec := "pragueHolds", inPlace := ["math/bits.Add64"], unfollowed := true, recurses := true, named := ["math/bits.divideError", "math/bits.overflowError"], apart := false }
def PragueHoldsSaid : Prop := pragueHoldsRow.holds Try.pinned (OpenSpec.ofChange pragueHoldsSpec)

/-- ITS FALSE NEIGHBOUR: 'it returns false'. Refute it at one input. -/
def pragueHoldsWrong : ChangeSpec := { name := "pragueHolds", fn := fun _ => fun
  | [d1, d2] => { results := [.lit (.bool false)], args := [d1, d2] }
  | _ => none }
def PragueHoldsWrongFalsely : Prop := pragueHoldsRow.holds Try.pinned (OpenSpec.ofChange pragueHoldsWrong)

/-- 'wigwaglaw14.PragueCalm': WHATEVER THE INPUT: true; the input reads as it did. -/
def pragueCalmSpec : ChangeSpec := { name := "pragueCalm", fn := fun _ => fun
  | [d1, d2] => { results := [.lit (.bool true)], args := [d1, d2] }
  | _ => none }
def pragueCalmRow : OpenClaim := { program := "ytpdmepblmjjeeaa", sum := "15460e01d62795a3896427e0937e40606d1db2a292b0c07ace0386742c372277", func := "wigwag/wigwaglaw14.PragueCalm", spec := "pragueCalm", inPlace := ["math/bits.Add64"], unfollowed := true, recurses := true, named := ["math/bits.divideError", "math/bits.overflowError"], apart := false }
def PragueCalmSaid : Prop := pragueCalmRow.holds Try.pinned (OpenSpec.ofChange pragueCalmSpec)

/-- ITS FALSE NEIGHBOUR: 'it returns false'. Refute it at one input. -/
def pragueCalmWrong : ChangeSpec := { name := "pragueCalm", fn := fun _ => fun
  | [d1, d2] => { results := [.lit (.bool false)], args := [d1, d2] }
  | _ => none }
def PragueCalmWrongFalsely : Prop := pragueCalmRow.holds Try.pinned (OpenSpec.ofChange pragueCalmWrong)

/-- 'wigwaglaw14.PragueHalves': WHATEVER THE INPUT: true; the input reads as it did. -/
def pragueHalvesSpec : ChangeSpec := { name := "pragueHalves", fn := fun _ => fun
  | [d1, d2] => { results := [.lit (.bool true)], args := [d1, d2] }
  | _ => none }
def pragueHalvesRow : OpenClaim := { program := "ytpdmepblmjjeeaa", sum := "15460e01d62795a3896427e0937e40606d1db2a292b0c07ace0386742c372277", func := "wigwag/wigwaglaw14.PragueHalves", spec := "pragueHalves", inPlace := ["math/bits.Add64"], unfollowed := true, recurses := true, named := ["math/bits.divideError", "math/bits.overflowError"], apart := false }
def PragueHalvesSaid : Prop := pragueHalvesRow.holds Try.pinned (OpenSpec.ofChange pragueHalvesSpec)

/-- ITS FALSE NEIGHBOUR: 'it returns false'. Refute it at one input. -/
def pragueHalvesWrong : ChangeSpec := { name := "pragueHalves", fn := fun _ => fun
  | [d1, d2] => { results := [.lit (.bool false)], args := [d1, d2] }
  | _ => none }
def PragueHalvesWrongFalsely : Prop := pragueHalvesRow.holds Try.pinned (OpenSpec.ofChange pragueHalvesWrong)

/-- 'wigwaglaw14.PragueShare': WHATEVER THE INPUT: true; the input reads as it did. -/
def pragueShareSpec : ChangeSpec := { name := "pragueShare", fn := fun _ => fun
  | [d1, d2, d3] => { results := [.lit (.bool true)], args := [d1, d2, d3] }
  | _ => none }
def pragueShareRow : OpenClaim := { program := "ytpdmepblmjjeeaa", sum := "15460e01d62795a3896427e0937e40606d1db2a292b0c07ace0386742c372277", func := "wigwag/wigwaglaw14.PragueShare", spec := "pragueShare", inPlace := ["math/bits.Add64"], unfollowed := true, recurses := true, named := ["math/bits.divideError", "math/bits.overflowError"], apart := false }
def PragueShareSaid : Prop := pragueShareRow.holds Try.pinned (OpenSpec.ofChange pragueShareSpec)

/-- ITS FALSE NEIGHBOUR: 'it returns false'. Refute it at one input. -/
def pragueShareWrong : ChangeSpec := { name := "pragueShare", fn := fun _ => fun
  | [d1, d2, d3] => { results := [.lit (.bool false)], args := [d1, d2, d3] }
  | _ => none }
def PragueShareWrongFalsely : Prop := pragueShareRow.holds Try.pinned (OpenSpec.ofChange pragueShareWrong)

/- THE SECOND FORM. 'bulk': how many values and letters a reading holds, each counted each time it is reached (what is shared counts as often as it is met; a slice's spare places count too). A statement '..UptoSaid' is the law's where the arguments, and the package variables that the reading takes, are together of bulk at most 1048576: NARROWER than '..Said'. Prove '..Said' where nothing that the law and all that it calls make is longer than what came in: it says more and counts as full. Else prove '..UptoSaid'. A law counts once. -/
mutual
def uptoBulk {H : Type} : DataW H → Nat
  | .lit (.string bytes) => bytes.length + 1
  | .lit _ => 1
  | .nil => 1
  | .ptr d => uptoBulk d + 1
  | .slice elems spare => uptoBulkAll elems + uptoBulkAll spare + 1
  | .agg parts => uptoBulkAll parts + 1
  | .iface _ d => uptoBulk d + 1
  | .map entries => uptoBulkEntries entries + 1
  | .held _ => 1
def uptoBulkAll {H : Type} : List (DataW H) → Nat
  | [] => 0
  | d :: r => uptoBulk d + uptoBulkAll r
def uptoBulkEntries {H : Type} : List (Lit × DataW H) → Nat
  | [] => 0
  | x :: r => uptoBulkEntry x + uptoBulkEntries r
def uptoBulkEntry {H : Type} : Lit × DataW H → Nat
  | (.string bytes, d) => bytes.length + uptoBulk d + 1
  | (_, d) => uptoBulk d + 1
 end
def uptoSmall : (H : Type) → List (DataW H) → Bool := fun _ ds => decide (uptoBulkAll ds ≤ 1048576)
def OpenSpec.upto (s : _root_.Go.ChangeSpec) : _root_.Go.OpenSpec := { _root_.Go.OpenSpec.ofChange s with cond := some uptoSmall }

/-- 'wigwaglaw14.PragueTells', WHERE WHAT IT READS IS OF BULK AT MOST 1048576: true; the input reads as it did. -/
def pragueTellsUptoRow : OpenClaim := { program := "ytpdmepblmjjeeaa", sum := "15460e01d62795a3896427e0937e40606d1db2a292b0c07ace0386742c372277", func := "wigwag/wigwaglaw14.PragueTells", spec := "pragueTells", inPlace := ["math/bits.Add64"], unfollowed := true, recurses := true, named := ["math/bits.divideError", "math/bits.overflowError"], apart := false, narrowed := true }
def PragueTellsUptoSaid : Prop := pragueTellsUptoRow.holds Try.pinned (OpenSpec.upto pragueTellsSpec)

/-- 'wigwaglaw14.PragueHolds', WHERE WHAT IT READS IS OF BULK AT MOST 1048576: true; the input reads as it did. -/
def pragueHoldsUptoRow : OpenClaim := { program := "ytpdmepblmjjeeaa", sum := "15460e01d62795a3896427e0937e40606d1db2a292b0c07ace0386742c372277", func := "wigwag/wigwaglaw14.PragueHolds", spec := "pragueHolds", inPlace := ["math/bits.Add64"], unfollowed := true, recurses := true, named := ["math/bits.divideError", "math/bits.overflowError"], apart := false, narrowed := true }
def PragueHoldsUptoSaid : Prop := pragueHoldsUptoRow.holds Try.pinned (OpenSpec.upto pragueHoldsSpec)

/-- 'wigwaglaw14.PragueCalm', WHERE WHAT IT READS IS OF BULK AT MOST 1048576: true; the input reads as it did. -/
def pragueCalmUptoRow : OpenClaim := { program := "ytpdmepblmjjeeaa", sum := "15460e01d62795a3896427e0937e40606d1db2a292b0c07ace0386742c372277", func := "wigwag/wigwaglaw14.PragueCalm", spec := "pragueCalm", inPlace := ["math/bits.Add64"], unfollowed := true, recurses := true, named := ["math/bits.divideError", "math/bits.overflowError"], apart := false, narrowed := true }
def PragueCalmUptoSaid : Prop := pragueCalmUptoRow.holds Try.pinned (OpenSpec.upto pragueCalmSpec)

/-- 'wigwaglaw14.PragueHalves', WHERE WHAT IT READS IS OF BULK AT MOST 1048576: true; the input reads as it did. -/
def pragueHalvesUptoRow : OpenClaim := { program := "ytpdmepblmjjeeaa", sum := "15460e01d62795a3896427e0937e40606d1db2a292b0c07ace0386742c372277", func := "wigwag/wigwaglaw14.PragueHalves", spec := "pragueHalves", inPlace := ["math/bits.Add64"], unfollowed := true, recurses := true, named := ["math/bits.divideError", "math/bits.overflowError"], apart := false, narrowed := true }
def PragueHalvesUptoSaid : Prop := pragueHalvesUptoRow.holds Try.pinned (OpenSpec.upto pragueHalvesSpec)

/-- 'wigwaglaw14.PragueShare', WHERE WHAT IT READS IS OF BULK AT MOST 1048576: true; the input reads as it did. -/
def pragueShareUptoRow : OpenClaim := { program := "ytpdmepblmjjeeaa", sum := "15460e01d62795a3896427e0937e40606d1db2a292b0c07ace0386742c372277", func := "wigwag/wigwaglaw14.PragueShare", spec := "pragueShare", inPlace := ["math/bits.Add64"], unfollowed := true, recurses := true, named := ["math/bits.divideError", "math/bits.overflowError"], apart := false, narrowed := true }
def PragueShareUptoSaid : Prop := pragueShareUptoRow.holds Try.pinned (OpenSpec.upto pragueShareSpec)

end Rows
end Go.Proofs.Ytpdmepblmjjeeaa

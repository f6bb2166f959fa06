/-
  No cell of these rows narrows 'for every input' (looked for: loops, veiled, ifaces, maps, wideKeys, modest, calm, conditions, laid).
  DERIVED. THE GIVEN ROWS OF THIS SEAT. 5 by the template 'for every input the law returns true; each argument reads behind the call as it read before'; 0 by the template 'total and deterministic' (their statements: YteaodhgfmbcmfaaTotals.lean).
  GIVEN WITH THE SEED: the statements are not yours to turn. If you find one false, say at which input.
  Laid BY PROGRAM, IN A SANDBOX (cutbox-rows.mjs): the forced cells as the released guide's own fill.sh prints them over the translation 196bc2004407915c… (all of the seat's roots in one cut). By AI agents, Wed Nov 11 2026. No macro, syntax, notation, axiom, sorry.
-/
import Derived.Test.YteaodhgfmbcmfaaChecked
import GoSem.Claim
import GoSem.ClaimJoined
import GoSem.ClaimMapViews
import Derived.JoinedTies
import Derived.KernelRfl
namespace Go.Proofs.Yteaodhgfmbcmfaa
/- THE CELL 'sum', in the pinned program and in every row, IS THE sha256 OF THE DUMP (.gsa) THAT YteaodhgfmbcmfaaProg.lean LOADS. Nothing in Lean hashes anything: it is a label: what it is worth is what the hold of that sum in a sandbox is worth. -/
noncomputable def Try.pinned : Pinned := { name := "yteaodhgfmbcmfaa", sum := "196bc2004407915c0c8c6e1955d079afd7b24e5c78999ee17cd93a9f0badb0dd", checked := Try.checked }
namespace Rows
def none {H : Type} : Left H := { results := [], args := [] }

/-- 'wigwaglaw08.RttTells': WHATEVER THE INPUT: true; the input reads as it did. -/
def rttTellsSpec : ChangeSpec := { name := "rttTells", fn := fun _ => fun
  | [d1, d2, d3, d4, d5] => { results := [.lit (.bool true)], args := [d1, d2, d3, d4, d5] }
  | _ => none }
def rttTellsRow : OpenClaim := { program := "yteaodhgfmbcmfaa", sum := "196bc2004407915c0c8c6e1955d079afd7b24e5c78999ee17cd93a9f0badb0dd", func := "wigwag/wigwaglaw08.RttTells", spec := "rttTells", inPlace := ["math/bits.Add64"], unfollowed := true, recurses := true, apart := false }
def RttTellsSaid : Prop := rttTellsRow.holds Try.pinned (OpenSpec.ofChange rttTellsSpec)

/-- ITS FALSE NEIGHBOUR: 'it returns false'. Refute it at one input. -/
def rttTellsWrong : ChangeSpec := { name := "rttTells", fn := fun _ => fun
  | [d1, d2, d3, d4, d5] => { results := [.lit (.bool false)], args := [d1, d2, d3, d4, d5] }
  | _ => none }
def RttTellsWrongFalsely : Prop := rttTellsRow.holds Try.pinned (OpenSpec.ofChange rttTellsWrong)

/-- 'wigwaglaw08.RttLow': WHATEVER THE INPUT: true; the input reads as it did. -/
def rttLowSpec : ChangeSpec := { name := "rttLow", fn := fun _ => fun
  | [d1, d2, d3] => { results := [.lit (.bool true)], args := [d1, d2, d3] }
  | _ => none }
def rttLowRow : OpenClaim := { program := "yteaodhgfmbcmfaa", sum := "196bc2004407915c0c8c6e1955d079afd7b24e5c78999ee17cd93a9f0badb0dd", func := "wigwag/wigwaglaw08.RttLow", spec := "rttLow", inPlace := ["math/bits.Add64"], unfollowed := true, recurses := true, apart := false }
def RttLowSaid : Prop := rttLowRow.holds Try.pinned (OpenSpec.ofChange rttLowSpec)

/-- ITS FALSE NEIGHBOUR: 'it returns false'. Refute it at one input. -/
def rttLowWrong : ChangeSpec := { name := "rttLow", fn := fun _ => fun
  | [d1, d2, d3] => { results := [.lit (.bool false)], args := [d1, d2, d3] }
  | _ => none }
def RttLowWrongFalsely : Prop := rttLowRow.holds Try.pinned (OpenSpec.ofChange rttLowWrong)

/-- 'wigwaglaw08.RttStays': WHATEVER THE INPUT: true; the input reads as it did. -/
def rttStaysSpec : ChangeSpec := { name := "rttStays", fn := fun _ => fun
  | [d1, d2] => { results := [.lit (.bool true)], args := [d1, d2] }
  | _ => none }
def rttStaysRow : OpenClaim := { program := "yteaodhgfmbcmfaa", sum := "196bc2004407915c0c8c6e1955d079afd7b24e5c78999ee17cd93a9f0badb0dd", func := "wigwag/wigwaglaw08.RttStays", spec := "rttStays", inPlace := ["math/bits.Add64"], unfollowed := true, recurses := true, apart := false }
def RttStaysSaid : Prop := rttStaysRow.holds Try.pinned (OpenSpec.ofChange rttStaysSpec)

/-- ITS FALSE NEIGHBOUR: 'it returns false'. Refute it at one input. -/
def rttStaysWrong : ChangeSpec := { name := "rttStays", fn := fun _ => fun
  | [d1, d2] => { results := [.lit (.bool false)], args := [d1, d2] }
  | _ => none }
def RttStaysWrongFalsely : Prop := rttStaysRow.holds Try.pinned (OpenSpec.ofChange rttStaysWrong)

/-- 'wigwaglaw08.RttDoubles': WHATEVER THE INPUT: true; the input reads as it did. -/
def rttDoublesSpec : ChangeSpec := { name := "rttDoubles", fn := fun _ => fun
  | [d1, d2, d3] => { results := [.lit (.bool true)], args := [d1, d2, d3] }
  | _ => none }
def rttDoublesRow : OpenClaim := { program := "yteaodhgfmbcmfaa", sum := "196bc2004407915c0c8c6e1955d079afd7b24e5c78999ee17cd93a9f0badb0dd", func := "wigwag/wigwaglaw08.RttDoubles", spec := "rttDoubles", inPlace := ["math/bits.Add64"], unfollowed := true, recurses := true, apart := false }
def RttDoublesSaid : Prop := rttDoublesRow.holds Try.pinned (OpenSpec.ofChange rttDoublesSpec)

/-- ITS FALSE NEIGHBOUR: 'it returns false'. Refute it at one input. -/
def rttDoublesWrong : ChangeSpec := { name := "rttDoubles", fn := fun _ => fun
  | [d1, d2, d3] => { results := [.lit (.bool false)], args := [d1, d2, d3] }
  | _ => none }
def RttDoublesWrongFalsely : Prop := rttDoublesRow.holds Try.pinned (OpenSpec.ofChange rttDoublesWrong)

/-- 'wigwaglaw08.RttLong': WHATEVER THE INPUT: true; the input reads as it did. -/
def rttLongSpec : ChangeSpec := { name := "rttLong", fn := fun _ => fun
  | [d1, d2, d3, d4, d5] => { results := [.lit (.bool true)], args := [d1, d2, d3, d4, d5] }
  | _ => none }
def rttLongRow : OpenClaim := { program := "yteaodhgfmbcmfaa", sum := "196bc2004407915c0c8c6e1955d079afd7b24e5c78999ee17cd93a9f0badb0dd", func := "wigwag/wigwaglaw08.RttLong", spec := "rttLong", inPlace := ["math/bits.Add64"], unfollowed := true, recurses := true, apart := false }
def RttLongSaid : Prop := rttLongRow.holds Try.pinned (OpenSpec.ofChange rttLongSpec)

/-- ITS FALSE NEIGHBOUR: 'it returns false'. Refute it at one input. -/
def rttLongWrong : ChangeSpec := { name := "rttLong", fn := fun _ => fun
  | [d1, d2, d3, d4, d5] => { results := [.lit (.bool false)], args := [d1, d2, d3, d4, d5] }
  | _ => none }
def RttLongWrongFalsely : Prop := rttLongRow.holds Try.pinned (OpenSpec.ofChange rttLongWrong)

/- THE SECOND FORM. 'bulk': how many values and letters a reading holds, each counted each time it is reached (what is shared counts as often as it is met; a slice's spare places count too). A statement '..UptoSaid' is the law's where the arguments, and the package variables that the reading takes, are together of bulk at most 1048576: NARROWER than '..Said'. Prove '..Said' where nothing that the law and all that it calls make is longer than what came in: it says more and counts as full. Else prove '..UptoSaid'. A law counts once. -/
mutual
def uptoBulk {H : Type} : DataW H → Nat
  | .lit (.string bytes) => bytes.length + 1
  | .lit _ => 1
  | .nil => 1
  | .ptr d => uptoBulk d + 1
  | .slice elems spare => uptoBulkAll elems + uptoBulkAll spare + 1
  | .agg parts => uptoBulkAll parts + 1
  | .iface _ d => uptoBulk d + 1
  | .map entries => uptoBulkEntries entries + 1
  | .held _ => 1
def uptoBulkAll {H : Type} : List (DataW H) → Nat
  | [] => 0
  | d :: r => uptoBulk d + uptoBulkAll r
def uptoBulkEntries {H : Type} : List (Lit × DataW H) → Nat
  | [] => 0
  | x :: r => uptoBulkEntry x + uptoBulkEntries r
def uptoBulkEntry {H : Type} : Lit × DataW H → Nat
  | (.string bytes, d) => bytes.length + uptoBulk d + 1
  | (_, d) => uptoBulk d + 1
 end
def uptoSmall : (H : Type) → List (DataW H) → Bool := fun _ ds => decide (uptoBulkAll ds ≤ 1048576)
def OpenSpec.upto (s : _root_.Go.ChangeSpec) : _root_.Go.OpenSpec := { _root_.Go.OpenSpec.ofChange s with cond := some uptoSmall }

/-- 'wigwaglaw08.RttTells', WHERE WHAT IT READS IS OF BULK AT MOST 1048576: true; the input reads as it did. -/
def rttTellsUptoRow : OpenClaim := { program := "yteaodhgfmbcmfaa", sum := "196bc2004407915c0c8c6e1955d079afd7b24e5c78999ee17cd93a9f0badb0dd", func := "wigwag/wigwaglaw08.RttTells", spec := "rttTells", inPlace := ["math/bits.Add64"], unfollowed := true, recurses := true, apart := false, narrowed := true }
def RttTellsUptoSaid : Prop := rttTellsUptoRow.holds Try.pinned (OpenSpec.upto rttTellsSpec)

/-- 'wigwaglaw08.RttLow', WHERE WHAT IT READS IS OF BULK AT MOST 1048576: true; the input reads as it did. -/
def rttLowUptoRow : OpenClaim := { program := "yteaodhgfmbcmfaa", sum := "196bc2004407915c0c8c6e1955d079afd7b24e5c78999ee17cd93a9f0badb0dd", func := "wigwag/wigwaglaw08.RttLow", spec := "rttLow", inPlace := ["math/bits.Add64"], unfollowed := true, recurses := true, apart := false, narrowed := true }
def RttLowUptoSaid : Prop := rttLowUptoRow.holds Try.pinned (OpenSpec.upto rttLowSpec)

/-- 'wigwaglaw08.RttStays', WHERE WHAT IT READS IS OF BULK AT MOST 1048576: true; the input reads as it did. -/
def rttStaysUptoRow : OpenClaim := { program := "yteaodhgfmbcmfaa", sum := "196bc2004407915c0c8c6e1955d079afd7b24e5c78999ee17cd93a9f0badb0dd", func := "wigwag/wigwaglaw08.RttStays", spec := "rttStays", inPlace := ["math/bits.Add64"], unfollowed := true, recurses := true, apart := false, narrowed := true }
def RttStaysUptoSaid : Prop := rttStaysUptoRow.holds Try.pinned (OpenSpec.upto rttStaysSpec)

/-- 'wigwaglaw08.RttDoubles', WHERE WHAT IT READS IS OF BULK AT MOST 1048576: true; the input reads as it did. -/
def rttDoublesUptoRow : OpenClaim := { program := "yteaodhgfmbcmfaa", sum := "196bc2004407915c0c8c6e1955d079afd7b24e5c78999ee17cd93a9f0badb0dd", func := "wigwag/wigwaglaw08.RttDoubles", spec := "rttDoubles", inPlace := ["math/bits.Add64"], unfollowed := true, recurses := true, apart := false, narrowed := true }
def RttDoublesUptoSaid : Prop := rttDoublesUptoRow.holds Try.pinned (OpenSpec.upto rttDoublesSpec)

/-- 'wigwaglaw08.RttLong', WHERE WHAT IT READS IS OF BULK AT MOST 1048576: true; the input reads as it did. -/
def rttLongUptoRow : OpenClaim := { program := "yteaodhgfmbcmfaa", sum := "196bc2004407915c0c8c6e1955d079afd7b24e5c78999ee17cd93a9f0badb0dd", func := "wigwag/wigwaglaw08.RttLong", spec := "rttLong", inPlace := ["math/bits.Add64"], unfollowed := true, recurses := true, apart := false, narrowed := true }
def RttLongUptoSaid : Prop := rttLongUptoRow.holds Try.pinned (OpenSpec.upto rttLongSpec)

end Rows
end Go.Proofs.Yteaodhgfmbcmfaa

/-
  No cell of these rows narrows 'for every input' (looked for: loops, veiled, ifaces, maps, wideKeys, modest, calm, conditions, laid).
  DERIVED. THE GIVEN ROWS OF THIS SEAT. 5 by the template 'for every input the law returns true; each argument reads behind the call as it read before'; 0 by the template 'total and deterministic' (their statements: YtjnkmghlhihjkaaTotals.lean).
  GIVEN WITH THE SEED: the statements are not yours to turn. If you find one false, say at which input.
  Laid BY PROGRAM, IN A SANDBOX (cutbox-rows.mjs): the forced cells as the released guide's own fill.sh prints them over the translation 2e3caac1f9be62a0… (all of the seat's roots in one cut). By AI agents, Wed Nov 11 2026. No macro, syntax, notation, axiom, sorry.
-/
import Derived.Test.YtjnkmghlhihjkaaChecked
import GoSem.Claim
import GoSem.ClaimJoined
import GoSem.ClaimMapViews
import Derived.JoinedTies
import Derived.KernelRfl
namespace Go.Proofs.Ytjnkmghlhihjkaa
/- THE CELL 'sum', in the pinned program and in every row, IS THE sha256 OF THE DUMP (.gsa) THAT YtjnkmghlhihjkaaProg.lean LOADS. Nothing in Lean hashes anything: it is a label: what it is worth is what the hold of that sum in a sandbox is worth. -/
noncomputable def Try.pinned : Pinned := { name := "ytjnkmghlhihjkaa", sum := "2e3caac1f9be62a0515ff0e75e055dcdf80b3d93fd33f69b9698537b0f9d5b07", checked := Try.checked }
namespace Rows
def none {H : Type} : Left H := { results := [], args := [] }

/-- 'wigwaglaw12.CubicTells': WHATEVER THE INPUT: true; the input reads as it did. -/
def cubicTellsSpec : ChangeSpec := { name := "cubicTells", fn := fun _ => fun
  | [d1, d2, d3, d4, d5, d6] => { results := [.lit (.bool true)], args := [d1, d2, d3, d4, d5, d6] }
  | _ => none }
def cubicTellsRow : OpenClaim := { program := "ytjnkmghlhihjkaa", sum := "2e3caac1f9be62a0515ff0e75e055dcdf80b3d93fd33f69b9698537b0f9d5b07", func := "wigwag/wigwaglaw12.CubicTells", spec := "cubicTells", inPlace := ["math/bits.Add64"], unfollowed := true, recurses := true, named := ["math/bits.divideError", "math/bits.overflowError"], apart := false }
def CubicTellsSaid : Prop := cubicTellsRow.holds Try.pinned (OpenSpec.ofChange cubicTellsSpec)

/-- ITS FALSE NEIGHBOUR: 'it returns false'. Refute it at one input. -/
def cubicTellsWrong : ChangeSpec := { name := "cubicTells", fn := fun _ => fun
  | [d1, d2, d3, d4, d5, d6] => { results := [.lit (.bool false)], args := [d1, d2, d3, d4, d5, d6] }
  | _ => none }
def CubicTellsWrongFalsely : Prop := cubicTellsRow.holds Try.pinned (OpenSpec.ofChange cubicTellsWrong)

/-- 'wigwaglaw12.CubicHolds': WHATEVER THE INPUT: true; the input reads as it did. -/
def cubicHoldsSpec : ChangeSpec := { name := "cubicHolds", fn := fun _ => fun
  | [d] => { results := [.lit (.bool true)], args := [d] }
  | _ => none }
def cubicHoldsRow : OpenClaim := { program := "ytjnkmghlhihjkaa", sum := "2e3caac1f9be62a0515ff0e75e055dcdf80b3d93fd33f69b9698537b0f9d5b07", func := "wigwag/wigwaglaw12.CubicHolds", spec := "cubicHolds", inPlace := ["math/bits.Add64"], unfollowed := true, recurses := true, named := ["math/bits.divideError", "math/bits.overflowError"], apart := false }
def CubicHoldsSaid : Prop := cubicHoldsRow.holds Try.pinned (OpenSpec.ofChange cubicHoldsSpec)

/-- ITS FALSE NEIGHBOUR: 'it returns false'. Refute it at one input. -/
def cubicHoldsWrong : ChangeSpec := { name := "cubicHolds", fn := fun _ => fun
  | [d] => { results := [.lit (.bool false)], args := [d] }
  | _ => none }
def CubicHoldsWrongFalsely : Prop := cubicHoldsRow.holds Try.pinned (OpenSpec.ofChange cubicHoldsWrong)

/-- 'wigwaglaw12.CubicRises': WHATEVER THE INPUT: true; the input reads as it did. -/
def cubicRisesSpec : ChangeSpec := { name := "cubicRises", fn := fun _ => fun
  | [d1, d2, d3] => { results := [.lit (.bool true)], args := [d1, d2, d3] }
  | _ => none }
def cubicRisesRow : OpenClaim := { program := "ytjnkmghlhihjkaa", sum := "2e3caac1f9be62a0515ff0e75e055dcdf80b3d93fd33f69b9698537b0f9d5b07", func := "wigwag/wigwaglaw12.CubicRises", spec := "cubicRises", inPlace := ["math/bits.Add64"], unfollowed := true, recurses := true, named := ["math/bits.divideError", "math/bits.overflowError"], apart := false }
def CubicRisesSaid : Prop := cubicRisesRow.holds Try.pinned (OpenSpec.ofChange cubicRisesSpec)

/-- ITS FALSE NEIGHBOUR: 'it returns false'. Refute it at one input. -/
def cubicRisesWrong : ChangeSpec := { name := "cubicRises", fn := fun _ => fun
  | [d1, d2, d3] => { results := [.lit (.bool false)], args := [d1, d2, d3] }
  | _ => none }
def CubicRisesWrongFalsely : Prop := cubicRisesRow.holds Try.pinned (OpenSpec.ofChange cubicRisesWrong)

/-- 'wigwaglaw12.CubicOnce': WHATEVER THE INPUT: true; the input reads as it did. -/
def cubicOnceSpec : ChangeSpec := { name := "cubicOnce", fn := fun _ => fun
  | [d1, d2, d3, d4, d5] => { results := [.lit (.bool true)], args := [d1, d2, d3, d4, d5] }
  | _ => none }
def cubicOnceRow : OpenClaim := { program := "ytjnkmghlhihjkaa", sum := "2e3caac1f9be62a0515ff0e75e055dcdf80b3d93fd33f69b9698537b0f9d5b07", func := "wigwag/wigwaglaw12.CubicOnce", spec := "cubicOnce", inPlace := ["math/bits.Add64"], unfollowed := true, recurses := true, named := ["math/bits.divideError", "math/bits.overflowError"], apart := false }
def CubicOnceSaid : Prop := cubicOnceRow.holds Try.pinned (OpenSpec.ofChange cubicOnceSpec)

/-- ITS FALSE NEIGHBOUR: 'it returns false'. Refute it at one input. -/
def cubicOnceWrong : ChangeSpec := { name := "cubicOnce", fn := fun _ => fun
  | [d1, d2, d3, d4, d5] => { results := [.lit (.bool false)], args := [d1, d2, d3, d4, d5] }
  | _ => none }
def CubicOnceWrongFalsely : Prop := cubicOnceRow.holds Try.pinned (OpenSpec.ofChange cubicOnceWrong)

/-- 'wigwaglaw12.CubicPlateau': WHATEVER THE INPUT: true; the input reads as it did. -/
def cubicPlateauSpec : ChangeSpec := { name := "cubicPlateau", fn := fun _ => fun
  | [d1, d2, d3] => { results := [.lit (.bool true)], args := [d1, d2, d3] }
  | _ => none }
def cubicPlateauRow : OpenClaim := { program := "ytjnkmghlhihjkaa", sum := "2e3caac1f9be62a0515ff0e75e055dcdf80b3d93fd33f69b9698537b0f9d5b07", func := "wigwag/wigwaglaw12.CubicPlateau", spec := "cubicPlateau", inPlace := ["math/bits.Add64"], unfollowed := true, recurses := true, named := ["math/bits.divideError", "math/bits.overflowError"], apart := false }
def CubicPlateauSaid : Prop := cubicPlateauRow.holds Try.pinned (OpenSpec.ofChange cubicPlateauSpec)

/-- ITS FALSE NEIGHBOUR: 'it returns false'. Refute it at one input. -/
def cubicPlateauWrong : ChangeSpec := { name := "cubicPlateau", fn := fun _ => fun
  | [d1, d2, d3] => { results := [.lit (.bool false)], args := [d1, d2, d3] }
  | _ => none }
def CubicPlateauWrongFalsely : Prop := cubicPlateauRow.holds Try.pinned (OpenSpec.ofChange cubicPlateauWrong)

/- THE SECOND FORM. 'bulk': how many values and letters a reading holds, each counted each time it is reached (what is shared counts as often as it is met; a slice's spare places count too). A statement '..UptoSaid' is the law's where the arguments, and the package variables that the reading takes, are together of bulk at most 1048576: NARROWER than '..Said'. Prove '..Said' where nothing that the law and all that it calls make is longer than what came in: it says more and counts as full. Else prove '..UptoSaid'. A law counts once. -/
mutual
def uptoBulk {H : Type} : DataW H → Nat
  | .lit (.string bytes) => bytes.length + 1
  | .lit _ => 1
  | .nil => 1
  | .ptr d => uptoBulk d + 1
  | .slice elems spare => uptoBulkAll elems + uptoBulkAll spare + 1
  | .agg parts => uptoBulkAll parts + 1
  | .iface _ d => uptoBulk d + 1
  | .map entries => uptoBulkEntries entries + 1
  | .held _ => 1
def uptoBulkAll {H : Type} : List (DataW H) → Nat
  | [] => 0
  | d :: r => uptoBulk d + uptoBulkAll r
def uptoBulkEntries {H : Type} : List (Lit × DataW H) → Nat
  | [] => 0
  | x :: r => uptoBulkEntry x + uptoBulkEntries r
def uptoBulkEntry {H : Type} : Lit × DataW H → Nat
  | (.string bytes, d) => bytes.length + uptoBulk d + 1
  | (_, d) => uptoBulk d + 1
 end
def uptoSmall : (H : Type) → List (DataW H) → Bool := fun _ ds => decide (uptoBulkAll ds ≤ 1048576)
def OpenSpec.upto (s : _root_.Go.ChangeSpec) : _root_.Go.OpenSpec := { _root_.Go.OpenSpec.ofChange s with cond := some uptoSmall }

/-- 'wigwaglaw12.CubicTells', WHERE WHAT IT READS IS OF BULK AT MOST 1048576: true; the input reads as it did. -/
def cubicTellsUptoRow : OpenClaim := { program := "ytjnkmghlhihjkaa", sum := "2e3caac1f9be62a0515ff0e75e055dcdf80b3d93fd33f69b9698537b0f9d5b07", func := "wigwag/wigwaglaw12.CubicTells", spec := "cubicTells", inPlace := ["math/bits.Add64"], unfollowed := true, recurses := true, named := ["math/bits.divideError", "math/bits.overflowError"], apart := false, narrowed := true }
def CubicTellsUptoSaid : Prop := cubicTellsUptoRow.holds Try.pinned (OpenSpec.upto cubicTellsSpec)

/-- 'wigwaglaw12.CubicHolds', WHERE WHAT IT READS IS OF BULK AT MOST 1048576: true; the input reads as it did. -/
def cubicHoldsUptoRow : OpenClaim := { program := "ytjnkmghlhihjkaa", sum := "2e3caac1f9be62a0515ff0e75e055dcdf80b3d93fd33f69b9698537b0f9d5b07", func := "wigwag/wigwaglaw12.CubicHolds", spec := "cubicHolds", inPlace := ["math/bits.Add64"], unfollowed := true, recurses := true, named := ["math/bits.divideError", "math/bits.overflowError"], apart := false, narrowed := true }
def CubicHoldsUptoSaid : Prop := cubicHoldsUptoRow.holds Try.pinned (OpenSpec.upto cubicHoldsSpec)

/-- 'wigwaglaw12.CubicRises', WHERE WHAT IT READS IS OF BULK AT MOST 1048576: true; the input reads as it did. -/
def cubicRisesUptoRow : OpenClaim := { program := "ytjnkmghlhihjkaa", sum := "2e3caac1f9be62a0515ff0e75e055dcdf80b3d93fd33f69b9698537b0f9d5b07", func := "wigwag/wigwaglaw12.CubicRises", spec := "cubicRises", inPlace := ["math/bits.Add64"], unfollowed := true, recurses := true, named := ["math/bits.divideError", "math/bits.overflowError"], apart := false, narrowed := true }
def CubicRisesUptoSaid : Prop := cubicRisesUptoRow.holds Try.pinned (OpenSpec.upto cubicRisesSpec)

/-- 'wigwaglaw12.CubicOnce', WHERE WHAT IT READS IS OF BULK AT MOST 1048576: true; the input reads as it did. -/
def cubicOnceUptoRow : OpenClaim := { program := "ytjnkmghlhihjkaa", sum := "2e3caac1f9be62a0515ff0e75e055dcdf80b3d93fd33f69b9698537b0f9d5b07", func := "wigwag/wigwaglaw12.CubicOnce", spec := "cubicOnce", inPlace := ["math/bits.Add64"], unfollowed := true, recurses := true, named := ["math/bits.divideError", "math/bits.overflowError"], apart := false, narrowed := true }
def CubicOnceUptoSaid : Prop := cubicOnceUptoRow.holds Try.pinned (OpenSpec.upto cubicOnceSpec)

/-- 'wigwaglaw12.CubicPlateau', WHERE WHAT IT READS IS OF BULK AT MOST 1048576: true; the input reads as it did. -/
def cubicPlateauUptoRow : OpenClaim := { program := "ytjnkmghlhihjkaa", sum := "2e3caac1f9be62a0515ff0e75e055dcdf80b3d93fd33f69b9698537b0f9d5b07", func := "wigwag/wigwaglaw12.CubicPlateau", spec := "cubicPlateau", inPlace := ["math/bits.Add64"], unfollowed := true, recurses := true, named := ["math/bits.divideError", "math/bits.overflowError"], apart := false, narrowed := true }
def CubicPlateauUptoSaid : Prop := cubicPlateauUptoRow.holds Try.pinned (OpenSpec.upto cubicPlateauSpec)

end Rows
end Go.Proofs.Ytjnkmghlhihjkaa

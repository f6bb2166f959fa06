/-
  No cell of these rows narrows 'for every input' (looked for: loops, veiled, ifaces, maps, wideKeys, modest, calm, conditions, laid).
  DERIVED. THE GIVEN ROWS OF THIS SEAT. 6 by the template 'for every input the law returns true; each argument reads behind the call as it read before'; 0 by the template 'total and deterministic' (their statements: YtaiephdacioedaaTotals.lean).
  GIVEN WITH THE SEED: the statements are not yours to turn. If you find one false, say at which input.
  Laid BY PROGRAM, IN A SANDBOX (cutbox-rows.mjs): the forced cells as the released guide's own fill.sh prints them over the translation 8e6ef02b2227ad62… (all of the seat's roots in one cut). By AI agents, Wed Nov 11 2026. No macro, syntax, notation, axiom, sorry.
-/
import Derived.Test.YtaiephdacioedaaChecked
import GoSem.Claim
import GoSem.ClaimJoined
import GoSem.ClaimMapViews
import Derived.JoinedTies
import Derived.KernelRfl
namespace Go.Proofs.Ytaiephdacioedaa
/- THE CELL 'sum', in the pinned program and in every row, IS THE sha256 OF THE DUMP (.gsa) THAT YtaiephdacioedaaProg.lean LOADS. Nothing in Lean hashes anything: it is a label: what it is worth is what the hold of that sum in a sandbox is worth. -/
noncomputable def Try.pinned : Pinned := { name := "ytaiephdacioedaa", sum := "8e6ef02b2227ad625a0b78a5d74e84fd59650555ca1bb63dc9468892ad4a85f6", checked := Try.checked }
namespace Rows
def none {H : Type} : Left H := { results := [], args := [] }

/-- 'wigwaglaw11.HystartNames': WHATEVER THE INPUT: true; the input reads as it did. -/
def hystartNamesSpec : ChangeSpec := { name := "hystartNames", fn := fun _ => fun
  | [] => { results := [.lit (.bool true)], args := [] }
  | _ => none }
def hystartNamesRow : OpenClaim := { program := "ytaiephdacioedaa", sum := "8e6ef02b2227ad625a0b78a5d74e84fd59650555ca1bb63dc9468892ad4a85f6", func := "wigwag/wigwaglaw11.HystartNames", spec := "hystartNames", inPlace := ["math/bits.Add64"], unfollowed := true, recurses := true, apart := false }
def HystartNamesSaid : Prop := hystartNamesRow.holds Try.pinned (OpenSpec.ofChange hystartNamesSpec)

/-- ITS FALSE NEIGHBOUR: 'it returns false'. Refute it at one input. -/
def hystartNamesWrong : ChangeSpec := { name := "hystartNames", fn := fun _ => fun
  | [] => { results := [.lit (.bool false)], args := [] }
  | _ => none }
def HystartNamesWrongFalsely : Prop := hystartNamesRow.holds Try.pinned (OpenSpec.ofChange hystartNamesWrong)

/-- 'wigwaglaw11.HystartTells': WHATEVER THE INPUT: true; the input reads as it did. -/
def hystartTellsSpec : ChangeSpec := { name := "hystartTells", fn := fun _ => fun
  | [d1, d2, d3, d4, d5] => { results := [.lit (.bool true)], args := [d1, d2, d3, d4, d5] }
  | _ => none }
def hystartTellsRow : OpenClaim := { program := "ytaiephdacioedaa", sum := "8e6ef02b2227ad625a0b78a5d74e84fd59650555ca1bb63dc9468892ad4a85f6", func := "wigwag/wigwaglaw11.HystartTells", spec := "hystartTells", inPlace := ["math/bits.Add64"], unfollowed := true, recurses := true, apart := false }
def HystartTellsSaid : Prop := hystartTellsRow.holds Try.pinned (OpenSpec.ofChange hystartTellsSpec)

/-- ITS FALSE NEIGHBOUR: 'it returns false'. Refute it at one input. -/
def hystartTellsWrong : ChangeSpec := { name := "hystartTells", fn := fun _ => fun
  | [d1, d2, d3, d4, d5] => { results := [.lit (.bool false)], args := [d1, d2, d3, d4, d5] }
  | _ => none }
def HystartTellsWrongFalsely : Prop := hystartTellsRow.holds Try.pinned (OpenSpec.ofChange hystartTellsWrong)

/-- 'wigwaglaw11.HystartEnds': WHATEVER THE INPUT: true; the input reads as it did. -/
def hystartEndsSpec : ChangeSpec := { name := "hystartEnds", fn := fun _ => fun
  | [d1, d2] => { results := [.lit (.bool true)], args := [d1, d2] }
  | _ => none }
def hystartEndsRow : OpenClaim := { program := "ytaiephdacioedaa", sum := "8e6ef02b2227ad625a0b78a5d74e84fd59650555ca1bb63dc9468892ad4a85f6", func := "wigwag/wigwaglaw11.HystartEnds", spec := "hystartEnds", inPlace := ["math/bits.Add64"], unfollowed := true, recurses := true, apart := false }
def HystartEndsSaid : Prop := hystartEndsRow.holds Try.pinned (OpenSpec.ofChange hystartEndsSpec)

/-- ITS FALSE NEIGHBOUR: 'it returns false'. Refute it at one input. -/
def hystartEndsWrong : ChangeSpec := { name := "hystartEnds", fn := fun _ => fun
  | [d1, d2] => { results := [.lit (.bool false)], args := [d1, d2] }
  | _ => none }
def HystartEndsWrongFalsely : Prop := hystartEndsRow.holds Try.pinned (OpenSpec.ofChange hystartEndsWrong)

/-- 'wigwaglaw11.HystartFew': WHATEVER THE INPUT: true; the input reads as it did. -/
def hystartFewSpec : ChangeSpec := { name := "hystartFew", fn := fun _ => fun
  | [d1, d2, d3] => { results := [.lit (.bool true)], args := [d1, d2, d3] }
  | _ => none }
def hystartFewRow : OpenClaim := { program := "ytaiephdacioedaa", sum := "8e6ef02b2227ad625a0b78a5d74e84fd59650555ca1bb63dc9468892ad4a85f6", func := "wigwag/wigwaglaw11.HystartFew", spec := "hystartFew", inPlace := ["math/bits.Add64"], unfollowed := true, recurses := true, apart := false }
def HystartFewSaid : Prop := hystartFewRow.holds Try.pinned (OpenSpec.ofChange hystartFewSpec)

/-- ITS FALSE NEIGHBOUR: 'it returns false'. Refute it at one input. -/
def hystartFewWrong : ChangeSpec := { name := "hystartFew", fn := fun _ => fun
  | [d1, d2, d3] => { results := [.lit (.bool false)], args := [d1, d2, d3] }
  | _ => none }
def HystartFewWrongFalsely : Prop := hystartFewRow.holds Try.pinned (OpenSpec.ofChange hystartFewWrong)

/-- 'wigwaglaw11.HystartGrows': WHATEVER THE INPUT: true; the input reads as it did. -/
def hystartGrowsSpec : ChangeSpec := { name := "hystartGrows", fn := fun _ => fun
  | [d1, d2] => { results := [.lit (.bool true)], args := [d1, d2] }
  | _ => none }
def hystartGrowsRow : OpenClaim := { program := "ytaiephdacioedaa", sum := "8e6ef02b2227ad625a0b78a5d74e84fd59650555ca1bb63dc9468892ad4a85f6", func := "wigwag/wigwaglaw11.HystartGrows", spec := "hystartGrows", inPlace := ["math/bits.Add64"], unfollowed := true, recurses := true, apart := false }
def HystartGrowsSaid : Prop := hystartGrowsRow.holds Try.pinned (OpenSpec.ofChange hystartGrowsSpec)

/-- ITS FALSE NEIGHBOUR: 'it returns false'. Refute it at one input. -/
def hystartGrowsWrong : ChangeSpec := { name := "hystartGrows", fn := fun _ => fun
  | [d1, d2] => { results := [.lit (.bool false)], args := [d1, d2] }
  | _ => none }
def HystartGrowsWrongFalsely : Prop := hystartGrowsRow.holds Try.pinned (OpenSpec.ofChange hystartGrowsWrong)

/-- 'wigwaglaw11.HystartSteady': WHATEVER THE INPUT: true; the input reads as it did. -/
def hystartSteadySpec : ChangeSpec := { name := "hystartSteady", fn := fun _ => fun
  | [d1, d2, d3] => { results := [.lit (.bool true)], args := [d1, d2, d3] }
  | _ => none }
def hystartSteadyRow : OpenClaim := { program := "ytaiephdacioedaa", sum := "8e6ef02b2227ad625a0b78a5d74e84fd59650555ca1bb63dc9468892ad4a85f6", func := "wigwag/wigwaglaw11.HystartSteady", spec := "hystartSteady", inPlace := ["math/bits.Add64"], unfollowed := true, recurses := true, apart := false }
def HystartSteadySaid : Prop := hystartSteadyRow.holds Try.pinned (OpenSpec.ofChange hystartSteadySpec)

/-- ITS FALSE NEIGHBOUR: 'it returns false'. Refute it at one input. -/
def hystartSteadyWrong : ChangeSpec := { name := "hystartSteady", fn := fun _ => fun
  | [d1, d2, d3] => { results := [.lit (.bool false)], args := [d1, d2, d3] }
  | _ => none }
def HystartSteadyWrongFalsely : Prop := hystartSteadyRow.holds Try.pinned (OpenSpec.ofChange hystartSteadyWrong)

/- THE SECOND FORM. 'bulk': how many values and letters a reading holds, each counted each time it is reached (what is shared counts as often as it is met; a slice's spare places count too). A statement '..UptoSaid' is the law's where the arguments, and the package variables that the reading takes, are together of bulk at most 1048576: NARROWER than '..Said'. Prove '..Said' where nothing that the law and all that it calls make is longer than what came in: it says more and counts as full. Else prove '..UptoSaid'. A law counts once. -/
mutual
def uptoBulk {H : Type} : DataW H → Nat
  | .lit (.string bytes) => bytes.length + 1
  | .lit _ => 1
  | .nil => 1
  | .ptr d => uptoBulk d + 1
  | .slice elems spare => uptoBulkAll elems + uptoBulkAll spare + 1
  | .agg parts => uptoBulkAll parts + 1
  | .iface _ d => uptoBulk d + 1
  | .map entries => uptoBulkEntries entries + 1
  | .held _ => 1
def uptoBulkAll {H : Type} : List (DataW H) → Nat
  | [] => 0
  | d :: r => uptoBulk d + uptoBulkAll r
def uptoBulkEntries {H : Type} : List (Lit × DataW H) → Nat
  | [] => 0
  | x :: r => uptoBulkEntry x + uptoBulkEntries r
def uptoBulkEntry {H : Type} : Lit × DataW H → Nat
  | (.string bytes, d) => bytes.length + uptoBulk d + 1
  | (_, d) => uptoBulk d + 1
 end
def uptoSmall : (H : Type) → List (DataW H) → Bool := fun _ ds => decide (uptoBulkAll ds ≤ 1048576)
def OpenSpec.upto (s : _root_.Go.ChangeSpec) : _root_.Go.OpenSpec := { _root_.Go.OpenSpec.ofChange s with cond := some uptoSmall }

/-- 'wigwaglaw11.HystartNames', WHERE WHAT IT READS IS OF BULK AT MOST 1048576: true; the input reads as it did. -/
def hystartNamesUptoRow : OpenClaim := { program := "ytaiephdacioedaa", sum := "8e6ef02b2227ad625a0b78a5d74e84fd59650555ca1bb63dc9468892ad4a85f6", func := "wigwag/wigwaglaw11.HystartNames", spec := "hystartNames", inPlace := ["math/bits.Add64"], unfollowed := true, recurses := true, apart := false, narrowed := true }
def HystartNamesUptoSaid : Prop := hystartNamesUptoRow.holds Try.pinned (OpenSpec.upto hystartNamesSpec)

/-- 'wigwaglaw11.HystartTells', WHERE WHAT IT READS IS OF BULK AT MOST 1048576: true; the input reads as it did. -/
def hystartTellsUptoRow : OpenClaim := { program := "ytaiephdacioedaa", sum := "8e6ef02b2227ad625a0b78a5d74e84fd59650555ca1bb63dc9468892ad4a85f6", func := "wigwag/wigwaglaw11.HystartTells", spec := "hystartTells", inPlace := ["math/bits.Add64"], unfollowed := true, recurses := true, apart := false, narrowed := true }
def HystartTellsUptoSaid : Prop := hystartTellsUptoRow.holds Try.pinned (OpenSpec.upto hystartTellsSpec)

/-- 'wigwaglaw11.HystartEnds', WHERE WHAT IT READS IS OF BULK AT MOST 1048576: true; the input reads as it did. -/
def hystartEndsUptoRow : OpenClaim := { program := "ytaiephdacioedaa", sum := "8e6ef02b2227ad625a0b78a5d74e84fd59650555ca1bb63dc9468892ad4a85f6", func := "wigwag/wigwaglaw11.HystartEnds", spec := "hystartEnds", inPlace := ["math/bits.Add64"], unfollowed := true, recurses := true, apart := false, narrowed := true }
def HystartEndsUptoSaid : Prop := hystartEndsUptoRow.holds Try.pinned (OpenSpec.upto hystartEndsSpec)

/-- 'wigwaglaw11.HystartFew', WHERE WHAT IT READS IS OF BULK AT MOST 1048576: true; the input reads as it did. -/
def hystartFewUptoRow : OpenClaim := { program := "ytaiephdacioedaa", sum := "8e6ef02b2227ad625a0b78a5d74e84fd59650555ca1bb63dc9468892ad4a85f6", func := "wigwag/wigwaglaw11.HystartFew", spec := "hystartFew", inPlace := ["math/bits.Add64"], unfollowed := true, recurses := true, apart := false, narrowed := true }
def HystartFewUptoSaid : Prop := hystartFewUptoRow.holds Try.pinned (OpenSpec.upto hystartFewSpec)

/-- 'wigwaglaw11.HystartGrows', WHERE WHAT IT READS IS OF BULK AT MOST 1048576: true; the input reads as it did. -/
def hystartGrowsUptoRow : OpenClaim := { program := "ytaiephdacioedaa", sum := "8e6ef02b2227ad625a0b78a5d74e84fd59650555ca1bb63dc9468892ad4a85f6", func := "wigwag/wigwaglaw11.HystartGrows", spec := "hystartGrows", inPlace := ["math/bits.Add64"], unfollowed := true, recurses := true, apart := false, narrowed := true }
def HystartGrowsUptoSaid : Prop := hystartGrowsUptoRow.holds Try.pinned (OpenSpec.upto hystartGrowsSpec)

/-- 'wigwaglaw11.HystartSteady', WHERE WHAT IT READS IS OF BULK AT MOST 1048576: true; the input reads as it did. -/
def hystartSteadyUptoRow : OpenClaim := { program := "ytaiephdacioedaa", sum := "8e6ef02b2227ad625a0b78a5d74e84fd59650555ca1bb63dc9468892ad4a85f6", func := "wigwag/wigwaglaw11.HystartSteady", spec := "hystartSteady", inPlace := ["math/bits.Add64"], unfollowed := true, recurses := true, apart := false, narrowed := true }
def HystartSteadyUptoSaid : Prop := hystartSteadyUptoRow.holds Try.pinned (OpenSpec.upto hystartSteadySpec)

end Rows
end Go.Proofs.Ytaiephdacioedaa

/-
  NARROWER THAN 'FOR EVERY INPUT', by the rows' own cells (each row's printed sentence says how): ProbeNames: laid · ProbeTells: laid · ProbeHolds: laid · ProbeLows: laid · ProbeQuiet: laid · ProbeDrains: laid.
  DERIVED. THE GIVEN ROWS OF THIS SEAT. 6 by the template 'for every input the law returns true; each argument reads behind the call as it read before'; 0 by the template 'total and deterministic' (their statements: YtjojnbeflongkaaDoorTotals.lean).
  GIVEN WITH THE SEED: the statements are not yours to turn. If you find one false, say at which input.
  Laid BY PROGRAM, IN A SANDBOX (cutbox-rows.mjs): the forced cells as the released guide's own fill.sh prints them over the translation d38045236da3622e… (all of the seat's roots in one cut). By AI agents, Wed Nov 11 2026. No macro, syntax, notation, axiom, sorry.
-/
import Derived.Test.YtjojnbeflongkaaDoorChecked
import GoSem.Claim
import GoSem.ClaimJoined
import GoSem.ClaimMapViews
import Derived.JoinedTies
import Derived.KernelRfl
namespace Go.Proofs.YtjojnbeflongkaaDoor
/- THE CELL 'sum', in the pinned program and in every row, IS THE sha256 OF THE DUMP (.gsa) THAT YtjojnbeflongkaaDoorProg.lean LOADS. Nothing in Lean hashes anything: it is a label: what it is worth is what the hold of that sum in a sandbox is worth. -/
noncomputable def Tryd.pinned : Pinned := { name := "ytjojnbeflongkaadoor", sum := "d38045236da3622e038fdf3affdbf4850e8827b397f6f94b07db75b3cc29d672", checked := Tryd.checked }
namespace Rows
def none {H : Type} : Left H := { results := [], args := [] }

/- WHAT THE LISTED PACKAGE-LEVEL VARIABLES READ AS WHEN THE CALL BEGINS. Each datum BY PROGRAM (the guide's laid-datum.mjs) off the statement by which the dump's own 'gosem.cut.vars' lays the variable. In a bare row this is a premise. The card (YtjojnbeflongkaaDoorCards.lean) ties it to the program's text. -/
def laid_wigwag_probe_phaseParts {H : Type} : DataW H := .agg [.lit (.int .u64 320), .lit (.int .u64 192), .lit (.int .u64 256), .lit (.int .u64 256), .lit (.int .u64 256), .lit (.int .u64 256), .lit (.int .u64 256), .lit (.int .u64 256)]

/-- 'wigwaglaw13.ProbeNames': WHATEVER THE INPUT: true; the input reads as it did. -/
def probeNamesSpec : ChangeSpec := { name := "probeNames", fn := fun _ => fun
  | [] => { results := [.lit (.bool true)], args := [] }
  | _ => none }
def probeNamesRow : OpenClaim := { program := "ytjojnbeflongkaadoor", sum := "d38045236da3622e038fdf3affdbf4850e8827b397f6f94b07db75b3cc29d672", func := "wigwag/wigwaglaw13.ProbeNames", spec := "probeNames", inPlace := ["math/bits.Add64"], unfollowed := true, recurses := true, named := ["math/bits.divideError", "math/bits.overflowError", "wigwag/probe.phaseParts"], apart := false, laid := [("wigwag/probe.phaseParts", laid_wigwag_probe_phaseParts)] }
def ProbeNamesSaid : Prop := probeNamesRow.holds Tryd.pinned (OpenSpec.ofChange probeNamesSpec)

/-- ITS FALSE NEIGHBOUR: 'it returns false'. Refute it at one input. -/
def probeNamesWrong : ChangeSpec := { name := "probeNames", fn := fun _ => fun
  | [] => { results := [.lit (.bool false)], args := [] }
  | _ => none }
def ProbeNamesWrongFalsely : Prop := probeNamesRow.holds Tryd.pinned (OpenSpec.ofChange probeNamesWrong)

/-- 'wigwaglaw13.ProbeTells': WHATEVER THE INPUT: true; the input reads as it did. -/
def probeTellsSpec : ChangeSpec := { name := "probeTells", fn := fun _ => fun
  | [d1, d2, d3, d4] => { results := [.lit (.bool true)], args := [d1, d2, d3, d4] }
  | _ => none }
def probeTellsRow : OpenClaim := { program := "ytjojnbeflongkaadoor", sum := "d38045236da3622e038fdf3affdbf4850e8827b397f6f94b07db75b3cc29d672", func := "wigwag/wigwaglaw13.ProbeTells", spec := "probeTells", inPlace := ["math/bits.Add64"], unfollowed := true, recurses := true, named := ["math/bits.divideError", "math/bits.overflowError", "wigwag/probe.phaseParts"], apart := false, laid := [("wigwag/probe.phaseParts", laid_wigwag_probe_phaseParts)] }
def ProbeTellsSaid : Prop := probeTellsRow.holds Tryd.pinned (OpenSpec.ofChange probeTellsSpec)

/-- ITS FALSE NEIGHBOUR: 'it returns false'. Refute it at one input. -/
def probeTellsWrong : ChangeSpec := { name := "probeTells", fn := fun _ => fun
  | [d1, d2, d3, d4] => { results := [.lit (.bool false)], args := [d1, d2, d3, d4] }
  | _ => none }
def ProbeTellsWrongFalsely : Prop := probeTellsRow.holds Tryd.pinned (OpenSpec.ofChange probeTellsWrong)

/-- 'wigwaglaw13.ProbeHolds': WHATEVER THE INPUT: true; the input reads as it did. -/
def probeHoldsSpec : ChangeSpec := { name := "probeHolds", fn := fun _ => fun
  | [d1, d2] => { results := [.lit (.bool true)], args := [d1, d2] }
  | _ => none }
def probeHoldsRow : OpenClaim := { program := "ytjojnbeflongkaadoor", sum := "d38045236da3622e038fdf3affdbf4850e8827b397f6f94b07db75b3cc29d672", func := "wigwag/wigwaglaw13.ProbeHolds", spec := "probeHolds", inPlace := ["math/bits.Add64"], unfollowed := true, recurses := true, named := ["math/bits.divideError", "math/bits.overflowError", "wigwag/probe.phaseParts"], apart := false, laid := [("wigwag/probe.phaseParts", laid_wigwag_probe_phaseParts)] }
def ProbeHoldsSaid : Prop := probeHoldsRow.holds Tryd.pinned (OpenSpec.ofChange probeHoldsSpec)

/-- ITS FALSE NEIGHBOUR: 'it returns false'. Refute it at one input. -/
def probeHoldsWrong : ChangeSpec := { name := "probeHolds", fn := fun _ => fun
  | [d1, d2] => { results := [.lit (.bool false)], args := [d1, d2] }
  | _ => none }
def ProbeHoldsWrongFalsely : Prop := probeHoldsRow.holds Tryd.pinned (OpenSpec.ofChange probeHoldsWrong)

/-- 'wigwaglaw13.ProbeLows': WHATEVER THE INPUT: true; the input reads as it did. -/
def probeLowsSpec : ChangeSpec := { name := "probeLows", fn := fun _ => fun
  | [d1, d2, d3] => { results := [.lit (.bool true)], args := [d1, d2, d3] }
  | _ => none }
def probeLowsRow : OpenClaim := { program := "ytjojnbeflongkaadoor", sum := "d38045236da3622e038fdf3affdbf4850e8827b397f6f94b07db75b3cc29d672", func := "wigwag/wigwaglaw13.ProbeLows", spec := "probeLows", inPlace := ["math/bits.Add64"], unfollowed := true, recurses := true, named := ["math/bits.divideError", "math/bits.overflowError", "wigwag/probe.phaseParts"], apart := false, laid := [("wigwag/probe.phaseParts", laid_wigwag_probe_phaseParts)] }
def ProbeLowsSaid : Prop := probeLowsRow.holds Tryd.pinned (OpenSpec.ofChange probeLowsSpec)

/-- ITS FALSE NEIGHBOUR: 'it returns false'. Refute it at one input. -/
def probeLowsWrong : ChangeSpec := { name := "probeLows", fn := fun _ => fun
  | [d1, d2, d3] => { results := [.lit (.bool false)], args := [d1, d2, d3] }
  | _ => none }
def ProbeLowsWrongFalsely : Prop := probeLowsRow.holds Tryd.pinned (OpenSpec.ofChange probeLowsWrong)

/-- 'wigwaglaw13.ProbeQuiet': WHATEVER THE INPUT: true; the input reads as it did. -/
def probeQuietSpec : ChangeSpec := { name := "probeQuiet", fn := fun _ => fun
  | [d1, d2, d3] => { results := [.lit (.bool true)], args := [d1, d2, d3] }
  | _ => none }
def probeQuietRow : OpenClaim := { program := "ytjojnbeflongkaadoor", sum := "d38045236da3622e038fdf3affdbf4850e8827b397f6f94b07db75b3cc29d672", func := "wigwag/wigwaglaw13.ProbeQuiet", spec := "probeQuiet", inPlace := ["math/bits.Add64"], unfollowed := true, recurses := true, named := ["math/bits.divideError", "math/bits.overflowError", "wigwag/probe.phaseParts"], apart := false, laid := [("wigwag/probe.phaseParts", laid_wigwag_probe_phaseParts)] }
def ProbeQuietSaid : Prop := probeQuietRow.holds Tryd.pinned (OpenSpec.ofChange probeQuietSpec)

/-- ITS FALSE NEIGHBOUR: 'it returns false'. Refute it at one input. -/
def probeQuietWrong : ChangeSpec := { name := "probeQuiet", fn := fun _ => fun
  | [d1, d2, d3] => { results := [.lit (.bool false)], args := [d1, d2, d3] }
  | _ => none }
def ProbeQuietWrongFalsely : Prop := probeQuietRow.holds Tryd.pinned (OpenSpec.ofChange probeQuietWrong)

/-- 'wigwaglaw13.ProbeDrains': WHATEVER THE INPUT: true; the input reads as it did. -/
def probeDrainsSpec : ChangeSpec := { name := "probeDrains", fn := fun _ => fun
  | [d1, d2] => { results := [.lit (.bool true)], args := [d1, d2] }
  | _ => none }
def probeDrainsRow : OpenClaim := { program := "ytjojnbeflongkaadoor", sum := "d38045236da3622e038fdf3affdbf4850e8827b397f6f94b07db75b3cc29d672", func := "wigwag/wigwaglaw13.ProbeDrains", spec := "probeDrains", inPlace := ["math/bits.Add64"], unfollowed := true, recurses := true, named := ["math/bits.divideError", "math/bits.overflowError", "wigwag/probe.phaseParts"], apart := false, laid := [("wigwag/probe.phaseParts", laid_wigwag_probe_phaseParts)] }
def ProbeDrainsSaid : Prop := probeDrainsRow.holds Tryd.pinned (OpenSpec.ofChange probeDrainsSpec)

/-- ITS FALSE NEIGHBOUR: 'it returns false'. Refute it at one input. -/
def probeDrainsWrong : ChangeSpec := { name := "probeDrains", fn := fun _ => fun
  | [d1, d2] => { results := [.lit (.bool false)], args := [d1, d2] }
  | _ => none }
def ProbeDrainsWrongFalsely : Prop := probeDrainsRow.holds Tryd.pinned (OpenSpec.ofChange probeDrainsWrong)

/- THE SECOND FORM. 'bulk': how many values and letters a reading holds, each counted each time it is reached (what is shared counts as often as it is met; a slice's spare places count too). A statement '..UptoSaid' is the law's where the arguments, and the package variables that the reading takes, are together of bulk at most 1048576: NARROWER than '..Said'. Prove '..Said' where nothing that the law and all that it calls make is longer than what came in: it says more and counts as full. Else prove '..UptoSaid'. A law counts once. -/
mutual
def uptoBulk {H : Type} : DataW H → Nat
  | .lit (.string bytes) => bytes.length + 1
  | .lit _ => 1
  | .nil => 1
  | .ptr d => uptoBulk d + 1
  | .slice elems spare => uptoBulkAll elems + uptoBulkAll spare + 1
  | .agg parts => uptoBulkAll parts + 1
  | .iface _ d => uptoBulk d + 1
  | .map entries => uptoBulkEntries entries + 1
  | .held _ => 1
def uptoBulkAll {H : Type} : List (DataW H) → Nat
  | [] => 0
  | d :: r => uptoBulk d + uptoBulkAll r
def uptoBulkEntries {H : Type} : List (Lit × DataW H) → Nat
  | [] => 0
  | x :: r => uptoBulkEntry x + uptoBulkEntries r
def uptoBulkEntry {H : Type} : Lit × DataW H → Nat
  | (.string bytes, d) => bytes.length + uptoBulk d + 1
  | (_, d) => uptoBulk d + 1
 end
def uptoSmall : (H : Type) → List (DataW H) → Bool := fun _ ds => decide (uptoBulkAll ds ≤ 1048576)
def OpenSpec.upto (s : _root_.Go.ChangeSpec) : _root_.Go.OpenSpec := { _root_.Go.OpenSpec.ofChange s with cond := some uptoSmall }

/-- 'wigwaglaw13.ProbeNames', WHERE WHAT IT READS IS OF BULK AT MOST 1048576: true; the input reads as it did. -/
def probeNamesUptoRow : OpenClaim := { program := "ytjojnbeflongkaadoor", sum := "d38045236da3622e038fdf3affdbf4850e8827b397f6f94b07db75b3cc29d672", func := "wigwag/wigwaglaw13.ProbeNames", spec := "probeNames", inPlace := ["math/bits.Add64"], unfollowed := true, recurses := true, named := ["math/bits.divideError", "math/bits.overflowError", "wigwag/probe.phaseParts"], apart := false, laid := [("wigwag/probe.phaseParts", laid_wigwag_probe_phaseParts)], narrowed := true }
def ProbeNamesUptoSaid : Prop := probeNamesUptoRow.holds Tryd.pinned (OpenSpec.upto probeNamesSpec)

/-- 'wigwaglaw13.ProbeTells', WHERE WHAT IT READS IS OF BULK AT MOST 1048576: true; the input reads as it did. -/
def probeTellsUptoRow : OpenClaim := { program := "ytjojnbeflongkaadoor", sum := "d38045236da3622e038fdf3affdbf4850e8827b397f6f94b07db75b3cc29d672", func := "wigwag/wigwaglaw13.ProbeTells", spec := "probeTells", inPlace := ["math/bits.Add64"], unfollowed := true, recurses := true, named := ["math/bits.divideError", "math/bits.overflowError", "wigwag/probe.phaseParts"], apart := false, laid := [("wigwag/probe.phaseParts", laid_wigwag_probe_phaseParts)], narrowed := true }
def ProbeTellsUptoSaid : Prop := probeTellsUptoRow.holds Tryd.pinned (OpenSpec.upto probeTellsSpec)

/-- 'wigwaglaw13.ProbeHolds', WHERE WHAT IT READS IS OF BULK AT MOST 1048576: true; the input reads as it did. -/
def probeHoldsUptoRow : OpenClaim := { program := "ytjojnbeflongkaadoor", sum := "d38045236da3622e038fdf3affdbf4850e8827b397f6f94b07db75b3cc29d672", func := "wigwag/wigwaglaw13.ProbeHolds", spec := "probeHolds", inPlace := ["math/bits.Add64"], unfollowed := true, recurses := true, named := ["math/bits.divideError", "math/bits.overflowError", "wigwag/probe.phaseParts"], apart := false, laid := [("wigwag/probe.phaseParts", laid_wigwag_probe_phaseParts)], narrowed := true }
def ProbeHoldsUptoSaid : Prop := probeHoldsUptoRow.holds Tryd.pinned (OpenSpec.upto probeHoldsSpec)

/-- 'wigwaglaw13.ProbeLows', WHERE WHAT IT READS IS OF BULK AT MOST 1048576: true; the input reads as it did. -/
def probeLowsUptoRow : OpenClaim := { program := "ytjojnbeflongkaadoor", sum := "d38045236da3622e038fdf3affdbf4850e8827b397f6f94b07db75b3cc29d672", func := "wigwag/wigwaglaw13.ProbeLows", spec := "probeLows", inPlace := ["math/bits.Add64"], unfollowed := true, recurses := true, named := ["math/bits.divideError", "math/bits.overflowError", "wigwag/probe.phaseParts"], apart := false, laid := [("wigwag/probe.phaseParts", laid_wigwag_probe_phaseParts)], narrowed := true }
def ProbeLowsUptoSaid : Prop := probeLowsUptoRow.holds Tryd.pinned (OpenSpec.upto probeLowsSpec)

/-- 'wigwaglaw13.ProbeQuiet', WHERE WHAT IT READS IS OF BULK AT MOST 1048576: true; the input reads as it did. -/
def probeQuietUptoRow : OpenClaim := { program := "ytjojnbeflongkaadoor", sum := "d38045236da3622e038fdf3affdbf4850e8827b397f6f94b07db75b3cc29d672", func := "wigwag/wigwaglaw13.ProbeQuiet", spec := "probeQuiet", inPlace := ["math/bits.Add64"], unfollowed := true, recurses := true, named := ["math/bits.divideError", "math/bits.overflowError", "wigwag/probe.phaseParts"], apart := false, laid := [("wigwag/probe.phaseParts", laid_wigwag_probe_phaseParts)], narrowed := true }
def ProbeQuietUptoSaid : Prop := probeQuietUptoRow.holds Tryd.pinned (OpenSpec.upto probeQuietSpec)

/-- 'wigwaglaw13.ProbeDrains', WHERE WHAT IT READS IS OF BULK AT MOST 1048576: true; the input reads as it did. -/
def probeDrainsUptoRow : OpenClaim := { program := "ytjojnbeflongkaadoor", sum := "d38045236da3622e038fdf3affdbf4850e8827b397f6f94b07db75b3cc29d672", func := "wigwag/wigwaglaw13.ProbeDrains", spec := "probeDrains", inPlace := ["math/bits.Add64"], unfollowed := true, recurses := true, named := ["math/bits.divideError", "math/bits.overflowError", "wigwag/probe.phaseParts"], apart := false, laid := [("wigwag/probe.phaseParts", laid_wigwag_probe_phaseParts)], narrowed := true }
def ProbeDrainsUptoSaid : Prop := probeDrainsUptoRow.holds Tryd.pinned (OpenSpec.upto probeDrainsSpec)

end Rows
end Go.Proofs.YtjojnbeflongkaaDoor

/-
  NARROWER THAN 'FOR EVERY INPUT', by the rows' own cells (each row's printed sentence says how): FrameNames: laid · FrameEncodes: laid · FrameParses: laid · FrameBack: laid · FrameFine: laid · FrameSpans: laid · FrameLists: laid · FrameZeros: laid.
  DERIVED. THE GIVEN ROWS OF THIS SEAT. 8 by the template 'for every input the law returns true; each argument reads behind the call as it read before'; 0 by the template 'total and deterministic' (their statements: YtfclfnpihmhcjaaDoorTotals.lean).
  GIVEN WITH THE SEED: the statements are not yours to turn. If you find one false, say at which input.
  Laid BY PROGRAM, IN A SANDBOX (cutbox-rows.mjs): the forced cells as the released guide's own fill.sh prints them over the translation c89255961e273169… (all of the seat's roots in one cut). By AI agents, Wed Nov 11 2026. No macro, syntax, notation, axiom, sorry.
-/
import Derived.Test.YtfclfnpihmhcjaaDoorChecked
import GoSem.Claim
import GoSem.ClaimJoined
import GoSem.ClaimMapViews
import Derived.JoinedTies
import Derived.KernelRfl
namespace Go.Proofs.YtfclfnpihmhcjaaDoor
/- THE CELL 'sum', in the pinned program and in every row, IS THE sha256 OF THE DUMP (.gsa) THAT YtfclfnpihmhcjaaDoorProg.lean LOADS. Nothing in Lean hashes anything: it is a label: what it is worth is what the hold of that sum in a sandbox is worth. -/
noncomputable def Tryd.pinned : Pinned := { name := "ytfclfnpihmhcjaadoor", sum := "c89255961e2731691c865dc29f81ea56dd10881d17e20bed6034857ce3599dd5", checked := Tryd.checked }
namespace Rows
def none {H : Type} : Left H := { results := [], args := [] }

/- WHAT THE LISTED PACKAGE-LEVEL VARIABLES READ AS WHEN THE CALL BEGINS. Each datum BY PROGRAM (the guide's laid-datum.mjs) off the statement by which the dump's own 'gosem.cut.vars' lays the variable. In a bare row this is a premise. The card (YtfclfnpihmhcjaaDoorCards.lean) ties it to the program's text. -/
def laid_wigwag_varint_sizes {H : Type} : DataW H := .agg [.lit (.int .i64 1), .lit (.int .i64 2), .lit (.int .i64 4), .lit (.int .i64 8)]
def laid_wigwag_frame_numbers {H : Type} : DataW H := .agg [.lit (.int .i64 0), .lit (.int .i64 1), .lit (.int .i64 2), .lit (.int .i64 3), .lit (.int .i64 4), .lit (.int .i64 5)]

/-- 'wigwaglaw05.FrameNames': WHATEVER THE INPUT: true; the input reads as it did. -/
def frameNamesSpec : ChangeSpec := { name := "frameNames", fn := fun _ => fun
  | [] => { results := [.lit (.bool true)], args := [] }
  | _ => none }
def frameNamesRow : OpenClaim := { program := "ytfclfnpihmhcjaadoor", sum := "c89255961e2731691c865dc29f81ea56dd10881d17e20bed6034857ce3599dd5", func := "wigwag/wigwaglaw05.FrameNames", spec := "frameNames", unfollowed := true, recurses := true, named := ["wigwag/frame.numbers", "wigwag/varint.sizes"], apart := false, laid := [("wigwag/varint.sizes", laid_wigwag_varint_sizes), ("wigwag/frame.numbers", laid_wigwag_frame_numbers)] }
def FrameNamesSaid : Prop := frameNamesRow.holds Tryd.pinned (OpenSpec.ofChange frameNamesSpec)

/-- ITS FALSE NEIGHBOUR: 'it returns false'. Refute it at one input. -/
def frameNamesWrong : ChangeSpec := { name := "frameNames", fn := fun _ => fun
  | [] => { results := [.lit (.bool false)], args := [] }
  | _ => none }
def FrameNamesWrongFalsely : Prop := frameNamesRow.holds Tryd.pinned (OpenSpec.ofChange frameNamesWrong)

/-- 'wigwaglaw05.FrameEncodes': WHATEVER THE INPUT: true; the input reads as it did. -/
def frameEncodesSpec : ChangeSpec := { name := "frameEncodes", fn := fun _ => fun
  | [d] => { results := [.lit (.bool true)], args := [d] }
  | _ => none }
def frameEncodesRow : OpenClaim := { program := "ytfclfnpihmhcjaadoor", sum := "c89255961e2731691c865dc29f81ea56dd10881d17e20bed6034857ce3599dd5", func := "wigwag/wigwaglaw05.FrameEncodes", spec := "frameEncodes", unfollowed := true, recurses := true, named := ["wigwag/frame.numbers", "wigwag/varint.sizes"], apart := false, laid := [("wigwag/varint.sizes", laid_wigwag_varint_sizes), ("wigwag/frame.numbers", laid_wigwag_frame_numbers)] }
def FrameEncodesSaid : Prop := frameEncodesRow.holds Tryd.pinned (OpenSpec.ofChange frameEncodesSpec)

/-- ITS FALSE NEIGHBOUR: 'it returns false'. Refute it at one input. -/
def frameEncodesWrong : ChangeSpec := { name := "frameEncodes", fn := fun _ => fun
  | [d] => { results := [.lit (.bool false)], args := [d] }
  | _ => none }
def FrameEncodesWrongFalsely : Prop := frameEncodesRow.holds Tryd.pinned (OpenSpec.ofChange frameEncodesWrong)

/-- 'wigwaglaw05.FrameParses': WHATEVER THE INPUT: true; the input reads as it did. -/
def frameParsesSpec : ChangeSpec := { name := "frameParses", fn := fun _ => fun
  | [d] => { results := [.lit (.bool true)], args := [d] }
  | _ => none }
def frameParsesRow : OpenClaim := { program := "ytfclfnpihmhcjaadoor", sum := "c89255961e2731691c865dc29f81ea56dd10881d17e20bed6034857ce3599dd5", func := "wigwag/wigwaglaw05.FrameParses", spec := "frameParses", unfollowed := true, recurses := true, named := ["wigwag/frame.numbers", "wigwag/varint.sizes"], apart := false, laid := [("wigwag/varint.sizes", laid_wigwag_varint_sizes), ("wigwag/frame.numbers", laid_wigwag_frame_numbers)] }
def FrameParsesSaid : Prop := frameParsesRow.holds Tryd.pinned (OpenSpec.ofChange frameParsesSpec)

/-- ITS FALSE NEIGHBOUR: 'it returns false'. Refute it at one input. -/
def frameParsesWrong : ChangeSpec := { name := "frameParses", fn := fun _ => fun
  | [d] => { results := [.lit (.bool false)], args := [d] }
  | _ => none }
def FrameParsesWrongFalsely : Prop := frameParsesRow.holds Tryd.pinned (OpenSpec.ofChange frameParsesWrong)

/-- 'wigwaglaw05.FrameBack': WHATEVER THE INPUT: true; the input reads as it did. -/
def frameBackSpec : ChangeSpec := { name := "frameBack", fn := fun _ => fun
  | [d1, d2, d3] => { results := [.lit (.bool true)], args := [d1, d2, d3] }
  | _ => none }
def frameBackRow : OpenClaim := { program := "ytfclfnpihmhcjaadoor", sum := "c89255961e2731691c865dc29f81ea56dd10881d17e20bed6034857ce3599dd5", func := "wigwag/wigwaglaw05.FrameBack", spec := "frameBack", unfollowed := true, recurses := true, named := ["wigwag/frame.numbers", "wigwag/varint.sizes"], apart := false, laid := [("wigwag/varint.sizes", laid_wigwag_varint_sizes), ("wigwag/frame.numbers", laid_wigwag_frame_numbers)] }
def FrameBackSaid : Prop := frameBackRow.holds Tryd.pinned (OpenSpec.ofChange frameBackSpec)

/-- ITS FALSE NEIGHBOUR: 'it returns false'. Refute it at one input. -/
def frameBackWrong : ChangeSpec := { name := "frameBack", fn := fun _ => fun
  | [d1, d2, d3] => { results := [.lit (.bool false)], args := [d1, d2, d3] }
  | _ => none }
def FrameBackWrongFalsely : Prop := frameBackRow.holds Tryd.pinned (OpenSpec.ofChange frameBackWrong)

/-- 'wigwaglaw05.FrameFine': WHATEVER THE INPUT: true; the input reads as it did. -/
def frameFineSpec : ChangeSpec := { name := "frameFine", fn := fun _ => fun
  | [d1, d2] => { results := [.lit (.bool true)], args := [d1, d2] }
  | _ => none }
def frameFineRow : OpenClaim := { program := "ytfclfnpihmhcjaadoor", sum := "c89255961e2731691c865dc29f81ea56dd10881d17e20bed6034857ce3599dd5", func := "wigwag/wigwaglaw05.FrameFine", spec := "frameFine", unfollowed := true, recurses := true, named := ["wigwag/frame.numbers", "wigwag/varint.sizes"], apart := false, laid := [("wigwag/varint.sizes", laid_wigwag_varint_sizes), ("wigwag/frame.numbers", laid_wigwag_frame_numbers)] }
def FrameFineSaid : Prop := frameFineRow.holds Tryd.pinned (OpenSpec.ofChange frameFineSpec)

/-- ITS FALSE NEIGHBOUR: 'it returns false'. Refute it at one input. -/
def frameFineWrong : ChangeSpec := { name := "frameFine", fn := fun _ => fun
  | [d1, d2] => { results := [.lit (.bool false)], args := [d1, d2] }
  | _ => none }
def FrameFineWrongFalsely : Prop := frameFineRow.holds Tryd.pinned (OpenSpec.ofChange frameFineWrong)

/-- 'wigwaglaw05.FrameSpans': WHATEVER THE INPUT: true; the input reads as it did. -/
def frameSpansSpec : ChangeSpec := { name := "frameSpans", fn := fun _ => fun
  | [d1, d2] => { results := [.lit (.bool true)], args := [d1, d2] }
  | _ => none }
def frameSpansRow : OpenClaim := { program := "ytfclfnpihmhcjaadoor", sum := "c89255961e2731691c865dc29f81ea56dd10881d17e20bed6034857ce3599dd5", func := "wigwag/wigwaglaw05.FrameSpans", spec := "frameSpans", unfollowed := true, recurses := true, named := ["wigwag/frame.numbers", "wigwag/varint.sizes"], apart := false, laid := [("wigwag/varint.sizes", laid_wigwag_varint_sizes), ("wigwag/frame.numbers", laid_wigwag_frame_numbers)] }
def FrameSpansSaid : Prop := frameSpansRow.holds Tryd.pinned (OpenSpec.ofChange frameSpansSpec)

/-- ITS FALSE NEIGHBOUR: 'it returns false'. Refute it at one input. -/
def frameSpansWrong : ChangeSpec := { name := "frameSpans", fn := fun _ => fun
  | [d1, d2] => { results := [.lit (.bool false)], args := [d1, d2] }
  | _ => none }
def FrameSpansWrongFalsely : Prop := frameSpansRow.holds Tryd.pinned (OpenSpec.ofChange frameSpansWrong)

/-- 'wigwaglaw05.FrameLists': WHATEVER THE INPUT: true; the input reads as it did. -/
def frameListsSpec : ChangeSpec := { name := "frameLists", fn := fun _ => fun
  | [d] => { results := [.lit (.bool true)], args := [d] }
  | _ => none }
def frameListsRow : OpenClaim := { program := "ytfclfnpihmhcjaadoor", sum := "c89255961e2731691c865dc29f81ea56dd10881d17e20bed6034857ce3599dd5", func := "wigwag/wigwaglaw05.FrameLists", spec := "frameLists", unfollowed := true, recurses := true, named := ["wigwag/frame.numbers", "wigwag/varint.sizes"], apart := false, laid := [("wigwag/varint.sizes", laid_wigwag_varint_sizes), ("wigwag/frame.numbers", laid_wigwag_frame_numbers)] }
def FrameListsSaid : Prop := frameListsRow.holds Tryd.pinned (OpenSpec.ofChange frameListsSpec)

/-- ITS FALSE NEIGHBOUR: 'it returns false'. Refute it at one input. -/
def frameListsWrong : ChangeSpec := { name := "frameLists", fn := fun _ => fun
  | [d] => { results := [.lit (.bool false)], args := [d] }
  | _ => none }
def FrameListsWrongFalsely : Prop := frameListsRow.holds Tryd.pinned (OpenSpec.ofChange frameListsWrong)

/-- 'wigwaglaw05.FrameZeros': WHATEVER THE INPUT: true; the input reads as it did. -/
def frameZerosSpec : ChangeSpec := { name := "frameZeros", fn := fun _ => fun
  | [d] => { results := [.lit (.bool true)], args := [d] }
  | _ => none }
def frameZerosRow : OpenClaim := { program := "ytfclfnpihmhcjaadoor", sum := "c89255961e2731691c865dc29f81ea56dd10881d17e20bed6034857ce3599dd5", func := "wigwag/wigwaglaw05.FrameZeros", spec := "frameZeros", unfollowed := true, recurses := true, named := ["wigwag/frame.numbers", "wigwag/varint.sizes"], apart := false, laid := [("wigwag/varint.sizes", laid_wigwag_varint_sizes), ("wigwag/frame.numbers", laid_wigwag_frame_numbers)] }
def FrameZerosSaid : Prop := frameZerosRow.holds Tryd.pinned (OpenSpec.ofChange frameZerosSpec)

/-- ITS FALSE NEIGHBOUR: 'it returns false'. Refute it at one input. -/
def frameZerosWrong : ChangeSpec := { name := "frameZeros", fn := fun _ => fun
  | [d] => { results := [.lit (.bool false)], args := [d] }
  | _ => none }
def FrameZerosWrongFalsely : Prop := frameZerosRow.holds Tryd.pinned (OpenSpec.ofChange frameZerosWrong)

/- THE SECOND FORM. 'bulk': how many values and letters a reading holds, each counted each time it is reached (what is shared counts as often as it is met; a slice's spare places count too). A statement '..UptoSaid' is the law's where the arguments, and the package variables that the reading takes, are together of bulk at most 1048576: NARROWER than '..Said'. Prove '..Said' where nothing that the law and all that it calls make is longer than what came in: it says more and counts as full. Else prove '..UptoSaid'. A law counts once. -/
mutual
def uptoBulk {H : Type} : DataW H → Nat
  | .lit (.string bytes) => bytes.length + 1
  | .lit _ => 1
  | .nil => 1
  | .ptr d => uptoBulk d + 1
  | .slice elems spare => uptoBulkAll elems + uptoBulkAll spare + 1
  | .agg parts => uptoBulkAll parts + 1
  | .iface _ d => uptoBulk d + 1
  | .map entries => uptoBulkEntries entries + 1
  | .held _ => 1
def uptoBulkAll {H : Type} : List (DataW H) → Nat
  | [] => 0
  | d :: r => uptoBulk d + uptoBulkAll r
def uptoBulkEntries {H : Type} : List (Lit × DataW H) → Nat
  | [] => 0
  | x :: r => uptoBulkEntry x + uptoBulkEntries r
def uptoBulkEntry {H : Type} : Lit × DataW H → Nat
  | (.string bytes, d) => bytes.length + uptoBulk d + 1
  | (_, d) => uptoBulk d + 1
 end
def uptoSmall : (H : Type) → List (DataW H) → Bool := fun _ ds => decide (uptoBulkAll ds ≤ 1048576)
def OpenSpec.upto (s : _root_.Go.ChangeSpec) : _root_.Go.OpenSpec := { _root_.Go.OpenSpec.ofChange s with cond := some uptoSmall }

/-- 'wigwaglaw05.FrameNames', WHERE WHAT IT READS IS OF BULK AT MOST 1048576: true; the input reads as it did. -/
def frameNamesUptoRow : OpenClaim := { program := "ytfclfnpihmhcjaadoor", sum := "c89255961e2731691c865dc29f81ea56dd10881d17e20bed6034857ce3599dd5", func := "wigwag/wigwaglaw05.FrameNames", spec := "frameNames", unfollowed := true, recurses := true, named := ["wigwag/frame.numbers", "wigwag/varint.sizes"], apart := false, laid := [("wigwag/varint.sizes", laid_wigwag_varint_sizes), ("wigwag/frame.numbers", laid_wigwag_frame_numbers)], narrowed := true }
def FrameNamesUptoSaid : Prop := frameNamesUptoRow.holds Tryd.pinned (OpenSpec.upto frameNamesSpec)

/-- 'wigwaglaw05.FrameEncodes', WHERE WHAT IT READS IS OF BULK AT MOST 1048576: true; the input reads as it did. -/
def frameEncodesUptoRow : OpenClaim := { program := "ytfclfnpihmhcjaadoor", sum := "c89255961e2731691c865dc29f81ea56dd10881d17e20bed6034857ce3599dd5", func := "wigwag/wigwaglaw05.FrameEncodes", spec := "frameEncodes", unfollowed := true, recurses := true, named := ["wigwag/frame.numbers", "wigwag/varint.sizes"], apart := false, laid := [("wigwag/varint.sizes", laid_wigwag_varint_sizes), ("wigwag/frame.numbers", laid_wigwag_frame_numbers)], narrowed := true }
def FrameEncodesUptoSaid : Prop := frameEncodesUptoRow.holds Tryd.pinned (OpenSpec.upto frameEncodesSpec)

/-- 'wigwaglaw05.FrameParses', WHERE WHAT IT READS IS OF BULK AT MOST 1048576: true; the input reads as it did. -/
def frameParsesUptoRow : OpenClaim := { program := "ytfclfnpihmhcjaadoor", sum := "c89255961e2731691c865dc29f81ea56dd10881d17e20bed6034857ce3599dd5", func := "wigwag/wigwaglaw05.FrameParses", spec := "frameParses", unfollowed := true, recurses := true, named := ["wigwag/frame.numbers", "wigwag/varint.sizes"], apart := false, laid := [("wigwag/varint.sizes", laid_wigwag_varint_sizes), ("wigwag/frame.numbers", laid_wigwag_frame_numbers)], narrowed := true }
def FrameParsesUptoSaid : Prop := frameParsesUptoRow.holds Tryd.pinned (OpenSpec.upto frameParsesSpec)

/-- 'wigwaglaw05.FrameBack', WHERE WHAT IT READS IS OF BULK AT MOST 1048576: true; the input reads as it did. -/
def frameBackUptoRow : OpenClaim := { program := "ytfclfnpihmhcjaadoor", sum := "c89255961e2731691c865dc29f81ea56dd10881d17e20bed6034857ce3599dd5", func := "wigwag/wigwaglaw05.FrameBack", spec := "frameBack", unfollowed := true, recurses := true, named := ["wigwag/frame.numbers", "wigwag/varint.sizes"], apart := false, laid := [("wigwag/varint.sizes", laid_wigwag_varint_sizes), ("wigwag/frame.numbers", laid_wigwag_frame_numbers)], narrowed := true }
def FrameBackUptoSaid : Prop := frameBackUptoRow.holds Tryd.pinned (OpenSpec.upto frameBackSpec)

/-- 'wigwaglaw05.FrameFine', WHERE WHAT IT READS IS OF BULK AT MOST 1048576: true; the input reads as it did. -/
def frameFineUptoRow : OpenClaim := { program := "ytfclfnpihmhcjaadoor", sum := "c89255961e2731691c865dc29f81ea56dd10881d17e20bed6034857ce3599dd5", func := "wigwag/wigwaglaw05.FrameFine", spec := "frameFine", unfollowed := true, recurses := true, named := ["wigwag/frame.numbers", "wigwag/varint.sizes"], apart := false, laid := [("wigwag/varint.sizes", laid_wigwag_varint_sizes), ("wigwag/frame.numbers", laid_wigwag_frame_numbers)], narrowed := true }
def FrameFineUptoSaid : Prop := frameFineUptoRow.holds Tryd.pinned (OpenSpec.upto frameFineSpec)

/-- 'wigwaglaw05.FrameSpans', WHERE WHAT IT READS IS OF BULK AT MOST 1048576: true; the input reads as it did. -/
def frameSpansUptoRow : OpenClaim := { program := "ytfclfnpihmhcjaadoor", sum := "c89255961e2731691c865dc29f81ea56dd10881d17e20bed6034857ce3599dd5", func := "wigwag/wigwaglaw05.FrameSpans", spec := "frameSpans", unfollowed := true, recurses := true, named := ["wigwag/frame.numbers", "wigwag/varint.sizes"], apart := false, laid := [("wigwag/varint.sizes", laid_wigwag_varint_sizes), ("wigwag/frame.numbers", laid_wigwag_frame_numbers)], narrowed := true }
def FrameSpansUptoSaid : Prop := frameSpansUptoRow.holds Tryd.pinned (OpenSpec.upto frameSpansSpec)

/-- 'wigwaglaw05.FrameLists', WHERE WHAT IT READS IS OF BULK AT MOST 1048576: true; the input reads as it did. -/
def frameListsUptoRow : OpenClaim := { program := "ytfclfnpihmhcjaadoor", sum := "c89255961e2731691c865dc29f81ea56dd10881d17e20bed6034857ce3599dd5", func := "wigwag/wigwaglaw05.FrameLists", spec := "frameLists", unfollowed := true, recurses := true, named := ["wigwag/frame.numbers", "wigwag/varint.sizes"], apart := false, laid := [("wigwag/varint.sizes", laid_wigwag_varint_sizes), ("wigwag/frame.numbers", laid_wigwag_frame_numbers)], narrowed := true }
def FrameListsUptoSaid : Prop := frameListsUptoRow.holds Tryd.pinned (OpenSpec.upto frameListsSpec)

/-- 'wigwaglaw05.FrameZeros', WHERE WHAT IT READS IS OF BULK AT MOST 1048576: true; the input reads as it did. -/
def frameZerosUptoRow : OpenClaim := { program := "ytfclfnpihmhcjaadoor", sum := "c89255961e2731691c865dc29f81ea56dd10881d17e20bed6034857ce3599dd5", func := "wigwag/wigwaglaw05.FrameZeros", spec := "frameZeros", unfollowed := true, recurses := true, named := ["wigwag/frame.numbers", "wigwag/varint.sizes"], apart := false, laid := [("wigwag/varint.sizes", laid_wigwag_varint_sizes), ("wigwag/frame.numbers", laid_wigwag_frame_numbers)], narrowed := true }
def FrameZerosUptoSaid : Prop := frameZerosUptoRow.holds Tryd.pinned (OpenSpec.upto frameZerosSpec)

end Rows
end Go.Proofs.YtfclfnpihmhcjaaDoor

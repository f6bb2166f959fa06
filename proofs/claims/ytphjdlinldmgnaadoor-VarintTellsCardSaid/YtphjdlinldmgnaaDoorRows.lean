/-
  NARROWER THAN 'FOR EVERY INPUT', by the rows' own cells (each row's printed sentence says how): VarintNames: laid · VarintTells: laid · VarintBack: laid · VarintShort: laid · VarintRises: laid · VarintMany: laid.
  DERIVED. THE GIVEN ROWS OF THIS SEAT. 6 by the template 'for every input the law returns true; each argument reads behind the call as it read before'; 0 by the template 'total and deterministic' (their statements: YtphjdlinldmgnaaDoorTotals.lean).
  GIVEN WITH THE SEED: the statements are not yours to turn. If you find one false, say at which input.
  Laid BY PROGRAM, IN A SANDBOX (cutbox-rows.mjs): the forced cells as the released guide's own fill.sh prints them over the translation add9130e449c40d6… (all of the seat's roots in one cut). By AI agents, Wed Nov 11 2026. No macro, syntax, notation, axiom, sorry.
-/
import Derived.Test.YtphjdlinldmgnaaDoorChecked
import GoSem.Claim
import GoSem.ClaimJoined
import GoSem.ClaimMapViews
import Derived.JoinedTies
import Derived.KernelRfl
namespace Go.Proofs.YtphjdlinldmgnaaDoor
/- THE CELL 'sum', in the pinned program and in every row, IS THE sha256 OF THE DUMP (.gsa) THAT YtphjdlinldmgnaaDoorProg.lean LOADS. Nothing in Lean hashes anything: it is a label: what it is worth is what the hold of that sum in a sandbox is worth. -/
noncomputable def Tryd.pinned : Pinned := { name := "ytphjdlinldmgnaadoor", sum := "add9130e449c40d65c508ee56834aba093fc21c69edc7a0dc99e904fdafda34d", checked := Tryd.checked }
namespace Rows
def none {H : Type} : Left H := { results := [], args := [] }

/- WHAT THE LISTED PACKAGE-LEVEL VARIABLES READ AS WHEN THE CALL BEGINS. Each datum BY PROGRAM (the guide's laid-datum.mjs) off the statement by which the dump's own 'gosem.cut.vars' lays the variable. In a bare row this is a premise. The card (YtphjdlinldmgnaaDoorCards.lean) ties it to the program's text. -/
def laid_wigwag_varint_sizes {H : Type} : DataW H := .agg [.lit (.int .i64 1), .lit (.int .i64 2), .lit (.int .i64 4), .lit (.int .i64 8)]

/-- 'wigwaglaw03.VarintNames': WHATEVER THE INPUT: true; the input reads as it did. -/
def varintNamesSpec : ChangeSpec := { name := "varintNames", fn := fun _ => fun
  | [] => { results := [.lit (.bool true)], args := [] }
  | _ => none }
def varintNamesRow : OpenClaim := { program := "ytphjdlinldmgnaadoor", sum := "add9130e449c40d65c508ee56834aba093fc21c69edc7a0dc99e904fdafda34d", func := "wigwag/wigwaglaw03.VarintNames", spec := "varintNames", named := ["wigwag/varint.sizes"], apart := false, laid := [("wigwag/varint.sizes", laid_wigwag_varint_sizes)] }
def VarintNamesSaid : Prop := varintNamesRow.holds Tryd.pinned (OpenSpec.ofChange varintNamesSpec)

/-- ITS FALSE NEIGHBOUR: 'it returns false'. Refute it at one input. -/
def varintNamesWrong : ChangeSpec := { name := "varintNames", fn := fun _ => fun
  | [] => { results := [.lit (.bool false)], args := [] }
  | _ => none }
def VarintNamesWrongFalsely : Prop := varintNamesRow.holds Tryd.pinned (OpenSpec.ofChange varintNamesWrong)

/-- 'wigwaglaw03.VarintTells': WHATEVER THE INPUT: true; the input reads as it did. -/
def varintTellsSpec : ChangeSpec := { name := "varintTells", fn := fun _ => fun
  | [d1, d2] => { results := [.lit (.bool true)], args := [d1, d2] }
  | _ => none }
def varintTellsRow : OpenClaim := { program := "ytphjdlinldmgnaadoor", sum := "add9130e449c40d65c508ee56834aba093fc21c69edc7a0dc99e904fdafda34d", func := "wigwag/wigwaglaw03.VarintTells", spec := "varintTells", named := ["wigwag/varint.sizes"], apart := false, laid := [("wigwag/varint.sizes", laid_wigwag_varint_sizes)] }
def VarintTellsSaid : Prop := varintTellsRow.holds Tryd.pinned (OpenSpec.ofChange varintTellsSpec)

/-- ITS FALSE NEIGHBOUR: 'it returns false'. Refute it at one input. -/
def varintTellsWrong : ChangeSpec := { name := "varintTells", fn := fun _ => fun
  | [d1, d2] => { results := [.lit (.bool false)], args := [d1, d2] }
  | _ => none }
def VarintTellsWrongFalsely : Prop := varintTellsRow.holds Tryd.pinned (OpenSpec.ofChange varintTellsWrong)

/-- 'wigwaglaw03.VarintBack': WHATEVER THE INPUT: true; the input reads as it did. -/
def varintBackSpec : ChangeSpec := { name := "varintBack", fn := fun _ => fun
  | [d1, d2] => { results := [.lit (.bool true)], args := [d1, d2] }
  | _ => none }
def varintBackRow : OpenClaim := { program := "ytphjdlinldmgnaadoor", sum := "add9130e449c40d65c508ee56834aba093fc21c69edc7a0dc99e904fdafda34d", func := "wigwag/wigwaglaw03.VarintBack", spec := "varintBack", named := ["wigwag/varint.sizes"], apart := false, laid := [("wigwag/varint.sizes", laid_wigwag_varint_sizes)] }
def VarintBackSaid : Prop := varintBackRow.holds Tryd.pinned (OpenSpec.ofChange varintBackSpec)

/-- ITS FALSE NEIGHBOUR: 'it returns false'. Refute it at one input. -/
def varintBackWrong : ChangeSpec := { name := "varintBack", fn := fun _ => fun
  | [d1, d2] => { results := [.lit (.bool false)], args := [d1, d2] }
  | _ => none }
def VarintBackWrongFalsely : Prop := varintBackRow.holds Tryd.pinned (OpenSpec.ofChange varintBackWrong)

/-- 'wigwaglaw03.VarintShort': WHATEVER THE INPUT: true; the input reads as it did. -/
def varintShortSpec : ChangeSpec := { name := "varintShort", fn := fun _ => fun
  | [d1, d2] => { results := [.lit (.bool true)], args := [d1, d2] }
  | _ => none }
def varintShortRow : OpenClaim := { program := "ytphjdlinldmgnaadoor", sum := "add9130e449c40d65c508ee56834aba093fc21c69edc7a0dc99e904fdafda34d", func := "wigwag/wigwaglaw03.VarintShort", spec := "varintShort", named := ["wigwag/varint.sizes"], apart := false, laid := [("wigwag/varint.sizes", laid_wigwag_varint_sizes)] }
def VarintShortSaid : Prop := varintShortRow.holds Tryd.pinned (OpenSpec.ofChange varintShortSpec)

/-- ITS FALSE NEIGHBOUR: 'it returns false'. Refute it at one input. -/
def varintShortWrong : ChangeSpec := { name := "varintShort", fn := fun _ => fun
  | [d1, d2] => { results := [.lit (.bool false)], args := [d1, d2] }
  | _ => none }
def VarintShortWrongFalsely : Prop := varintShortRow.holds Tryd.pinned (OpenSpec.ofChange varintShortWrong)

/-- 'wigwaglaw03.VarintRises': WHATEVER THE INPUT: true; the input reads as it did. -/
def varintRisesSpec : ChangeSpec := { name := "varintRises", fn := fun _ => fun
  | [d1, d2] => { results := [.lit (.bool true)], args := [d1, d2] }
  | _ => none }
def varintRisesRow : OpenClaim := { program := "ytphjdlinldmgnaadoor", sum := "add9130e449c40d65c508ee56834aba093fc21c69edc7a0dc99e904fdafda34d", func := "wigwag/wigwaglaw03.VarintRises", spec := "varintRises", named := ["wigwag/varint.sizes"], apart := false, laid := [("wigwag/varint.sizes", laid_wigwag_varint_sizes)] }
def VarintRisesSaid : Prop := varintRisesRow.holds Tryd.pinned (OpenSpec.ofChange varintRisesSpec)

/-- ITS FALSE NEIGHBOUR: 'it returns false'. Refute it at one input. -/
def varintRisesWrong : ChangeSpec := { name := "varintRises", fn := fun _ => fun
  | [d1, d2] => { results := [.lit (.bool false)], args := [d1, d2] }
  | _ => none }
def VarintRisesWrongFalsely : Prop := varintRisesRow.holds Tryd.pinned (OpenSpec.ofChange varintRisesWrong)

/-- 'wigwaglaw03.VarintMany': WHATEVER THE INPUT: true; the input reads as it did. -/
def varintManySpec : ChangeSpec := { name := "varintMany", fn := fun _ => fun
  | [d] => { results := [.lit (.bool true)], args := [d] }
  | _ => none }
def varintManyRow : OpenClaim := { program := "ytphjdlinldmgnaadoor", sum := "add9130e449c40d65c508ee56834aba093fc21c69edc7a0dc99e904fdafda34d", func := "wigwag/wigwaglaw03.VarintMany", spec := "varintMany", named := ["wigwag/varint.sizes"], apart := false, laid := [("wigwag/varint.sizes", laid_wigwag_varint_sizes)] }
def VarintManySaid : Prop := varintManyRow.holds Tryd.pinned (OpenSpec.ofChange varintManySpec)

/-- ITS FALSE NEIGHBOUR: 'it returns false'. Refute it at one input. -/
def varintManyWrong : ChangeSpec := { name := "varintMany", fn := fun _ => fun
  | [d] => { results := [.lit (.bool false)], args := [d] }
  | _ => none }
def VarintManyWrongFalsely : Prop := varintManyRow.holds Tryd.pinned (OpenSpec.ofChange varintManyWrong)

/- THE SECOND FORM. 'bulk': how many values and letters a reading holds, each counted each time it is reached (what is shared counts as often as it is met; a slice's spare places count too). A statement '..UptoSaid' is the law's where the arguments, and the package variables that the reading takes, are together of bulk at most 1048576: NARROWER than '..Said'. Prove '..Said' where nothing that the law and all that it calls make is longer than what came in: it says more and counts as full. Else prove '..UptoSaid'. A law counts once. -/
mutual
def uptoBulk {H : Type} : DataW H → Nat
  | .lit (.string bytes) => bytes.length + 1
  | .lit _ => 1
  | .nil => 1
  | .ptr d => uptoBulk d + 1
  | .slice elems spare => uptoBulkAll elems + uptoBulkAll spare + 1
  | .agg parts => uptoBulkAll parts + 1
  | .iface _ d => uptoBulk d + 1
  | .map entries => uptoBulkEntries entries + 1
  | .held _ => 1
def uptoBulkAll {H : Type} : List (DataW H) → Nat
  | [] => 0
  | d :: r => uptoBulk d + uptoBulkAll r
def uptoBulkEntries {H : Type} : List (Lit × DataW H) → Nat
  | [] => 0
  | x :: r => uptoBulkEntry x + uptoBulkEntries r
def uptoBulkEntry {H : Type} : Lit × DataW H → Nat
  | (.string bytes, d) => bytes.length + uptoBulk d + 1
  | (_, d) => uptoBulk d + 1
 end
def uptoSmall : (H : Type) → List (DataW H) → Bool := fun _ ds => decide (uptoBulkAll ds ≤ 1048576)
def OpenSpec.upto (s : _root_.Go.ChangeSpec) : _root_.Go.OpenSpec := { _root_.Go.OpenSpec.ofChange s with cond := some uptoSmall }

/-- 'wigwaglaw03.VarintNames', WHERE WHAT IT READS IS OF BULK AT MOST 1048576: true; the input reads as it did. -/
def varintNamesUptoRow : OpenClaim := { program := "ytphjdlinldmgnaadoor", sum := "add9130e449c40d65c508ee56834aba093fc21c69edc7a0dc99e904fdafda34d", func := "wigwag/wigwaglaw03.VarintNames", spec := "varintNames", named := ["wigwag/varint.sizes"], apart := false, laid := [("wigwag/varint.sizes", laid_wigwag_varint_sizes)], narrowed := true }
def VarintNamesUptoSaid : Prop := varintNamesUptoRow.holds Tryd.pinned (OpenSpec.upto varintNamesSpec)

/-- 'wigwaglaw03.VarintTells', WHERE WHAT IT READS IS OF BULK AT MOST 1048576: true; the input reads as it did. -/
def varintTellsUptoRow : OpenClaim := { program := "ytphjdlinldmgnaadoor", sum := "add9130e449c40d65c508ee56834aba093fc21c69edc7a0dc99e904fdafda34d", func := "wigwag/wigwaglaw03.VarintTells", spec := "varintTells", named := ["wigwag/varint.sizes"], apart := false, laid := [("wigwag/varint.sizes", laid_wigwag_varint_sizes)], narrowed := true }
def VarintTellsUptoSaid : Prop := varintTellsUptoRow.holds Tryd.pinned (OpenSpec.upto varintTellsSpec)

/-- 'wigwaglaw03.VarintBack', WHERE WHAT IT READS IS OF BULK AT MOST 1048576: true; the input reads as it did. -/
def varintBackUptoRow : OpenClaim := { program := "ytphjdlinldmgnaadoor", sum := "add9130e449c40d65c508ee56834aba093fc21c69edc7a0dc99e904fdafda34d", func := "wigwag/wigwaglaw03.VarintBack", spec := "varintBack", named := ["wigwag/varint.sizes"], apart := false, laid := [("wigwag/varint.sizes", laid_wigwag_varint_sizes)], narrowed := true }
def VarintBackUptoSaid : Prop := varintBackUptoRow.holds Tryd.pinned (OpenSpec.upto varintBackSpec)

/-- 'wigwaglaw03.VarintShort', WHERE WHAT IT READS IS OF BULK AT MOST 1048576: true; the input reads as it did. -/
def varintShortUptoRow : OpenClaim := { program := "ytphjdlinldmgnaadoor", sum := "add9130e449c40d65c508ee56834aba093fc21c69edc7a0dc99e904fdafda34d", func := "wigwag/wigwaglaw03.VarintShort", spec := "varintShort", named := ["wigwag/varint.sizes"], apart := false, laid := [("wigwag/varint.sizes", laid_wigwag_varint_sizes)], narrowed := true }
def VarintShortUptoSaid : Prop := varintShortUptoRow.holds Tryd.pinned (OpenSpec.upto varintShortSpec)

/-- 'wigwaglaw03.VarintRises', WHERE WHAT IT READS IS OF BULK AT MOST 1048576: true; the input reads as it did. -/
def varintRisesUptoRow : OpenClaim := { program := "ytphjdlinldmgnaadoor", sum := "add9130e449c40d65c508ee56834aba093fc21c69edc7a0dc99e904fdafda34d", func := "wigwag/wigwaglaw03.VarintRises", spec := "varintRises", named := ["wigwag/varint.sizes"], apart := false, laid := [("wigwag/varint.sizes", laid_wigwag_varint_sizes)], narrowed := true }
def VarintRisesUptoSaid : Prop := varintRisesUptoRow.holds Tryd.pinned (OpenSpec.upto varintRisesSpec)

/-- 'wigwaglaw03.VarintMany', WHERE WHAT IT READS IS OF BULK AT MOST 1048576: true; the input reads as it did. -/
def varintManyUptoRow : OpenClaim := { program := "ytphjdlinldmgnaadoor", sum := "add9130e449c40d65c508ee56834aba093fc21c69edc7a0dc99e904fdafda34d", func := "wigwag/wigwaglaw03.VarintMany", spec := "varintMany", named := ["wigwag/varint.sizes"], apart := false, laid := [("wigwag/varint.sizes", laid_wigwag_varint_sizes)], narrowed := true }
def VarintManyUptoSaid : Prop := varintManyUptoRow.holds Tryd.pinned (OpenSpec.upto varintManySpec)

end Rows
end Go.Proofs.YtphjdlinldmgnaaDoor

/-
  What the listed tables give the walks: the cells of the table of sizes, and of the table of fields that are numbers; and the heap that the door's own run leaves meets the condition. No condition.
-/
import Derived.Test.YtogioabdijgglaaDoorFrA
import Derived.Test.YtogioabdijgglaaDoorRows
import Derived.Test.YtogioabdijgglaaDoorCards
import Derived.Test.YtogioabdijgglaaDoorTie
import Derived.Test.YtogioabdijgglaaDoorOpen
import Derived.ProofKit
import Derived.LaidMore
import Derived.OpenShut
import Derived.Stop.Joined
import Derived.Stop.LaidErr
import Derived.SevenTiedAt
namespace Go.Proofs.YtogioabdijgglaaDoor
open Go.ChangeShapes Go.WideShapes Go.ChangeAt Go.RowKit

def laidList : List (String × DataW Unit) := [("wigwag/varint.sizes", Rows.laid_wigwag_varint_sizes), ("wigwag/frame.numbers", Rows.laid_wigwag_frame_numbers)]
theorem gSizes : Tryd.prog.globalNamed "wigwag/varint.sizes" = some 1 := by kernel_rfl
theorem tSizes : (Tryd.prog.globals[1]?).map (·.type) = some 88 := by kernel_rfl
theorem cSizes : Tryd.prog.cellsOf 88 = 4 := by kernel_rfl
theorem cInt : Tryd.prog.cellsOf 3 = 1 := by kernel_rfl
theorem gNums : Tryd.prog.globalNamed "wigwag/frame.numbers" = some 0 := by kernel_rfl
theorem tNums : (Tryd.prog.globals[0]?).map (·.type) = some 76 := by kernel_rfl
theorem cNums : Tryd.prog.cellsOf 76 = 6 := by kernel_rfl
theorem cField : Tryd.prog.cellsOf 48 = 1 := by kernel_rfl
theorem tab_of_laid {W : World} (h : laidMetH Tryd.prog laidList W) : Tab W ∧ NTab W := by
  rw [MakeChecks.laidMetH_plain _ _ _ (by kernel_rfl)] at h
  have hT : Lib.TabIs Tryd.prog W "wigwag/varint.sizes" .i64 [1, 2, 4, 8] := Lib.tabIs_of_head gSizes tSizes Tryd.underlying88 Tryd.underlying3 cInt cSizes h
  have hN : Lib.TabIs Tryd.prog W "wigwag/frame.numbers" .i64 [0, 1, 2, 3, 4, 5] := Lib.tabIs_of_head gNums tNums Tryd.underlying76 Tryd.underlying48 cField cNums h.tail
  exact ⟨⟨hT.cell gSizes 0 (by decide), hT.cell gSizes 1 (by decide), hT.cell gSizes 2 (by decide), hT.cell gSizes 3 (by decide)⟩, ⟨hN.cell gNums 0 (by decide), hN.cell gNums 1 (by decide), hN.cell gNums 2 (by decide), hN.cell gNums 3 (by decide), hN.cell gNums 4 (by decide), hN.cell gNums 5 (by decide)⟩⟩
theorem door_met (os : Os) (args : Array Value) : laidMetH Tryd.prog laidList ((World.doorLaid Tryd.prog 400 os).forCall (fun _ _ => 0) ⟨#[], args, []⟩).memory :=
  laidMetH_of_parts3 (fuel := 8) (laidMet_of_run' 8 (by kernel_rfl) (by kernel_rfl)) (by kernel_rfl) (by kernel_rfl)
theorem tabs_below {w w' : World} (h : Tab w ∧ NTab w) (hb : Below w.heap.size w w') : Tab w' ∧ NTab w' := ⟨h.1.below hb, h.2.below hb⟩
theorem two_le {w : World} (h : Tab w ∧ NTab w) : 2 ≤ w.heap.size := by
  have h1 := World.block_lt_of_cell? w _ h.1.c0
  simp only [] at h1
  omega
end Go.Proofs.YtogioabdijgglaaDoor

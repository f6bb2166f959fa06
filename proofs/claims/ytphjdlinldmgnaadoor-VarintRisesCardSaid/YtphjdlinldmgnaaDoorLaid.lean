/-
  What the listed table of sizes gives the walks: its four cells; and the heap that the door's own run leaves meets the condition. No condition.
-/
import Derived.Test.YtphjdlinldmgnaaDoorVarA
import Derived.Test.YtphjdlinldmgnaaDoorRows
import Derived.Test.YtphjdlinldmgnaaDoorCards
import Derived.Test.YtphjdlinldmgnaaDoorTie
import Derived.Test.YtphjdlinldmgnaaDoorOpen
import Derived.ProofKit
import Derived.LaidMore
import Derived.OpenShut
import Derived.Stop.Joined
import Derived.SevenTiedAt
namespace Go.Proofs.YtphjdlinldmgnaaDoor
open Go.ChangeShapes Go.WideShapes Go.ChangeAt Go.RowKit

def laidList : List (String × DataW Unit) := [("wigwag/varint.sizes", Rows.laid_wigwag_varint_sizes)]
theorem gSizes : Tryd.prog.globalNamed "wigwag/varint.sizes" = some 0 := by kernel_rfl
theorem tSizes : (Tryd.prog.globals[0]?).map (·.type) = some 36 := by kernel_rfl
theorem cSizes : Tryd.prog.cellsOf 36 = 4 := by kernel_rfl
theorem cInt : Tryd.prog.cellsOf 3 = 1 := by kernel_rfl
theorem tab_of_laid {W : World} (h : laidMetH Tryd.prog laidList W) : Tab W := by
  rw [MakeChecks.laidMetH_plain _ _ _ (by kernel_rfl)] at h
  have hT : Lib.TabIs Tryd.prog W "wigwag/varint.sizes" .i64 [1, 2, 4, 8] := Lib.tabIs_of_head gSizes tSizes Tryd.underlying36 Tryd.underlying3 cInt cSizes h
  exact ⟨hT.cell gSizes 0 (by decide), hT.cell gSizes 1 (by decide), hT.cell gSizes 2 (by decide), hT.cell gSizes 3 (by decide)⟩
theorem door_met (os : Os) (args : Array Value) : laidMetH Tryd.prog laidList ((World.doorLaid Tryd.prog 400 os).forCall (fun _ _ => 0) ⟨#[], args, []⟩).memory :=
  laidMetH_of_parts3 (fuel := 8) (laidMet_of_run' 8 (by kernel_rfl) (by kernel_rfl)) (by kernel_rfl) (by kernel_rfl)
end Go.Proofs.YtphjdlinldmgnaaDoor

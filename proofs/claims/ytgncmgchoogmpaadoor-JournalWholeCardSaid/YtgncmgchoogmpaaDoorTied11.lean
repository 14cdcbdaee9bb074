/- The table of package crc reads as it is written when the call begins: what the statements' premise gives the walks. -/
import Derived.Test.YtgncmgchoogmpaaDoorRows
import Derived.Test.YtgncmgchoogmpaaDoorCards
import Derived.Test.YtgncmgchoogmpaaDoorTie
import Derived.Test.YtgncmgchoogmpaaDoorCrc11
import Derived.LaidMore
import Derived.OpenShut
import Derived.Stop.Joined
import Derived.SevenTiedAt
namespace Go.Proofs.YtgncmgchoogmpaaDoor
open Go.ChangeShapes Go.WideShapes Go.ChangeAt Go.RowKit

def laidT : List (String × DataW Unit) := [("lockgate/crc.fourSteps", Rows.laid_lockgate_crc_fourSteps)]
theorem gT : Tryd.prog.globalNamed "lockgate/crc.fourSteps" = some 0 := by kernel_rfl
theorem tyT : (Tryd.prog.globals[0]?).map (·.type) = some 109 := by kernel_rfl
theorem door_met (os : Os) (args : Array Value) : laidMetH Tryd.prog laidT ((World.doorLaid Tryd.prog 400 os).forCall (fun _ _ => 0) ⟨#[], args, []⟩).memory :=
  laidMetH_of_parts3 (fuel := 8) (laidMet_of_run' 8 (by kernel_rfl) (by kernel_rfl)) (by kernel_rfl) (by kernel_rfl)
theorem tab_of_laid {W : World} (h : laidMetH Tryd.prog laidT W) : Tab W := by
  rw [MakeChecks.laidMetH_plain _ _ _ (by kernel_rfl)] at h
  have hT := Lib.tabIs_of_head (k := .u32) (zs := Crc.tab.map uv) (rest := []) gT tyT Tryd.underlying109 Tryd.underlying72 (by kernel_rfl) (by kernel_rfl) h
  refine ⟨fun i hi => ?_⟩
  have h2 := hT.cell gT i (by simpa [Crc.tab] using hi)
  rw [h2]
  have hl : Crc.tab.length = 16 := rfl
  simp [List.getD, tabv, hl, hi]
theorem own : ownKnob Tryd.prog.godebug = none := by kernel_rfl
theorem laidOut : laidOutB Tryd.prog = true := by kernel_rfl
end Go.Proofs.YtgncmgchoogmpaaDoor

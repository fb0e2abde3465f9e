/- What the rows of laws with lists among their arguments want: a list that came in, opened. -/
import Derived.Test.YtglfjlbhjaemgaaGreatDoorPa14
import Derived.ProofKit
import Derived.SizedLaws
import Derived.ChangeSlices
import Derived.Carry
namespace Go.Proofs.YtglfjlbhjaemgaaGreatDoor
open Go.ChangeShapes Go.WideShapes Go.ChangeAt Go.RowKit
theorem Tryz.laidOut : laidOutB Tryz.prog = true := by kernel_rfl
theorem Tryz.cells3 : Tryz.prog.cellsOf 3 = 1 := by kernel_rfl
theorem Tryz.cells5 : Tryz.prog.cellsOf 5 = 1 := by kernel_rfl
end Go.Proofs.YtglfjlbhjaemgaaGreatDoor

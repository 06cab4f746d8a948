/-
  What the row and the card ask of the program itself (apart, for the kernel's memory).
  Conditions: each theorem's own.
-/
import Derived.Test.YteegkoicalbkbaaGreatDoorLawHOVR
namespace Go.Proofs.YteegkoicalbkbaaGreatDoor.hostOnce
open Go.ChangeShapes Go.WideShapes Go.ChangeAt Go.RowKit
set_option linter.unusedVariables false

theorem row_goes:false=Rows.hostOnceRow.goesBy Tryz.pinned.checked.prog:=by kernel_rfl
end Go.Proofs.YteegkoicalbkbaaGreatDoor.hostOnce


/-
  What the row and the card ask of the program itself (apart, for the kernel's memory).
  Conditions: each theorem's own.
-/
import Derived.Test.YteegkoicalbkbaaGreatDoorLawHOVP
namespace Go.Proofs.YteegkoicalbkbaaGreatDoor.hostOnce
open Go.ChangeShapes Go.WideShapes Go.ChangeAt Go.RowKit
set_option linter.unusedVariables false

theorem row_inPlace:(Rows.hostOnceRow.inPlace == Tryz.pinned.checked.prog.inPlace 5)=true:=by kernel_rfl
theorem row_unfollowed:(Rows.hostOnceRow.unfollowed == Tryz.pinned.checked.prog.unfollowed 5)=true:=by kernel_rfl
theorem row_laidOut:laidOutB Tryz.pinned.checked.prog=true:=laidOut
end Go.Proofs.YteegkoicalbkbaaGreatDoor.hostOnce


/-
  What the row and the card ask of the program itself (apart, for the kernel's memory).
  Conditions: each theorem's own.
-/
import Derived.Test.YteegkoicalbkbaaGreatDoorLawHVVP
namespace Go.Proofs.YteegkoicalbkbaaGreatDoor.hostVersions
open Go.ChangeShapes Go.WideShapes Go.ChangeAt Go.RowKit
set_option linter.unusedVariables false

theorem row_inPlace:(Rows.hostVersionsRow.inPlace == Tryz.pinned.checked.prog.inPlace 7)=true:=by kernel_rfl
theorem row_unfollowed:(Rows.hostVersionsRow.unfollowed == Tryz.pinned.checked.prog.unfollowed 7)=true:=by kernel_rfl
theorem row_laidOut:laidOutB Tryz.pinned.checked.prog=true:=laidOut
end Go.Proofs.YteegkoicalbkbaaGreatDoor.hostVersions


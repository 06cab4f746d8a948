/-
  What the row and the card ask of the program itself (apart, for the kernel's memory).
  Conditions: each theorem's own.
-/
import Derived.Test.YteegkoicalbkbaaGreatDoorLawHOVQ
namespace Go.Proofs.YteegkoicalbkbaaGreatDoor.hostOnce
open Go.ChangeShapes Go.WideShapes Go.ChangeAt Go.RowKit
set_option linter.unusedVariables false

theorem row_recurses:(Rows.hostOnceRow.recurses == Tryz.pinned.checked.prog.recurses 5)=true:=by kernel_rfl
theorem row_named:(Rows.hostOnceRow.named == Tryz.pinned.checked.prog.varsNamed 5)=true:=by kernel_rfl
theorem row_maps:mapsRowed Tryz.pinned.checked.prog=true:=by kernel_rfl
end Go.Proofs.YteegkoicalbkbaaGreatDoor.hostOnce


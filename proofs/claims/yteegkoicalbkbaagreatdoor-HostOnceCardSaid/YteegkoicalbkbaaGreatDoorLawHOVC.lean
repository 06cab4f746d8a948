/-
  What the row and the card ask of the program itself (apart, for the kernel's memory).
  Conditions: each theorem's own.
-/
import Derived.Test.YteegkoicalbkbaaGreatDoorLawHOVG
namespace Go.Proofs.YteegkoicalbkbaaGreatDoor.hostOnce
open Go.ChangeShapes Go.WideShapes Go.ChangeAt Go.RowKit
set_option linter.unusedVariables false

theorem row_closed:joinedFacts Tryz.pinned.checked.prog 5 Tryz.f5 Rows.hostOnceSpec Rows.hostOnceRow=true:=by unfold joinedFacts; rw [row_laidOut,row_maps,row_inPlace,row_unfollowed,row_recurses,row_named]; kernel_rfl
end Go.Proofs.YteegkoicalbkbaaGreatDoor.hostOnce


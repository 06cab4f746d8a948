/-
  What the row and the card ask of the program itself (apart, for the kernel's memory).
  Conditions: each theorem's own.
-/
import Derived.Test.YteegkoicalbkbaaGreatDoorLawHOVC
namespace Go.Proofs.YteegkoicalbkbaaGreatDoor.hostOnce
open Go.ChangeShapes Go.WideShapes Go.ChangeAt Go.RowKit
set_option linter.unusedVariables false

theorem row_holds:Rows.HostOnceSaid :=
 OpenClaim.holds_of_wide 5 Tryz.f5 rfl rfl rfl rfl rfl rfl rfl ⟨rfl,rfl,rfl,rfl,rfl⟩ rfl rfl rfl rfl rfl (by kernel_rfl) Tryz.func5 row_closed
  (of_decide_eq_true (by kernel_rfl)) (by unfold Func.isWrapper; first | (rw [if_pos (by decide +kernel)]; kernel_rfl) | (rw [if_neg (by decide +kernel)]; exact ⟨rfl,rfl⟩))
  (fun os started H enc _=>lifted os started H enc)

end Go.Proofs.YteegkoicalbkbaaGreatDoor.hostOnce


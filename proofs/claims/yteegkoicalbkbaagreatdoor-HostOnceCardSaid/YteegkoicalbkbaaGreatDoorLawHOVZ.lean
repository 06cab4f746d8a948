/-
  What the row and the card ask of the program itself (apart, for the kernel's memory).
  Conditions: each theorem's own.
-/
import Derived.Test.YteegkoicalbkbaaGreatDoorLawHOVS
namespace Go.Proofs.YteegkoicalbkbaaGreatDoor.hostOnce
open Go.ChangeShapes Go.WideShapes Go.ChangeAt Go.RowKit
set_option linter.unusedVariables false

theorem proved:Rows.HostOnceCardSaid :=
 Claim7.holds_tied_plain_at .later [] Rows.hostOnceCard.laidKinds true Rows.hostOnceCard.stood.harness Rows.hostOnceCard.stood.looks row_holds (fun _ h=>by cases h) (by kernel_rfl) (fun _ h=>by cases h) hostOnce_row_tie rfl ⟨rfl,rfl⟩ (by kernel_rfl) rfl
  (fun f fn hf hfn=>by
   obtain rfl:f=5:=Option.some.inj ((show Tryz.prog.funcNamed Rows.hostOnceRow.func=some 5 by kernel_rfl).symm.trans hf) |>.symm
   obtain rfl:fn=Tryz.f5:=(Option.some.inj (Tryz.func5.symm.trans hfn)).symm
   exact ⟨by kernel_rfl,fun j t ht=>by
    rw [Tryz.params5] at ht
    have hm:t∈[22]:=by simpa using Array.mem_of_getElem? ht
    have hall:([22].all fun u=>!Tryz.prog.wantsStandIn u)=true:=by kernel_rfl
    exact (show Tryz.prog.wantsStandIn t=false by simpa using List.all_eq_true.1 hall t hm)⟩)
  row_goes
end Go.Proofs.YteegkoicalbkbaaGreatDoor.hostOnce

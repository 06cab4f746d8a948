/-
  What the row and the card ask of the program itself (apart, for the kernel's memory).
  Conditions: each theorem's own.
-/
import Derived.Test.YteegkoicalbkbaaGreatDoorLawHOV
import Derived.Test.YteegkoicalbkbaaGreatDoorRows
import Derived.Test.YteegkoicalbkbaaGreatDoorCards
import Derived.Test.YteegkoicalbkbaaGreatDoorTie
namespace Go.Proofs.YteegkoicalbkbaaGreatDoor.hostOnce
open Go.ChangeShapes Go.WideShapes Go.ChangeAt Go.RowKit
set_option linter.unusedVariables false

theorem own:ownKnob Tryz.prog.godebug=none:=by kernel_rfl
theorem laidOut:laidOutB Tryz.prog=true:=by kernel_rfl

theorem walk (w:World) (hl:yc w) (h5:vY w) (a0:Option Addr) (len0 cap0:Nat) (l0:List Jx) (s0:IsReqs17 w a0 len0 l0) :
  Calls Tryz.prog 5 #[.slice a0 len0 cap0] w fun e w'=>e=.returned (.bool true)∧Below w.heap.size w w':=by
 obtain ⟨h1,h2,h3,h4⟩:=s0
 exact ho17_walk a0 cap0 len0 l0 w hl h5 h1 (by omega) h3 h4

set_option maxRecDepth 100000 in
theorem lifted (os:Os) (started:os.Started) (H:Type) (enc:TypeId×Value→H) :
  ReturnsInHanded {} Tryz.checked os 5 .any (fun w args=>(Rows.hostOnceSpec.pre enc Tryz.prog Tryz.f5 Rows.hostOnceRow.domain false w args∧laidMetH Tryz.prog Rows.hostOnceRow.laid w)∧sizedMet enc Tryz.prog Tryz.f5 (OpenSpec.ofChange Rows.hostOnceSpec) false w args)
   (Rows.hostOnceSpec.post enc Tryz.prog Tryz.f5 false true false false):=by
 refine returns_laid17 (C:=Tryz.checked) (X:=fun w _=>laidMetH Tryz.prog Rows.hostOnceRow.laid w) (fun _ _ _ hh h=>h.of_heap hh) own started (by kernel_rfl) Tryz.func5
  (ChangeSpec.witness_shaped (enc:=enc) (C:=Tryz.checked) (os:=os) (X:=fun w _=>laidMetH Tryz.prog Rows.hostOnceRow.laid w) false (World.laidAll Tryz.prog os Rows.hostOnceRow.laid) #[.slice none 0 0] 8 (World.laidAll_os _ _ _)
   (World.shaped_of_ZipB (by kernel_rfl) (by kernel_rfl)) (by kernel_rfl) (by kernel_rfl) (by kernel_rfl)
   (by rw [MakeChecks.laidMetH_plain _ _ _ (by kernel_rfl)]; exact laidMet_laidAll _ (by kernel_rfl) (by kernel_rfl))) ?_
 intro W base args ds gs before hval0 hW hsh hlx
 have hval:∀ (j:Nat) t v,Tryz.f5.params[j]? = some t→args[j]? = some v→Value.okWide Tryz.prog W .any base t v:=hval0
 have hW':=hW
 obtain ⟨p,q,hA0,hV,rfl,hfz,hnd⟩:=hW
 have hA:DataW.TrodAll enc Tryz.prog W 0 (fun _=>true) true Tryz.f5.params.toList args.toList ds p:=hA0
 rw [Tryz.params5] at hA hval
 obtain ⟨v0,vs0,d0,ds0,p0,q0,hargs,rfl,rfl,h0,r0⟩:=trodAll_cons hA
 obtain ⟨rfl,rfl,rfl⟩:=trodAll_nil r0
 obtain rfl:args=#[v0]:=by cases args; simp_all
 obtain ⟨rfl,rfl⟩:=trodVars_none hV
 obtain ⟨a0,len0,cap0,rfl⟩:=okWide_slice Tryz.underlying22 (hval 0 22 v0 rfl rfl)
 have lt0:∀ x∈p0,x.block<W.heap.size:=by obtain ⟨m,hm⟩:=h0; exact DataW.trod_lt m _ _ _ hm
 obtain ⟨l0,s0⟩:=reqs17_of h0
 clear hA0 hval0
 refine (walk W (laid17_of hlx (by kernel_rfl) (by kernel_rfl)) (len5_of hsh) a0 len0 cap0 l0 s0).mono fun e W' ⟨he,bel⟩=>?_
 subst he
 exact ⟨_,rfl,_,_,_,[],_,[],hW',trodAll_mk1 (shut_bool Tryz.underlying4 _),(trodAll_cons_mk (Below.trod laidOut (by kernel_rfl) (of_decide_eq_true (by kernel_rfl)) h0 bel lt0) trodAll_mk0),rfl,bel.frame _,fun h=>by cases h⟩

end Go.Proofs.YteegkoicalbkbaaGreatDoor.hostOnce


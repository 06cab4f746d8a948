/-
  NARROWER THAN 'FOR EVERY INPUT', by the rows' own cells (each row's printed sentence says how): OpBytes: laid · OpReads: laid · OpReplies: laid · OpNames: laid.
  DERIVED. THE GIVEN ROWS OF THIS SEAT. 4 by the template 'for every input the law returns true; each argument reads behind the call as it read before'; 0 by the template 'total and deterministic' (their statements: YtacmjmfdhegojaaDoorTotals.lean).
  GIVEN WITH THE SEED: the statements are not yours to turn. If you find one false, say at which input.
  Laid BY PROGRAM, IN A SANDBOX (cutbox-rows.mjs): the forced cells as the released guide's own fill.sh prints them over the translation b4363e95187426c4… (all of the seat's roots in one cut). By AI agents, Wed Nov 11 2026. No macro, syntax, notation, axiom, sorry.
-/
import Derived.Test.YtacmjmfdhegojaaDoorChecked
import GoSem.Claim
import GoSem.ClaimJoined
import GoSem.ClaimMapViews
import Derived.JoinedTies
import Derived.KernelRfl
namespace Go.Proofs.YtacmjmfdhegojaaDoor
/- THE CELL 'sum', in the pinned program and in every row, IS THE sha256 OF THE DUMP (.gsa) THAT YtacmjmfdhegojaaDoorProg.lean LOADS. Nothing in Lean hashes anything: it is a label: what it is worth is what the hold of that sum in a sandbox is worth. -/
noncomputable def Tryd.pinned : Pinned := { name := "ytacmjmfdhegojaadoor", sum := "b4363e95187426c438e5b0c597a6dbc8107cd0b223c11cddf3fccb3715a72173", checked := Tryd.checked }
namespace Rows
def none {H : Type} : Left H := { results := [], args := [] }

/- WHAT THE LISTED PACKAGE-LEVEL VARIABLES READ AS WHEN THE CALL BEGINS. Each datum BY PROGRAM (the guide's laid-datum.mjs) off the statement by which the dump's own 'gosem.cut.vars' lays the variable. In a bare row this is a premise. The card (YtacmjmfdhegojaaDoorCards.lean) ties it to the program's text. -/
def laid_interrex_op_traits {H : Type} : DataW H := .agg [.agg [.lit (.string [99, 114, 101, 97, 116, 101]), .lit (.string [97, 98]), .lit (.int .i64 1)], .agg [.lit (.string [100, 101, 108, 101, 116, 101]), .lit (.string [97]), .lit (.int .i64 1)], .agg [.lit (.string [115, 101, 116, 104, 97, 115, 104]), .lit (.string [97, 98]), .lit (.int .i64 1)], .agg [.lit (.string [108, 111, 111, 107, 117, 112]), .lit (.string [97]), .lit (.int .i64 1)], .agg [.lit (.string [108, 105, 115, 116]), .lit (.string [97]), .lit (.int .i64 1)], .agg [.lit (.string [115, 101, 116, 109, 97, 105, 108]), .lit (.string [97, 98]), .lit (.int .i64 2)], .agg [.lit (.string [100, 105, 115, 97, 98, 108, 101]), .lit (.string [97]), .lit (.int .i64 2)], .agg [.lit (.string [101, 110, 97, 98, 108, 101]), .lit (.string [97]), .lit (.int .i64 2)], .agg [.lit (.string [114, 101, 110, 97, 109, 101]), .lit (.string [97, 98]), .lit (.int .i64 2)], .agg [.lit (.string [109, 97, 107, 101]), .lit (.string [97]), .lit (.int .i64 2)], .agg [.lit (.string [100, 114, 111, 112]), .lit (.string [97]), .lit (.int .i64 2)], .agg [.lit (.string [106, 111, 105, 110]), .lit (.string [97, 98]), .lit (.int .i64 2)], .agg [.lit (.string [108, 101, 97, 118, 101]), .lit (.string [97, 98]), .lit (.int .i64 2)], .agg [.lit (.string [102, 105, 110, 100]), .lit (.string [97]), .lit (.int .i64 2)], .agg [.lit (.string [109, 101, 109, 98, 101, 114, 115]), .lit (.string [97]), .lit (.int .i64 2)], .agg [.lit (.string [117, 112, 103, 114, 97, 100, 101]), .lit (.string []), .lit (.int .i64 1)], .agg [.lit (.string [97, 100, 118, 101, 114, 116, 105, 115, 101]), .lit (.string [110, 114]), .lit (.int .i64 1)]]

/-- 'interrexlaw14.OpBytes': WHATEVER THE INPUT: true; the input reads as it did. -/
def opBytesSpec : ChangeSpec := { name := "opBytes", fn := fun _ => fun
  | [d] => { results := [.lit (.bool true)], args := [d] }
  | _ => none }
def opBytesRow : OpenClaim := { program := "ytacmjmfdhegojaadoor", sum := "b4363e95187426c438e5b0c597a6dbc8107cd0b223c11cddf3fccb3715a72173", func := "interrex/interrexlaw14.OpBytes", spec := "opBytes", named := ["interrex/op.traits"], apart := false, laid := [("interrex/op.traits", laid_interrex_op_traits)] }
def OpBytesSaid : Prop := opBytesRow.holds Tryd.pinned (OpenSpec.ofChange opBytesSpec)

/-- ITS FALSE NEIGHBOUR: 'it returns false'. Refute it at one input. -/
def opBytesWrong : ChangeSpec := { name := "opBytes", fn := fun _ => fun
  | [d] => { results := [.lit (.bool false)], args := [d] }
  | _ => none }
def OpBytesWrongFalsely : Prop := opBytesRow.holds Tryd.pinned (OpenSpec.ofChange opBytesWrong)

/-- 'interrexlaw14.OpReads': WHATEVER THE INPUT: true; the input reads as it did. -/
def opReadsSpec : ChangeSpec := { name := "opReads", fn := fun _ => fun
  | [d] => { results := [.lit (.bool true)], args := [d] }
  | _ => none }
def opReadsRow : OpenClaim := { program := "ytacmjmfdhegojaadoor", sum := "b4363e95187426c438e5b0c597a6dbc8107cd0b223c11cddf3fccb3715a72173", func := "interrex/interrexlaw14.OpReads", spec := "opReads", named := ["interrex/op.traits"], apart := false, laid := [("interrex/op.traits", laid_interrex_op_traits)] }
def OpReadsSaid : Prop := opReadsRow.holds Tryd.pinned (OpenSpec.ofChange opReadsSpec)

/-- ITS FALSE NEIGHBOUR: 'it returns false'. Refute it at one input. -/
def opReadsWrong : ChangeSpec := { name := "opReads", fn := fun _ => fun
  | [d] => { results := [.lit (.bool false)], args := [d] }
  | _ => none }
def OpReadsWrongFalsely : Prop := opReadsRow.holds Tryd.pinned (OpenSpec.ofChange opReadsWrong)

/-- 'interrexlaw14.OpReplies': WHATEVER THE INPUT: true; the input reads as it did. -/
def opRepliesSpec : ChangeSpec := { name := "opReplies", fn := fun _ => fun
  | [d1, d2, d3] => { results := [.lit (.bool true)], args := [d1, d2, d3] }
  | _ => none }
def opRepliesRow : OpenClaim := { program := "ytacmjmfdhegojaadoor", sum := "b4363e95187426c438e5b0c597a6dbc8107cd0b223c11cddf3fccb3715a72173", func := "interrex/interrexlaw14.OpReplies", spec := "opReplies", named := ["interrex/op.traits"], apart := false, laid := [("interrex/op.traits", laid_interrex_op_traits)] }
def OpRepliesSaid : Prop := opRepliesRow.holds Tryd.pinned (OpenSpec.ofChange opRepliesSpec)

/-- ITS FALSE NEIGHBOUR: 'it returns false'. Refute it at one input. -/
def opRepliesWrong : ChangeSpec := { name := "opReplies", fn := fun _ => fun
  | [d1, d2, d3] => { results := [.lit (.bool false)], args := [d1, d2, d3] }
  | _ => none }
def OpRepliesWrongFalsely : Prop := opRepliesRow.holds Tryd.pinned (OpenSpec.ofChange opRepliesWrong)

/-- 'interrexlaw14.OpNames': WHATEVER THE INPUT: true; the input reads as it did. -/
def opNamesSpec : ChangeSpec := { name := "opNames", fn := fun _ => fun
  | [d1, d2, d3, d4, d5, d6] => { results := [.lit (.bool true)], args := [d1, d2, d3, d4, d5, d6] }
  | _ => none }
def opNamesRow : OpenClaim := { program := "ytacmjmfdhegojaadoor", sum := "b4363e95187426c438e5b0c597a6dbc8107cd0b223c11cddf3fccb3715a72173", func := "interrex/interrexlaw14.OpNames", spec := "opNames", named := ["interrex/op.traits"], apart := false, laid := [("interrex/op.traits", laid_interrex_op_traits)] }
def OpNamesSaid : Prop := opNamesRow.holds Tryd.pinned (OpenSpec.ofChange opNamesSpec)

/-- ITS FALSE NEIGHBOUR: 'it returns false'. Refute it at one input. -/
def opNamesWrong : ChangeSpec := { name := "opNames", fn := fun _ => fun
  | [d1, d2, d3, d4, d5, d6] => { results := [.lit (.bool false)], args := [d1, d2, d3, d4, d5, d6] }
  | _ => none }
def OpNamesWrongFalsely : Prop := opNamesRow.holds Tryd.pinned (OpenSpec.ofChange opNamesWrong)

/- THE SECOND FORM. 'bulk': how many values and letters a reading holds, each counted each time it is reached (what is shared counts as often as it is met; a slice's spare places count too). A statement '..UptoSaid' is the law's where the arguments, and the package variables that the reading takes, are together of bulk at most 1048576: NARROWER than '..Said'. Prove '..Said' where nothing that the law and all that it calls make is longer than what came in: it says more and counts as full. Else prove '..UptoSaid'. A law counts once. -/
mutual
def uptoBulk {H : Type} : DataW H → Nat
  | .lit (.string bytes) => bytes.length + 1
  | .lit _ => 1
  | .nil => 1
  | .ptr d => uptoBulk d + 1
  | .slice elems spare => uptoBulkAll elems + uptoBulkAll spare + 1
  | .agg parts => uptoBulkAll parts + 1
  | .iface _ d => uptoBulk d + 1
  | .map entries => uptoBulkEntries entries + 1
  | .held _ => 1
def uptoBulkAll {H : Type} : List (DataW H) → Nat
  | [] => 0
  | d :: r => uptoBulk d + uptoBulkAll r
def uptoBulkEntries {H : Type} : List (Lit × DataW H) → Nat
  | [] => 0
  | x :: r => uptoBulkEntry x + uptoBulkEntries r
def uptoBulkEntry {H : Type} : Lit × DataW H → Nat
  | (.string bytes, d) => bytes.length + uptoBulk d + 1
  | (_, d) => uptoBulk d + 1
 end
def uptoSmall : (H : Type) → List (DataW H) → Bool := fun _ ds => decide (uptoBulkAll ds ≤ 1048576)
def OpenSpec.upto (s : _root_.Go.ChangeSpec) : _root_.Go.OpenSpec := { _root_.Go.OpenSpec.ofChange s with cond := some uptoSmall }

/-- 'interrexlaw14.OpBytes', WHERE WHAT IT READS IS OF BULK AT MOST 1048576: true; the input reads as it did. -/
def opBytesUptoRow : OpenClaim := { program := "ytacmjmfdhegojaadoor", sum := "b4363e95187426c438e5b0c597a6dbc8107cd0b223c11cddf3fccb3715a72173", func := "interrex/interrexlaw14.OpBytes", spec := "opBytes", named := ["interrex/op.traits"], apart := false, laid := [("interrex/op.traits", laid_interrex_op_traits)], narrowed := true }
def OpBytesUptoSaid : Prop := opBytesUptoRow.holds Tryd.pinned (OpenSpec.upto opBytesSpec)

/-- 'interrexlaw14.OpReads', WHERE WHAT IT READS IS OF BULK AT MOST 1048576: true; the input reads as it did. -/
def opReadsUptoRow : OpenClaim := { program := "ytacmjmfdhegojaadoor", sum := "b4363e95187426c438e5b0c597a6dbc8107cd0b223c11cddf3fccb3715a72173", func := "interrex/interrexlaw14.OpReads", spec := "opReads", named := ["interrex/op.traits"], apart := false, laid := [("interrex/op.traits", laid_interrex_op_traits)], narrowed := true }
def OpReadsUptoSaid : Prop := opReadsUptoRow.holds Tryd.pinned (OpenSpec.upto opReadsSpec)

/-- 'interrexlaw14.OpReplies', WHERE WHAT IT READS IS OF BULK AT MOST 1048576: true; the input reads as it did. -/
def opRepliesUptoRow : OpenClaim := { program := "ytacmjmfdhegojaadoor", sum := "b4363e95187426c438e5b0c597a6dbc8107cd0b223c11cddf3fccb3715a72173", func := "interrex/interrexlaw14.OpReplies", spec := "opReplies", named := ["interrex/op.traits"], apart := false, laid := [("interrex/op.traits", laid_interrex_op_traits)], narrowed := true }
def OpRepliesUptoSaid : Prop := opRepliesUptoRow.holds Tryd.pinned (OpenSpec.upto opRepliesSpec)

/-- 'interrexlaw14.OpNames', WHERE WHAT IT READS IS OF BULK AT MOST 1048576: true; the input reads as it did. -/
def opNamesUptoRow : OpenClaim := { program := "ytacmjmfdhegojaadoor", sum := "b4363e95187426c438e5b0c597a6dbc8107cd0b223c11cddf3fccb3715a72173", func := "interrex/interrexlaw14.OpNames", spec := "opNames", named := ["interrex/op.traits"], apart := false, laid := [("interrex/op.traits", laid_interrex_op_traits)], narrowed := true }
def OpNamesUptoSaid : Prop := opNamesUptoRow.holds Tryd.pinned (OpenSpec.upto opNamesSpec)

end Rows
end Go.Proofs.YtacmjmfdhegojaaDoor

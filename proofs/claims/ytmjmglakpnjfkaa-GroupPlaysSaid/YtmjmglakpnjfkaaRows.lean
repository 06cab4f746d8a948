/-
  No cell of these rows narrows 'for every input' (looked for: loops, veiled, ifaces, maps, wideKeys, modest, calm, conditions, laid).
  DERIVED. THE GIVEN ROWS OF THIS SEAT. 3 by the template 'for every input the law returns true; each argument reads behind the call as it read before'; 0 by the template 'total and deterministic' (their statements: YtmjmglakpnjfkaaTotals.lean).
  GIVEN WITH THE SEED: the statements are not yours to turn. If you find one false, say at which input.
  Laid BY PROGRAM, IN A SANDBOX (cutbox-rows.mjs): the forced cells as the released guide's own fill.sh prints them over the translation cd98e096788ea1a9… (all of the seat's roots in one cut). By AI agents, Wed Nov 11 2026. No macro, syntax, notation, axiom, sorry.
-/
import Derived.Test.YtmjmglakpnjfkaaChecked
import GoSem.Claim
import GoSem.ClaimJoined
import GoSem.ClaimMapViews
import Derived.JoinedTies
import Derived.KernelRfl
namespace Go.Proofs.Ytmjmglakpnjfkaa
/- THE CELL 'sum', in the pinned program and in every row, IS THE sha256 OF THE DUMP (.gsa) THAT YtmjmglakpnjfkaaProg.lean LOADS. Nothing in Lean hashes anything: it is a label: what it is worth is what the hold of that sum in a sandbox is worth. -/
noncomputable def Try.pinned : Pinned := { name := "ytmjmglakpnjfkaa", sum := "cd98e096788ea1a964184ab5f57ae836258bd394ac8601ad398c04a81d7aaee8", checked := Try.checked }
namespace Rows
def none {H : Type} : Left H := { results := [], args := [] }

/-- 'interrexlaw10.GroupPlays': WHATEVER THE INPUT: true; the input reads as it did. -/
def groupPlaysSpec : ChangeSpec := { name := "groupPlays", fn := fun _ => fun
  | [d1, d2] => { results := [.lit (.bool true)], args := [d1, d2] }
  | _ => none }
def groupPlaysRow : OpenClaim := { program := "ytmjmglakpnjfkaa", sum := "cd98e096788ea1a964184ab5f57ae836258bd394ac8601ad398c04a81d7aaee8", func := "interrex/interrexlaw10.GroupPlays", spec := "groupPlays", inPlace := ["internal/bytealg.abigen_runtime_cmpstring", "maps.clone"], unfollowed := true, recurses := true, apart := false }
def GroupPlaysSaid : Prop := groupPlaysRow.holds Try.pinned (OpenSpec.ofChange groupPlaysSpec)

/-- ITS FALSE NEIGHBOUR: 'it returns false'. Refute it at one input. -/
def groupPlaysWrong : ChangeSpec := { name := "groupPlays", fn := fun _ => fun
  | [d1, d2] => { results := [.lit (.bool false)], args := [d1, d2] }
  | _ => none }
def GroupPlaysWrongFalsely : Prop := groupPlaysRow.holds Try.pinned (OpenSpec.ofChange groupPlaysWrong)

/-- 'interrexlaw10.GroupBoth': WHATEVER THE INPUT: true; the input reads as it did. -/
def groupBothSpec : ChangeSpec := { name := "groupBoth", fn := fun _ => fun
  | [d] => { results := [.lit (.bool true)], args := [d] }
  | _ => none }
def groupBothRow : OpenClaim := { program := "ytmjmglakpnjfkaa", sum := "cd98e096788ea1a964184ab5f57ae836258bd394ac8601ad398c04a81d7aaee8", func := "interrex/interrexlaw10.GroupBoth", spec := "groupBoth", inPlace := ["internal/bytealg.abigen_runtime_cmpstring", "maps.clone"], unfollowed := true, recurses := true, apart := false }
def GroupBothSaid : Prop := groupBothRow.holds Try.pinned (OpenSpec.ofChange groupBothSpec)

/-- ITS FALSE NEIGHBOUR: 'it returns false'. Refute it at one input. -/
def groupBothWrong : ChangeSpec := { name := "groupBoth", fn := fun _ => fun
  | [d] => { results := [.lit (.bool false)], args := [d] }
  | _ => none }
def GroupBothWrongFalsely : Prop := groupBothRow.holds Try.pinned (OpenSpec.ofChange groupBothWrong)

/-- 'interrexlaw10.GroupGone': WHATEVER THE INPUT: true; the input reads as it did. -/
def groupGoneSpec : ChangeSpec := { name := "groupGone", fn := fun _ => fun
  | [d1, d2, d3] => { results := [.lit (.bool true)], args := [d1, d2, d3] }
  | _ => none }
def groupGoneRow : OpenClaim := { program := "ytmjmglakpnjfkaa", sum := "cd98e096788ea1a964184ab5f57ae836258bd394ac8601ad398c04a81d7aaee8", func := "interrex/interrexlaw10.GroupGone", spec := "groupGone", inPlace := ["internal/bytealg.abigen_runtime_cmpstring", "maps.clone"], unfollowed := true, recurses := true, apart := false }
def GroupGoneSaid : Prop := groupGoneRow.holds Try.pinned (OpenSpec.ofChange groupGoneSpec)

/-- ITS FALSE NEIGHBOUR: 'it returns false'. Refute it at one input. -/
def groupGoneWrong : ChangeSpec := { name := "groupGone", fn := fun _ => fun
  | [d1, d2, d3] => { results := [.lit (.bool false)], args := [d1, d2, d3] }
  | _ => none }
def GroupGoneWrongFalsely : Prop := groupGoneRow.holds Try.pinned (OpenSpec.ofChange groupGoneWrong)

/- THE SECOND FORM. 'bulk': how many values and letters a reading holds, each counted each time it is reached (what is shared counts as often as it is met; a slice's spare places count too). A statement '..UptoSaid' is the law's where the arguments, and the package variables that the reading takes, are together of bulk at most 1048576: NARROWER than '..Said'. Prove '..Said' where nothing that the law and all that it calls make is longer than what came in: it says more and counts as full. Else prove '..UptoSaid'. A law counts once. -/
mutual
def uptoBulk {H : Type} : DataW H → Nat
  | .lit (.string bytes) => bytes.length + 1
  | .lit _ => 1
  | .nil => 1
  | .ptr d => uptoBulk d + 1
  | .slice elems spare => uptoBulkAll elems + uptoBulkAll spare + 1
  | .agg parts => uptoBulkAll parts + 1
  | .iface _ d => uptoBulk d + 1
  | .map entries => uptoBulkEntries entries + 1
  | .held _ => 1
def uptoBulkAll {H : Type} : List (DataW H) → Nat
  | [] => 0
  | d :: r => uptoBulk d + uptoBulkAll r
def uptoBulkEntries {H : Type} : List (Lit × DataW H) → Nat
  | [] => 0
  | x :: r => uptoBulkEntry x + uptoBulkEntries r
def uptoBulkEntry {H : Type} : Lit × DataW H → Nat
  | (.string bytes, d) => bytes.length + uptoBulk d + 1
  | (_, d) => uptoBulk d + 1
 end
def uptoSmall : (H : Type) → List (DataW H) → Bool := fun _ ds => decide (uptoBulkAll ds ≤ 1048576)
def OpenSpec.upto (s : _root_.Go.ChangeSpec) : _root_.Go.OpenSpec := { _root_.Go.OpenSpec.ofChange s with cond := some uptoSmall }

/-- 'interrexlaw10.GroupPlays', WHERE WHAT IT READS IS OF BULK AT MOST 1048576: true; the input reads as it did. -/
def groupPlaysUptoRow : OpenClaim := { program := "ytmjmglakpnjfkaa", sum := "cd98e096788ea1a964184ab5f57ae836258bd394ac8601ad398c04a81d7aaee8", func := "interrex/interrexlaw10.GroupPlays", spec := "groupPlays", inPlace := ["internal/bytealg.abigen_runtime_cmpstring", "maps.clone"], unfollowed := true, recurses := true, apart := false, narrowed := true }
def GroupPlaysUptoSaid : Prop := groupPlaysUptoRow.holds Try.pinned (OpenSpec.upto groupPlaysSpec)

/-- 'interrexlaw10.GroupBoth', WHERE WHAT IT READS IS OF BULK AT MOST 1048576: true; the input reads as it did. -/
def groupBothUptoRow : OpenClaim := { program := "ytmjmglakpnjfkaa", sum := "cd98e096788ea1a964184ab5f57ae836258bd394ac8601ad398c04a81d7aaee8", func := "interrex/interrexlaw10.GroupBoth", spec := "groupBoth", inPlace := ["internal/bytealg.abigen_runtime_cmpstring", "maps.clone"], unfollowed := true, recurses := true, apart := false, narrowed := true }
def GroupBothUptoSaid : Prop := groupBothUptoRow.holds Try.pinned (OpenSpec.upto groupBothSpec)

/-- 'interrexlaw10.GroupGone', WHERE WHAT IT READS IS OF BULK AT MOST 1048576: true; the input reads as it did. -/
def groupGoneUptoRow : OpenClaim := { program := "ytmjmglakpnjfkaa", sum := "cd98e096788ea1a964184ab5f57ae836258bd394ac8601ad398c04a81d7aaee8", func := "interrex/interrexlaw10.GroupGone", spec := "groupGone", inPlace := ["internal/bytealg.abigen_runtime_cmpstring", "maps.clone"], unfollowed := true, recurses := true, apart := false, narrowed := true }
def GroupGoneUptoSaid : Prop := groupGoneUptoRow.holds Try.pinned (OpenSpec.upto groupGoneSpec)

end Rows
end Go.Proofs.Ytmjmglakpnjfkaa

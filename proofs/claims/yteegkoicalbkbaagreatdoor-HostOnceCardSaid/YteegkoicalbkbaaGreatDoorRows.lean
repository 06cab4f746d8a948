/-
  NARROWER THAN 'FOR EVERY INPUT', by the rows' own cells (each row's printed sentence says how): HostPlays: laid · HostOf: laid · HostOnce: laid · HostUpgrades: laid · HostVersions: laid.
  DERIVED. THE GIVEN ROWS OF THIS SEAT. 5 by the template 'for every input the law returns true; each argument reads behind the call as it read before'; 0 by the template 'total and deterministic' (their statements: YteegkoicalbkbaaGreatDoorTotals.lean).
  GIVEN WITH THE SEED: the statements are not yours to turn. If you find one false, say at which input.
  Laid BY PROGRAM, IN A SANDBOX (cutbox-rows.mjs): the forced cells as the released guide's own fill.sh prints them over the translation 4cfc18cc9875d399… (all of the seat's roots in one cut). By AI agents, Wed Nov 11 2026. No macro, syntax, notation, axiom, sorry.
-/
import Derived.Test.YteegkoicalbkbaaGreatDoorChecked
import GoSem.PinnedTables
import GoSem.Claim
import GoSem.ClaimJoined
import GoSem.ClaimMapViews
import Derived.JoinedTies
import Derived.KernelRfl
namespace Go.Proofs.YteegkoicalbkbaaGreatDoor
/- THE CELL 'sum', in the pinned program and in every row, IS THE sha256 OF THE DUMP (.gsa) THAT YteegkoicalbkbaaGreatDoorProg.lean LOADS. Nothing in Lean hashes anything: it is a label: what it is worth is what the hold of that sum in a sandbox is worth. -/
noncomputable def Tryz.pinned : Pinned := { name := "yteegkoicalbkbaagreatdoor", sum := "4cfc18cc9875d3999acc0c8db347ca4c1536d73f3ed4676a59dec8bc5eeac980", checked := Tryz.checked }
namespace Rows
def none {H : Type} : Left H := { results := [], args := [] }

/- WHAT THE LISTED PACKAGE-LEVEL VARIABLES READ AS WHEN THE CALL BEGINS. Each datum BY PROGRAM (the guide's laid-datum.mjs) off the statement by which the dump's own 'gosem.cut.vars' lays the variable. In a bare row this is a premise. The card (YteegkoicalbkbaaGreatDoorCards.lean) ties it to the program's text. -/
def laid_unicode_utf8_acceptRanges {H : Type} : DataW H := .agg [.agg [.lit (.int .u8 128), .lit (.int .u8 191)], .agg [.lit (.int .u8 160), .lit (.int .u8 191)], .agg [.lit (.int .u8 128), .lit (.int .u8 159)], .agg [.lit (.int .u8 144), .lit (.int .u8 191)], .agg [.lit (.int .u8 128), .lit (.int .u8 143)], .agg [.lit (.int .u8 0), .lit (.int .u8 0)], .agg [.lit (.int .u8 0), .lit (.int .u8 0)], .agg [.lit (.int .u8 0), .lit (.int .u8 0)], .agg [.lit (.int .u8 0), .lit (.int .u8 0)], .agg [.lit (.int .u8 0), .lit (.int .u8 0)], .agg [.lit (.int .u8 0), .lit (.int .u8 0)], .agg [.lit (.int .u8 0), .lit (.int .u8 0)], .agg [.lit (.int .u8 0), .lit (.int .u8 0)], .agg [.lit (.int .u8 0), .lit (.int .u8 0)], .agg [.lit (.int .u8 0), .lit (.int .u8 0)], .agg [.lit (.int .u8 0), .lit (.int .u8 0)]]
def laid_interrex_op_traits {H : Type} : DataW H := .agg [.agg [.lit (.string [99, 114, 101, 97, 116, 101]), .lit (.string [97, 98]), .lit (.int .i64 1)], .agg [.lit (.string [100, 101, 108, 101, 116, 101]), .lit (.string [97]), .lit (.int .i64 1)], .agg [.lit (.string [115, 101, 116, 104, 97, 115, 104]), .lit (.string [97, 98]), .lit (.int .i64 1)], .agg [.lit (.string [108, 111, 111, 107, 117, 112]), .lit (.string [97]), .lit (.int .i64 1)], .agg [.lit (.string [108, 105, 115, 116]), .lit (.string [97]), .lit (.int .i64 1)], .agg [.lit (.string [115, 101, 116, 109, 97, 105, 108]), .lit (.string [97, 98]), .lit (.int .i64 2)], .agg [.lit (.string [100, 105, 115, 97, 98, 108, 101]), .lit (.string [97]), .lit (.int .i64 2)], .agg [.lit (.string [101, 110, 97, 98, 108, 101]), .lit (.string [97]), .lit (.int .i64 2)], .agg [.lit (.string [114, 101, 110, 97, 109, 101]), .lit (.string [97, 98]), .lit (.int .i64 2)], .agg [.lit (.string [109, 97, 107, 101]), .lit (.string [97]), .lit (.int .i64 2)], .agg [.lit (.string [100, 114, 111, 112]), .lit (.string [97]), .lit (.int .i64 2)], .agg [.lit (.string [106, 111, 105, 110]), .lit (.string [97, 98]), .lit (.int .i64 2)], .agg [.lit (.string [108, 101, 97, 118, 101]), .lit (.string [97, 98]), .lit (.int .i64 2)], .agg [.lit (.string [102, 105, 110, 100]), .lit (.string [97]), .lit (.int .i64 2)], .agg [.lit (.string [109, 101, 109, 98, 101, 114, 115]), .lit (.string [97]), .lit (.int .i64 2)], .agg [.lit (.string [117, 112, 103, 114, 97, 100, 101]), .lit (.string []), .lit (.int .i64 1)], .agg [.lit (.string [97, 100, 118, 101, 114, 116, 105, 115, 101]), .lit (.string [110, 114]), .lit (.int .i64 1)]]
/-- One of Go's own tables, pinned by name: the form's constant. -/
def laid_unicode_utf8_first : DataW Unit := Go.Pinned.utf8First

/-- 'interrexlaw17.HostPlays': WHATEVER THE INPUT: true; the input reads as it did. -/
def hostPlaysSpec : ChangeSpec := { name := "hostPlays", fn := fun _ => fun
  | [d1, d2] => { results := [.lit (.bool true)], args := [d1, d2] }
  | _ => none }
def hostPlaysRow : OpenClaim := { program := "yteegkoicalbkbaagreatdoor", sum := "4cfc18cc9875d3999acc0c8db347ca4c1536d73f3ed4676a59dec8bc5eeac980", func := "interrex/interrexlaw17.HostPlays", spec := "hostPlays", inPlace := ["internal/bytealg.abigen_runtime_cmpstring", "internal/bytealg.IndexByteString", "internal/bytealg.IndexString", "internal/bytealg.CountString"], unfollowed := true, recurses := true, named := ["interrex/op.traits", "internal/bytealg.MaxLen", "unicode/utf8.first", "unicode/utf8.acceptRanges"], apart := false, laid := [("unicode/utf8.acceptRanges", laid_unicode_utf8_acceptRanges), ("interrex/op.traits", laid_interrex_op_traits), ("unicode/utf8.first", laid_unicode_utf8_first)] }
def HostPlaysSaid : Prop := hostPlaysRow.holds Tryz.pinned (OpenSpec.ofChange hostPlaysSpec)

/-- ITS FALSE NEIGHBOUR: 'it returns false'. Refute it at one input. -/
def hostPlaysWrong : ChangeSpec := { name := "hostPlays", fn := fun _ => fun
  | [d1, d2] => { results := [.lit (.bool false)], args := [d1, d2] }
  | _ => none }
def HostPlaysWrongFalsely : Prop := hostPlaysRow.holds Tryz.pinned (OpenSpec.ofChange hostPlaysWrong)

/-- 'interrexlaw17.HostOf': WHATEVER THE INPUT: true; the input reads as it did. -/
def hostOfSpec : ChangeSpec := { name := "hostOf", fn := fun _ => fun
  | [d1, d2, d3] => { results := [.lit (.bool true)], args := [d1, d2, d3] }
  | _ => none }
def hostOfRow : OpenClaim := { program := "yteegkoicalbkbaagreatdoor", sum := "4cfc18cc9875d3999acc0c8db347ca4c1536d73f3ed4676a59dec8bc5eeac980", func := "interrex/interrexlaw17.HostOf", spec := "hostOf", inPlace := ["internal/bytealg.abigen_runtime_cmpstring", "internal/bytealg.IndexByteString", "internal/bytealg.IndexString", "internal/bytealg.CountString"], unfollowed := true, recurses := true, named := ["interrex/op.traits", "internal/bytealg.MaxLen", "unicode/utf8.first", "unicode/utf8.acceptRanges"], apart := false, laid := [("unicode/utf8.acceptRanges", laid_unicode_utf8_acceptRanges), ("interrex/op.traits", laid_interrex_op_traits), ("unicode/utf8.first", laid_unicode_utf8_first)] }
def HostOfSaid : Prop := hostOfRow.holds Tryz.pinned (OpenSpec.ofChange hostOfSpec)

/-- ITS FALSE NEIGHBOUR: 'it returns false'. Refute it at one input. -/
def hostOfWrong : ChangeSpec := { name := "hostOf", fn := fun _ => fun
  | [d1, d2, d3] => { results := [.lit (.bool false)], args := [d1, d2, d3] }
  | _ => none }
def HostOfWrongFalsely : Prop := hostOfRow.holds Tryz.pinned (OpenSpec.ofChange hostOfWrong)

/-- 'interrexlaw17.HostOnce': WHATEVER THE INPUT: true; the input reads as it did. -/
def hostOnceSpec : ChangeSpec := { name := "hostOnce", fn := fun _ => fun
  | [d] => { results := [.lit (.bool true)], args := [d] }
  | _ => none }
def hostOnceRow : OpenClaim := { program := "yteegkoicalbkbaagreatdoor", sum := "4cfc18cc9875d3999acc0c8db347ca4c1536d73f3ed4676a59dec8bc5eeac980", func := "interrex/interrexlaw17.HostOnce", spec := "hostOnce", inPlace := ["internal/bytealg.abigen_runtime_cmpstring", "internal/bytealg.IndexByteString", "internal/bytealg.IndexString", "internal/bytealg.CountString"], unfollowed := true, recurses := true, named := ["interrex/op.traits", "internal/bytealg.MaxLen", "unicode/utf8.first", "unicode/utf8.acceptRanges"], apart := false, laid := [("unicode/utf8.acceptRanges", laid_unicode_utf8_acceptRanges), ("interrex/op.traits", laid_interrex_op_traits), ("unicode/utf8.first", laid_unicode_utf8_first)] }
def HostOnceSaid : Prop := hostOnceRow.holds Tryz.pinned (OpenSpec.ofChange hostOnceSpec)

/-- ITS FALSE NEIGHBOUR: 'it returns false'. Refute it at one input. -/
def hostOnceWrong : ChangeSpec := { name := "hostOnce", fn := fun _ => fun
  | [d] => { results := [.lit (.bool false)], args := [d] }
  | _ => none }
def HostOnceWrongFalsely : Prop := hostOnceRow.holds Tryz.pinned (OpenSpec.ofChange hostOnceWrong)

/-- 'interrexlaw17.HostUpgrades': WHATEVER THE INPUT: true; the input reads as it did. -/
def hostUpgradesSpec : ChangeSpec := { name := "hostUpgrades", fn := fun _ => fun
  | [d] => { results := [.lit (.bool true)], args := [d] }
  | _ => none }
def hostUpgradesRow : OpenClaim := { program := "yteegkoicalbkbaagreatdoor", sum := "4cfc18cc9875d3999acc0c8db347ca4c1536d73f3ed4676a59dec8bc5eeac980", func := "interrex/interrexlaw17.HostUpgrades", spec := "hostUpgrades", inPlace := ["internal/bytealg.abigen_runtime_cmpstring", "internal/bytealg.IndexByteString", "internal/bytealg.IndexString", "internal/bytealg.CountString"], unfollowed := true, recurses := true, named := ["interrex/op.traits", "internal/bytealg.MaxLen", "unicode/utf8.first", "unicode/utf8.acceptRanges"], apart := false, laid := [("unicode/utf8.acceptRanges", laid_unicode_utf8_acceptRanges), ("interrex/op.traits", laid_interrex_op_traits), ("unicode/utf8.first", laid_unicode_utf8_first)] }
def HostUpgradesSaid : Prop := hostUpgradesRow.holds Tryz.pinned (OpenSpec.ofChange hostUpgradesSpec)

/-- ITS FALSE NEIGHBOUR: 'it returns false'. Refute it at one input. -/
def hostUpgradesWrong : ChangeSpec := { name := "hostUpgrades", fn := fun _ => fun
  | [d] => { results := [.lit (.bool false)], args := [d] }
  | _ => none }
def HostUpgradesWrongFalsely : Prop := hostUpgradesRow.holds Tryz.pinned (OpenSpec.ofChange hostUpgradesWrong)

/-- 'interrexlaw17.HostVersions': WHATEVER THE INPUT: true; the input reads as it did. -/
def hostVersionsSpec : ChangeSpec := { name := "hostVersions", fn := fun _ => fun
  | [d] => { results := [.lit (.bool true)], args := [d] }
  | _ => none }
def hostVersionsRow : OpenClaim := { program := "yteegkoicalbkbaagreatdoor", sum := "4cfc18cc9875d3999acc0c8db347ca4c1536d73f3ed4676a59dec8bc5eeac980", func := "interrex/interrexlaw17.HostVersions", spec := "hostVersions", inPlace := ["internal/bytealg.abigen_runtime_cmpstring", "internal/bytealg.IndexByteString", "internal/bytealg.IndexString", "internal/bytealg.CountString"], unfollowed := true, recurses := true, named := ["interrex/op.traits", "internal/bytealg.MaxLen", "unicode/utf8.first", "unicode/utf8.acceptRanges"], apart := false, laid := [("unicode/utf8.acceptRanges", laid_unicode_utf8_acceptRanges), ("interrex/op.traits", laid_interrex_op_traits), ("unicode/utf8.first", laid_unicode_utf8_first)] }
def HostVersionsSaid : Prop := hostVersionsRow.holds Tryz.pinned (OpenSpec.ofChange hostVersionsSpec)

/-- ITS FALSE NEIGHBOUR: 'it returns false'. Refute it at one input. -/
def hostVersionsWrong : ChangeSpec := { name := "hostVersions", fn := fun _ => fun
  | [d] => { results := [.lit (.bool false)], args := [d] }
  | _ => none }
def HostVersionsWrongFalsely : Prop := hostVersionsRow.holds Tryz.pinned (OpenSpec.ofChange hostVersionsWrong)

/- THE SECOND FORM. 'bulk': how many values and letters a reading holds, each counted each time it is reached (what is shared counts as often as it is met; a slice's spare places count too). A statement '..UptoSaid' is the law's where the arguments, and the package variables that the reading takes, are together of bulk at most 1048576: NARROWER than '..Said'. Prove '..Said' where nothing that the law and all that it calls make is longer than what came in: it says more and counts as full. Else prove '..UptoSaid'. A law counts once. -/
mutual
def uptoBulk {H : Type} : DataW H → Nat
  | .lit (.string bytes) => bytes.length + 1
  | .lit _ => 1
  | .nil => 1
  | .ptr d => uptoBulk d + 1
  | .slice elems spare => uptoBulkAll elems + uptoBulkAll spare + 1
  | .agg parts => uptoBulkAll parts + 1
  | .iface _ d => uptoBulk d + 1
  | .map entries => uptoBulkEntries entries + 1
  | .held _ => 1
def uptoBulkAll {H : Type} : List (DataW H) → Nat
  | [] => 0
  | d :: r => uptoBulk d + uptoBulkAll r
def uptoBulkEntries {H : Type} : List (Lit × DataW H) → Nat
  | [] => 0
  | x :: r => uptoBulkEntry x + uptoBulkEntries r
def uptoBulkEntry {H : Type} : Lit × DataW H → Nat
  | (.string bytes, d) => bytes.length + uptoBulk d + 1
  | (_, d) => uptoBulk d + 1
 end
def uptoSmall : (H : Type) → List (DataW H) → Bool := fun _ ds => decide (uptoBulkAll ds ≤ 1048576)
def OpenSpec.upto (s : _root_.Go.ChangeSpec) : _root_.Go.OpenSpec := { _root_.Go.OpenSpec.ofChange s with cond := some uptoSmall }

/-- 'interrexlaw17.HostPlays', WHERE WHAT IT READS IS OF BULK AT MOST 1048576: true; the input reads as it did. -/
def hostPlaysUptoRow : OpenClaim := { program := "yteegkoicalbkbaagreatdoor", sum := "4cfc18cc9875d3999acc0c8db347ca4c1536d73f3ed4676a59dec8bc5eeac980", func := "interrex/interrexlaw17.HostPlays", spec := "hostPlays", inPlace := ["internal/bytealg.abigen_runtime_cmpstring", "internal/bytealg.IndexByteString", "internal/bytealg.IndexString", "internal/bytealg.CountString"], unfollowed := true, recurses := true, named := ["interrex/op.traits", "internal/bytealg.MaxLen", "unicode/utf8.first", "unicode/utf8.acceptRanges"], apart := false, laid := [("unicode/utf8.acceptRanges", laid_unicode_utf8_acceptRanges), ("interrex/op.traits", laid_interrex_op_traits), ("unicode/utf8.first", laid_unicode_utf8_first)], narrowed := true }
def HostPlaysUptoSaid : Prop := hostPlaysUptoRow.holds Tryz.pinned (OpenSpec.upto hostPlaysSpec)

/-- 'interrexlaw17.HostOf', WHERE WHAT IT READS IS OF BULK AT MOST 1048576: true; the input reads as it did. -/
def hostOfUptoRow : OpenClaim := { program := "yteegkoicalbkbaagreatdoor", sum := "4cfc18cc9875d3999acc0c8db347ca4c1536d73f3ed4676a59dec8bc5eeac980", func := "interrex/interrexlaw17.HostOf", spec := "hostOf", inPlace := ["internal/bytealg.abigen_runtime_cmpstring", "internal/bytealg.IndexByteString", "internal/bytealg.IndexString", "internal/bytealg.CountString"], unfollowed := true, recurses := true, named := ["interrex/op.traits", "internal/bytealg.MaxLen", "unicode/utf8.first", "unicode/utf8.acceptRanges"], apart := false, laid := [("unicode/utf8.acceptRanges", laid_unicode_utf8_acceptRanges), ("interrex/op.traits", laid_interrex_op_traits), ("unicode/utf8.first", laid_unicode_utf8_first)], narrowed := true }
def HostOfUptoSaid : Prop := hostOfUptoRow.holds Tryz.pinned (OpenSpec.upto hostOfSpec)

/-- 'interrexlaw17.HostOnce', WHERE WHAT IT READS IS OF BULK AT MOST 1048576: true; the input reads as it did. -/
def hostOnceUptoRow : OpenClaim := { program := "yteegkoicalbkbaagreatdoor", sum := "4cfc18cc9875d3999acc0c8db347ca4c1536d73f3ed4676a59dec8bc5eeac980", func := "interrex/interrexlaw17.HostOnce", spec := "hostOnce", inPlace := ["internal/bytealg.abigen_runtime_cmpstring", "internal/bytealg.IndexByteString", "internal/bytealg.IndexString", "internal/bytealg.CountString"], unfollowed := true, recurses := true, named := ["interrex/op.traits", "internal/bytealg.MaxLen", "unicode/utf8.first", "unicode/utf8.acceptRanges"], apart := false, laid := [("unicode/utf8.acceptRanges", laid_unicode_utf8_acceptRanges), ("interrex/op.traits", laid_interrex_op_traits), ("unicode/utf8.first", laid_unicode_utf8_first)], narrowed := true }
def HostOnceUptoSaid : Prop := hostOnceUptoRow.holds Tryz.pinned (OpenSpec.upto hostOnceSpec)

/-- 'interrexlaw17.HostUpgrades', WHERE WHAT IT READS IS OF BULK AT MOST 1048576: true; the input reads as it did. -/
def hostUpgradesUptoRow : OpenClaim := { program := "yteegkoicalbkbaagreatdoor", sum := "4cfc18cc9875d3999acc0c8db347ca4c1536d73f3ed4676a59dec8bc5eeac980", func := "interrex/interrexlaw17.HostUpgrades", spec := "hostUpgrades", inPlace := ["internal/bytealg.abigen_runtime_cmpstring", "internal/bytealg.IndexByteString", "internal/bytealg.IndexString", "internal/bytealg.CountString"], unfollowed := true, recurses := true, named := ["interrex/op.traits", "internal/bytealg.MaxLen", "unicode/utf8.first", "unicode/utf8.acceptRanges"], apart := false, laid := [("unicode/utf8.acceptRanges", laid_unicode_utf8_acceptRanges), ("interrex/op.traits", laid_interrex_op_traits), ("unicode/utf8.first", laid_unicode_utf8_first)], narrowed := true }
def HostUpgradesUptoSaid : Prop := hostUpgradesUptoRow.holds Tryz.pinned (OpenSpec.upto hostUpgradesSpec)

/-- 'interrexlaw17.HostVersions', WHERE WHAT IT READS IS OF BULK AT MOST 1048576: true; the input reads as it did. -/
def hostVersionsUptoRow : OpenClaim := { program := "yteegkoicalbkbaagreatdoor", sum := "4cfc18cc9875d3999acc0c8db347ca4c1536d73f3ed4676a59dec8bc5eeac980", func := "interrex/interrexlaw17.HostVersions", spec := "hostVersions", inPlace := ["internal/bytealg.abigen_runtime_cmpstring", "internal/bytealg.IndexByteString", "internal/bytealg.IndexString", "internal/bytealg.CountString"], unfollowed := true, recurses := true, named := ["interrex/op.traits", "internal/bytealg.MaxLen", "unicode/utf8.first", "unicode/utf8.acceptRanges"], apart := false, laid := [("unicode/utf8.acceptRanges", laid_unicode_utf8_acceptRanges), ("interrex/op.traits", laid_interrex_op_traits), ("unicode/utf8.first", laid_unicode_utf8_first)], narrowed := true }
def HostVersionsUptoSaid : Prop := hostVersionsUptoRow.holds Tryz.pinned (OpenSpec.upto hostVersionsSpec)

end Rows
end Go.Proofs.YteegkoicalbkbaaGreatDoor

/-
  NARROWER THAN 'FOR EVERY INPUT', by the rows' own cells (each row's printed sentence says how): NewerPlays: laid · NewerAsks: laid · NewerOf: laid · NewerApart: laid · FolioBytes: laid · FolioReads: laid · FolioApart: laid · FolioMost: laid.
  DERIVED. THE GIVEN ROWS OF THIS SEAT. 8 by the template 'for every input the law returns true; each argument reads behind the call as it read before'; 0 by the template 'total and deterministic' (their statements: YtmcomnocpibiiaaGreatDoorTotals.lean).
  GIVEN WITH THE SEED: the statements are not yours to turn. If you find one false, say at which input.
  Laid BY PROGRAM, IN A SANDBOX (cutbox-rows.mjs): the forced cells as the released guide's own fill.sh prints them over the translation a8385e7e8449645e… (all of the seat's roots in one cut). By AI agents, Wed Nov 11 2026. No macro, syntax, notation, axiom, sorry.
-/
import Derived.Test.YtmcomnocpibiiaaGreatDoorChecked
import GoSem.PinnedTables
import GoSem.Claim
import GoSem.ClaimJoined
import GoSem.ClaimMapViews
import Derived.JoinedTies
import Derived.KernelRfl
namespace Go.Proofs.YtmcomnocpibiiaaGreatDoor
/- THE CELL 'sum', in the pinned program and in every row, IS THE sha256 OF THE DUMP (.gsa) THAT YtmcomnocpibiiaaGreatDoorProg.lean LOADS. Nothing in Lean hashes anything: it is a label: what it is worth is what the hold of that sum in a sandbox is worth. -/
noncomputable def Tryz.pinned : Pinned := { name := "ytmcomnocpibiiaagreatdoor", sum := "a8385e7e8449645e4d87f7db6e9445e112ea998c22d1ca0e902673397e6c91dc", checked := Tryz.checked }
namespace Rows
def none {H : Type} : Left H := { results := [], args := [] }

/- WHAT THE LISTED PACKAGE-LEVEL VARIABLES READ AS WHEN THE CALL BEGINS. Each datum BY PROGRAM (the guide's laid-datum.mjs) off the statement by which the dump's own 'gosem.cut.vars' lays the variable. In a bare row this is a premise. The card (YtmcomnocpibiiaaGreatDoorCards.lean) ties it to the program's text. -/
def laid_unicode_utf8_acceptRanges {H : Type} : DataW H := .agg [.agg [.lit (.int .u8 128), .lit (.int .u8 191)], .agg [.lit (.int .u8 160), .lit (.int .u8 191)], .agg [.lit (.int .u8 128), .lit (.int .u8 159)], .agg [.lit (.int .u8 144), .lit (.int .u8 191)], .agg [.lit (.int .u8 128), .lit (.int .u8 143)], .agg [.lit (.int .u8 0), .lit (.int .u8 0)], .agg [.lit (.int .u8 0), .lit (.int .u8 0)], .agg [.lit (.int .u8 0), .lit (.int .u8 0)], .agg [.lit (.int .u8 0), .lit (.int .u8 0)], .agg [.lit (.int .u8 0), .lit (.int .u8 0)], .agg [.lit (.int .u8 0), .lit (.int .u8 0)], .agg [.lit (.int .u8 0), .lit (.int .u8 0)], .agg [.lit (.int .u8 0), .lit (.int .u8 0)], .agg [.lit (.int .u8 0), .lit (.int .u8 0)], .agg [.lit (.int .u8 0), .lit (.int .u8 0)], .agg [.lit (.int .u8 0), .lit (.int .u8 0)]]
/-- One of Go's own tables, pinned by name: the form's constant. -/
def laid_unicode_utf8_first : DataW Unit := Go.Pinned.utf8First

/-- 'interrexlaw11.NewerPlays': WHATEVER THE INPUT: true; the input reads as it did. -/
def newerPlaysSpec : ChangeSpec := { name := "newerPlays", fn := fun _ => fun
  | [d] => { results := [.lit (.bool true)], args := [d] }
  | _ => none }
def newerPlaysRow : OpenClaim := { program := "ytmcomnocpibiiaagreatdoor", sum := "a8385e7e8449645e4d87f7db6e9445e112ea998c22d1ca0e902673397e6c91dc", func := "interrex/interrexlaw11.NewerPlays", spec := "newerPlays", inPlace := ["internal/bytealg.IndexByteString", "internal/bytealg.IndexString", "internal/bytealg.CountString", "internal/bytealg.abigen_runtime_cmpstring", "maps.clone"], unfollowed := true, recurses := true, named := ["internal/bytealg.MaxLen", "unicode/utf8.first", "unicode/utf8.acceptRanges"], apart := false, laid := [("unicode/utf8.acceptRanges", laid_unicode_utf8_acceptRanges), ("unicode/utf8.first", laid_unicode_utf8_first)] }
def NewerPlaysSaid : Prop := newerPlaysRow.holds Tryz.pinned (OpenSpec.ofChange newerPlaysSpec)

/-- ITS FALSE NEIGHBOUR: 'it returns false'. Refute it at one input. -/
def newerPlaysWrong : ChangeSpec := { name := "newerPlays", fn := fun _ => fun
  | [d] => { results := [.lit (.bool false)], args := [d] }
  | _ => none }
def NewerPlaysWrongFalsely : Prop := newerPlaysRow.holds Tryz.pinned (OpenSpec.ofChange newerPlaysWrong)

/-- 'interrexlaw11.NewerAsks': WHATEVER THE INPUT: true; the input reads as it did. -/
def newerAsksSpec : ChangeSpec := { name := "newerAsks", fn := fun _ => fun
  | [d1, d2, d3, d4, d5] => { results := [.lit (.bool true)], args := [d1, d2, d3, d4, d5] }
  | _ => none }
def newerAsksRow : OpenClaim := { program := "ytmcomnocpibiiaagreatdoor", sum := "a8385e7e8449645e4d87f7db6e9445e112ea998c22d1ca0e902673397e6c91dc", func := "interrex/interrexlaw11.NewerAsks", spec := "newerAsks", inPlace := ["internal/bytealg.IndexByteString", "internal/bytealg.IndexString", "internal/bytealg.CountString", "internal/bytealg.abigen_runtime_cmpstring", "maps.clone"], unfollowed := true, recurses := true, named := ["internal/bytealg.MaxLen", "unicode/utf8.first", "unicode/utf8.acceptRanges"], apart := false, laid := [("unicode/utf8.acceptRanges", laid_unicode_utf8_acceptRanges), ("unicode/utf8.first", laid_unicode_utf8_first)] }
def NewerAsksSaid : Prop := newerAsksRow.holds Tryz.pinned (OpenSpec.ofChange newerAsksSpec)

/-- ITS FALSE NEIGHBOUR: 'it returns false'. Refute it at one input. -/
def newerAsksWrong : ChangeSpec := { name := "newerAsks", fn := fun _ => fun
  | [d1, d2, d3, d4, d5] => { results := [.lit (.bool false)], args := [d1, d2, d3, d4, d5] }
  | _ => none }
def NewerAsksWrongFalsely : Prop := newerAsksRow.holds Tryz.pinned (OpenSpec.ofChange newerAsksWrong)

/-- 'interrexlaw11.NewerOf': WHATEVER THE INPUT: true; the input reads as it did. -/
def newerOfSpec : ChangeSpec := { name := "newerOf", fn := fun _ => fun
  | [d1, d2] => { results := [.lit (.bool true)], args := [d1, d2] }
  | _ => none }
def newerOfRow : OpenClaim := { program := "ytmcomnocpibiiaagreatdoor", sum := "a8385e7e8449645e4d87f7db6e9445e112ea998c22d1ca0e902673397e6c91dc", func := "interrex/interrexlaw11.NewerOf", spec := "newerOf", inPlace := ["internal/bytealg.IndexByteString", "internal/bytealg.IndexString", "internal/bytealg.CountString", "internal/bytealg.abigen_runtime_cmpstring"], unfollowed := true, recurses := true, named := ["internal/bytealg.MaxLen", "unicode/utf8.first", "unicode/utf8.acceptRanges"], apart := false, laid := [("unicode/utf8.acceptRanges", laid_unicode_utf8_acceptRanges), ("unicode/utf8.first", laid_unicode_utf8_first)] }
def NewerOfSaid : Prop := newerOfRow.holds Tryz.pinned (OpenSpec.ofChange newerOfSpec)

/-- ITS FALSE NEIGHBOUR: 'it returns false'. Refute it at one input. -/
def newerOfWrong : ChangeSpec := { name := "newerOf", fn := fun _ => fun
  | [d1, d2] => { results := [.lit (.bool false)], args := [d1, d2] }
  | _ => none }
def NewerOfWrongFalsely : Prop := newerOfRow.holds Tryz.pinned (OpenSpec.ofChange newerOfWrong)

/-- 'interrexlaw11.NewerApart': WHATEVER THE INPUT: true; the input reads as it did. -/
def newerApartSpec : ChangeSpec := { name := "newerApart", fn := fun _ => fun
  | [d1, d2] => { results := [.lit (.bool true)], args := [d1, d2] }
  | _ => none }
def newerApartRow : OpenClaim := { program := "ytmcomnocpibiiaagreatdoor", sum := "a8385e7e8449645e4d87f7db6e9445e112ea998c22d1ca0e902673397e6c91dc", func := "interrex/interrexlaw11.NewerApart", spec := "newerApart", inPlace := ["internal/bytealg.IndexByteString", "internal/bytealg.IndexString", "internal/bytealg.CountString", "internal/bytealg.abigen_runtime_cmpstring", "maps.clone"], unfollowed := true, recurses := true, named := ["internal/bytealg.MaxLen", "unicode/utf8.first", "unicode/utf8.acceptRanges"], apart := false, laid := [("unicode/utf8.acceptRanges", laid_unicode_utf8_acceptRanges), ("unicode/utf8.first", laid_unicode_utf8_first)] }
def NewerApartSaid : Prop := newerApartRow.holds Tryz.pinned (OpenSpec.ofChange newerApartSpec)

/-- ITS FALSE NEIGHBOUR: 'it returns false'. Refute it at one input. -/
def newerApartWrong : ChangeSpec := { name := "newerApart", fn := fun _ => fun
  | [d1, d2] => { results := [.lit (.bool false)], args := [d1, d2] }
  | _ => none }
def NewerApartWrongFalsely : Prop := newerApartRow.holds Tryz.pinned (OpenSpec.ofChange newerApartWrong)

/-- 'interrexlaw12.FolioBytes': WHATEVER THE INPUT: true; the input reads as it did. -/
def folioBytesSpec : ChangeSpec := { name := "folioBytes", fn := fun _ => fun
  | [d] => { results := [.lit (.bool true)], args := [d] }
  | _ => none }
def folioBytesRow : OpenClaim := { program := "ytmcomnocpibiiaagreatdoor", sum := "a8385e7e8449645e4d87f7db6e9445e112ea998c22d1ca0e902673397e6c91dc", func := "interrex/interrexlaw12.FolioBytes", spec := "folioBytes", inPlace := ["internal/bytealg.abigen_runtime_cmpstring", "internal/bytealg.IndexByteString", "internal/bytealg.IndexString", "internal/bytealg.CountString", "maps.clone"], unfollowed := true, recurses := true, named := ["internal/bytealg.MaxLen", "unicode/utf8.first", "unicode/utf8.acceptRanges"], apart := false, laid := [("unicode/utf8.acceptRanges", laid_unicode_utf8_acceptRanges), ("unicode/utf8.first", laid_unicode_utf8_first)] }
def FolioBytesSaid : Prop := folioBytesRow.holds Tryz.pinned (OpenSpec.ofChange folioBytesSpec)

/-- ITS FALSE NEIGHBOUR: 'it returns false'. Refute it at one input. -/
def folioBytesWrong : ChangeSpec := { name := "folioBytes", fn := fun _ => fun
  | [d] => { results := [.lit (.bool false)], args := [d] }
  | _ => none }
def FolioBytesWrongFalsely : Prop := folioBytesRow.holds Tryz.pinned (OpenSpec.ofChange folioBytesWrong)

/-- 'interrexlaw12.FolioReads': WHATEVER THE INPUT: true; the input reads as it did. -/
def folioReadsSpec : ChangeSpec := { name := "folioReads", fn := fun _ => fun
  | [d] => { results := [.lit (.bool true)], args := [d] }
  | _ => none }
def folioReadsRow : OpenClaim := { program := "ytmcomnocpibiiaagreatdoor", sum := "a8385e7e8449645e4d87f7db6e9445e112ea998c22d1ca0e902673397e6c91dc", func := "interrex/interrexlaw12.FolioReads", spec := "folioReads", inPlace := ["internal/bytealg.abigen_runtime_cmpstring", "internal/bytealg.IndexByteString", "internal/bytealg.IndexString", "internal/bytealg.CountString"], unfollowed := true, recurses := true, named := ["internal/bytealg.MaxLen", "unicode/utf8.first", "unicode/utf8.acceptRanges"], apart := false, laid := [("unicode/utf8.acceptRanges", laid_unicode_utf8_acceptRanges), ("unicode/utf8.first", laid_unicode_utf8_first)] }
def FolioReadsSaid : Prop := folioReadsRow.holds Tryz.pinned (OpenSpec.ofChange folioReadsSpec)

/-- ITS FALSE NEIGHBOUR: 'it returns false'. Refute it at one input. -/
def folioReadsWrong : ChangeSpec := { name := "folioReads", fn := fun _ => fun
  | [d] => { results := [.lit (.bool false)], args := [d] }
  | _ => none }
def FolioReadsWrongFalsely : Prop := folioReadsRow.holds Tryz.pinned (OpenSpec.ofChange folioReadsWrong)

/-- 'interrexlaw12.FolioApart': WHATEVER THE INPUT: true; the input reads as it did. -/
def folioApartSpec : ChangeSpec := { name := "folioApart", fn := fun _ => fun
  | [d1, d2] => { results := [.lit (.bool true)], args := [d1, d2] }
  | _ => none }
def folioApartRow : OpenClaim := { program := "ytmcomnocpibiiaagreatdoor", sum := "a8385e7e8449645e4d87f7db6e9445e112ea998c22d1ca0e902673397e6c91dc", func := "interrex/interrexlaw12.FolioApart", spec := "folioApart", inPlace := ["internal/bytealg.abigen_runtime_cmpstring", "internal/bytealg.IndexByteString", "internal/bytealg.IndexString", "internal/bytealg.CountString", "maps.clone"], unfollowed := true, recurses := true, named := ["internal/bytealg.MaxLen", "unicode/utf8.first", "unicode/utf8.acceptRanges"], apart := false, laid := [("unicode/utf8.acceptRanges", laid_unicode_utf8_acceptRanges), ("unicode/utf8.first", laid_unicode_utf8_first)] }
def FolioApartSaid : Prop := folioApartRow.holds Tryz.pinned (OpenSpec.ofChange folioApartSpec)

/-- ITS FALSE NEIGHBOUR: 'it returns false'. Refute it at one input. -/
def folioApartWrong : ChangeSpec := { name := "folioApart", fn := fun _ => fun
  | [d1, d2] => { results := [.lit (.bool false)], args := [d1, d2] }
  | _ => none }
def FolioApartWrongFalsely : Prop := folioApartRow.holds Tryz.pinned (OpenSpec.ofChange folioApartWrong)

/-- 'interrexlaw12.FolioMost': WHATEVER THE INPUT: true; the input reads as it did. -/
def folioMostSpec : ChangeSpec := { name := "folioMost", fn := fun _ => fun
  | [d] => { results := [.lit (.bool true)], args := [d] }
  | _ => none }
def folioMostRow : OpenClaim := { program := "ytmcomnocpibiiaagreatdoor", sum := "a8385e7e8449645e4d87f7db6e9445e112ea998c22d1ca0e902673397e6c91dc", func := "interrex/interrexlaw12.FolioMost", spec := "folioMost", inPlace := ["internal/bytealg.abigen_runtime_cmpstring", "internal/bytealg.IndexByteString", "internal/bytealg.IndexString", "internal/bytealg.CountString"], unfollowed := true, recurses := true, named := ["internal/bytealg.MaxLen", "unicode/utf8.first", "unicode/utf8.acceptRanges"], apart := false, laid := [("unicode/utf8.acceptRanges", laid_unicode_utf8_acceptRanges), ("unicode/utf8.first", laid_unicode_utf8_first)] }
def FolioMostSaid : Prop := folioMostRow.holds Tryz.pinned (OpenSpec.ofChange folioMostSpec)

/-- ITS FALSE NEIGHBOUR: 'it returns false'. Refute it at one input. -/
def folioMostWrong : ChangeSpec := { name := "folioMost", fn := fun _ => fun
  | [d] => { results := [.lit (.bool false)], args := [d] }
  | _ => none }
def FolioMostWrongFalsely : Prop := folioMostRow.holds Tryz.pinned (OpenSpec.ofChange folioMostWrong)

/- THE SECOND FORM. 'bulk': how many values and letters a reading holds, each counted each time it is reached (what is shared counts as often as it is met; a slice's spare places count too). A statement '..UptoSaid' is the law's where the arguments, and the package variables that the reading takes, are together of bulk at most 1048576: NARROWER than '..Said'. Prove '..Said' where nothing that the law and all that it calls make is longer than what came in: it says more and counts as full. Else prove '..UptoSaid'. A law counts once. -/
mutual
def uptoBulk {H : Type} : DataW H → Nat
  | .lit (.string bytes) => bytes.length + 1
  | .lit _ => 1
  | .nil => 1
  | .ptr d => uptoBulk d + 1
  | .slice elems spare => uptoBulkAll elems + uptoBulkAll spare + 1
  | .agg parts => uptoBulkAll parts + 1
  | .iface _ d => uptoBulk d + 1
  | .map entries => uptoBulkEntries entries + 1
  | .held _ => 1
def uptoBulkAll {H : Type} : List (DataW H) → Nat
  | [] => 0
  | d :: r => uptoBulk d + uptoBulkAll r
def uptoBulkEntries {H : Type} : List (Lit × DataW H) → Nat
  | [] => 0
  | x :: r => uptoBulkEntry x + uptoBulkEntries r
def uptoBulkEntry {H : Type} : Lit × DataW H → Nat
  | (.string bytes, d) => bytes.length + uptoBulk d + 1
  | (_, d) => uptoBulk d + 1
 end
def uptoSmall : (H : Type) → List (DataW H) → Bool := fun _ ds => decide (uptoBulkAll ds ≤ 1048576)
def OpenSpec.upto (s : _root_.Go.ChangeSpec) : _root_.Go.OpenSpec := { _root_.Go.OpenSpec.ofChange s with cond := some uptoSmall }

/-- 'interrexlaw11.NewerPlays', WHERE WHAT IT READS IS OF BULK AT MOST 1048576: true; the input reads as it did. -/
def newerPlaysUptoRow : OpenClaim := { program := "ytmcomnocpibiiaagreatdoor", sum := "a8385e7e8449645e4d87f7db6e9445e112ea998c22d1ca0e902673397e6c91dc", func := "interrex/interrexlaw11.NewerPlays", spec := "newerPlays", inPlace := ["internal/bytealg.IndexByteString", "internal/bytealg.IndexString", "internal/bytealg.CountString", "internal/bytealg.abigen_runtime_cmpstring", "maps.clone"], unfollowed := true, recurses := true, named := ["internal/bytealg.MaxLen", "unicode/utf8.first", "unicode/utf8.acceptRanges"], apart := false, laid := [("unicode/utf8.acceptRanges", laid_unicode_utf8_acceptRanges), ("unicode/utf8.first", laid_unicode_utf8_first)], narrowed := true }
def NewerPlaysUptoSaid : Prop := newerPlaysUptoRow.holds Tryz.pinned (OpenSpec.upto newerPlaysSpec)

/-- 'interrexlaw11.NewerAsks', WHERE WHAT IT READS IS OF BULK AT MOST 1048576: true; the input reads as it did. -/
def newerAsksUptoRow : OpenClaim := { program := "ytmcomnocpibiiaagreatdoor", sum := "a8385e7e8449645e4d87f7db6e9445e112ea998c22d1ca0e902673397e6c91dc", func := "interrex/interrexlaw11.NewerAsks", spec := "newerAsks", inPlace := ["internal/bytealg.IndexByteString", "internal/bytealg.IndexString", "internal/bytealg.CountString", "internal/bytealg.abigen_runtime_cmpstring", "maps.clone"], unfollowed := true, recurses := true, named := ["internal/bytealg.MaxLen", "unicode/utf8.first", "unicode/utf8.acceptRanges"], apart := false, laid := [("unicode/utf8.acceptRanges", laid_unicode_utf8_acceptRanges), ("unicode/utf8.first", laid_unicode_utf8_first)], narrowed := true }
def NewerAsksUptoSaid : Prop := newerAsksUptoRow.holds Tryz.pinned (OpenSpec.upto newerAsksSpec)

/-- 'interrexlaw11.NewerOf', WHERE WHAT IT READS IS OF BULK AT MOST 1048576: true; the input reads as it did. -/
def newerOfUptoRow : OpenClaim := { program := "ytmcomnocpibiiaagreatdoor", sum := "a8385e7e8449645e4d87f7db6e9445e112ea998c22d1ca0e902673397e6c91dc", func := "interrex/interrexlaw11.NewerOf", spec := "newerOf", inPlace := ["internal/bytealg.IndexByteString", "internal/bytealg.IndexString", "internal/bytealg.CountString", "internal/bytealg.abigen_runtime_cmpstring"], unfollowed := true, recurses := true, named := ["internal/bytealg.MaxLen", "unicode/utf8.first", "unicode/utf8.acceptRanges"], apart := false, laid := [("unicode/utf8.acceptRanges", laid_unicode_utf8_acceptRanges), ("unicode/utf8.first", laid_unicode_utf8_first)], narrowed := true }
def NewerOfUptoSaid : Prop := newerOfUptoRow.holds Tryz.pinned (OpenSpec.upto newerOfSpec)

/-- 'interrexlaw11.NewerApart', WHERE WHAT IT READS IS OF BULK AT MOST 1048576: true; the input reads as it did. -/
def newerApartUptoRow : OpenClaim := { program := "ytmcomnocpibiiaagreatdoor", sum := "a8385e7e8449645e4d87f7db6e9445e112ea998c22d1ca0e902673397e6c91dc", func := "interrex/interrexlaw11.NewerApart", spec := "newerApart", inPlace := ["internal/bytealg.IndexByteString", "internal/bytealg.IndexString", "internal/bytealg.CountString", "internal/bytealg.abigen_runtime_cmpstring", "maps.clone"], unfollowed := true, recurses := true, named := ["internal/bytealg.MaxLen", "unicode/utf8.first", "unicode/utf8.acceptRanges"], apart := false, laid := [("unicode/utf8.acceptRanges", laid_unicode_utf8_acceptRanges), ("unicode/utf8.first", laid_unicode_utf8_first)], narrowed := true }
def NewerApartUptoSaid : Prop := newerApartUptoRow.holds Tryz.pinned (OpenSpec.upto newerApartSpec)

/-- 'interrexlaw12.FolioBytes', WHERE WHAT IT READS IS OF BULK AT MOST 1048576: true; the input reads as it did. -/
def folioBytesUptoRow : OpenClaim := { program := "ytmcomnocpibiiaagreatdoor", sum := "a8385e7e8449645e4d87f7db6e9445e112ea998c22d1ca0e902673397e6c91dc", func := "interrex/interrexlaw12.FolioBytes", spec := "folioBytes", inPlace := ["internal/bytealg.abigen_runtime_cmpstring", "internal/bytealg.IndexByteString", "internal/bytealg.IndexString", "internal/bytealg.CountString", "maps.clone"], unfollowed := true, recurses := true, named := ["internal/bytealg.MaxLen", "unicode/utf8.first", "unicode/utf8.acceptRanges"], apart := false, laid := [("unicode/utf8.acceptRanges", laid_unicode_utf8_acceptRanges), ("unicode/utf8.first", laid_unicode_utf8_first)], narrowed := true }
def FolioBytesUptoSaid : Prop := folioBytesUptoRow.holds Tryz.pinned (OpenSpec.upto folioBytesSpec)

/-- 'interrexlaw12.FolioReads', WHERE WHAT IT READS IS OF BULK AT MOST 1048576: true; the input reads as it did. -/
def folioReadsUptoRow : OpenClaim := { program := "ytmcomnocpibiiaagreatdoor", sum := "a8385e7e8449645e4d87f7db6e9445e112ea998c22d1ca0e902673397e6c91dc", func := "interrex/interrexlaw12.FolioReads", spec := "folioReads", inPlace := ["internal/bytealg.abigen_runtime_cmpstring", "internal/bytealg.IndexByteString", "internal/bytealg.IndexString", "internal/bytealg.CountString"], unfollowed := true, recurses := true, named := ["internal/bytealg.MaxLen", "unicode/utf8.first", "unicode/utf8.acceptRanges"], apart := false, laid := [("unicode/utf8.acceptRanges", laid_unicode_utf8_acceptRanges), ("unicode/utf8.first", laid_unicode_utf8_first)], narrowed := true }
def FolioReadsUptoSaid : Prop := folioReadsUptoRow.holds Tryz.pinned (OpenSpec.upto folioReadsSpec)

/-- 'interrexlaw12.FolioApart', WHERE WHAT IT READS IS OF BULK AT MOST 1048576: true; the input reads as it did. -/
def folioApartUptoRow : OpenClaim := { program := "ytmcomnocpibiiaagreatdoor", sum := "a8385e7e8449645e4d87f7db6e9445e112ea998c22d1ca0e902673397e6c91dc", func := "interrex/interrexlaw12.FolioApart", spec := "folioApart", inPlace := ["internal/bytealg.abigen_runtime_cmpstring", "internal/bytealg.IndexByteString", "internal/bytealg.IndexString", "internal/bytealg.CountString", "maps.clone"], unfollowed := true, recurses := true, named := ["internal/bytealg.MaxLen", "unicode/utf8.first", "unicode/utf8.acceptRanges"], apart := false, laid := [("unicode/utf8.acceptRanges", laid_unicode_utf8_acceptRanges), ("unicode/utf8.first", laid_unicode_utf8_first)], narrowed := true }
def FolioApartUptoSaid : Prop := folioApartUptoRow.holds Tryz.pinned (OpenSpec.upto folioApartSpec)

/-- 'interrexlaw12.FolioMost', WHERE WHAT IT READS IS OF BULK AT MOST 1048576: true; the input reads as it did. -/
def folioMostUptoRow : OpenClaim := { program := "ytmcomnocpibiiaagreatdoor", sum := "a8385e7e8449645e4d87f7db6e9445e112ea998c22d1ca0e902673397e6c91dc", func := "interrex/interrexlaw12.FolioMost", spec := "folioMost", inPlace := ["internal/bytealg.abigen_runtime_cmpstring", "internal/bytealg.IndexByteString", "internal/bytealg.IndexString", "internal/bytealg.CountString"], unfollowed := true, recurses := true, named := ["internal/bytealg.MaxLen", "unicode/utf8.first", "unicode/utf8.acceptRanges"], apart := false, laid := [("unicode/utf8.acceptRanges", laid_unicode_utf8_acceptRanges), ("unicode/utf8.first", laid_unicode_utf8_first)], narrowed := true }
def FolioMostUptoSaid : Prop := folioMostUptoRow.holds Tryz.pinned (OpenSpec.upto folioMostSpec)

end Rows
end Go.Proofs.YtmcomnocpibiiaaGreatDoor

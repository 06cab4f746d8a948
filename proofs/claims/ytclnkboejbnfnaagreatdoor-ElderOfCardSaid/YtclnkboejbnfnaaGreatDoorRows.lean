/-
  NARROWER THAN 'FOR EVERY INPUT', by the rows' own cells (each row's printed sentence says how): ElderOf: laid · ShotBytes: laid · ShotReads: laid · ShotApart: laid · ShotSchemas: laid · MigrateBytes: laid · MigrateGoes: laid · MigrateDown: laid.
  DERIVED. THE GIVEN ROWS OF THIS SEAT. 8 by the template 'for every input the law returns true; each argument reads behind the call as it read before'; 0 by the template 'total and deterministic' (their statements: YtclnkboejbnfnaaGreatDoorTotals.lean).
  GIVEN WITH THE SEED: the statements are not yours to turn. If you find one false, say at which input.
  Laid BY PROGRAM, IN A SANDBOX (cutbox-rows.mjs): the forced cells as the released guide's own fill.sh prints them over the translation 0de4b4b366ef1c43… (all of the seat's roots in one cut). By AI agents, Wed Nov 11 2026. No macro, syntax, notation, axiom, sorry.
-/
import Derived.Test.YtclnkboejbnfnaaGreatDoorChecked
import GoSem.PinnedTables
import GoSem.Claim
import GoSem.ClaimJoined
import GoSem.ClaimMapViews
import Derived.JoinedTies
import Derived.KernelRfl
namespace Go.Proofs.YtclnkboejbnfnaaGreatDoor
/- THE CELL 'sum', in the pinned program and in every row, IS THE sha256 OF THE DUMP (.gsa) THAT YtclnkboejbnfnaaGreatDoorProg.lean LOADS. Nothing in Lean hashes anything: it is a label: what it is worth is what the hold of that sum in a sandbox is worth. -/
noncomputable def Tryz.pinned : Pinned := { name := "ytclnkboejbnfnaagreatdoor", sum := "0de4b4b366ef1c43abca9b391cfff2103d96955f7fdc0dbd93774ecb94172c05", checked := Tryz.checked }
namespace Rows
def none {H : Type} : Left H := { results := [], args := [] }

/- WHAT THE LISTED PACKAGE-LEVEL VARIABLES READ AS WHEN THE CALL BEGINS. Each datum BY PROGRAM (the guide's laid-datum.mjs) off the statement by which the dump's own 'gosem.cut.vars' lays the variable. In a bare row this is a premise. The card (YtclnkboejbnfnaaGreatDoorCards.lean) ties it to the program's text. -/
def laid_unicode_utf8_acceptRanges {H : Type} : DataW H := .agg [.agg [.lit (.int .u8 128), .lit (.int .u8 191)], .agg [.lit (.int .u8 160), .lit (.int .u8 191)], .agg [.lit (.int .u8 128), .lit (.int .u8 159)], .agg [.lit (.int .u8 144), .lit (.int .u8 191)], .agg [.lit (.int .u8 128), .lit (.int .u8 143)], .agg [.lit (.int .u8 0), .lit (.int .u8 0)], .agg [.lit (.int .u8 0), .lit (.int .u8 0)], .agg [.lit (.int .u8 0), .lit (.int .u8 0)], .agg [.lit (.int .u8 0), .lit (.int .u8 0)], .agg [.lit (.int .u8 0), .lit (.int .u8 0)], .agg [.lit (.int .u8 0), .lit (.int .u8 0)], .agg [.lit (.int .u8 0), .lit (.int .u8 0)], .agg [.lit (.int .u8 0), .lit (.int .u8 0)], .agg [.lit (.int .u8 0), .lit (.int .u8 0)], .agg [.lit (.int .u8 0), .lit (.int .u8 0)], .agg [.lit (.int .u8 0), .lit (.int .u8 0)]]
/-- One of Go's own tables, pinned by name: the form's constant. -/
def laid_unicode_utf8_first : DataW Unit := Go.Pinned.utf8First

/-- 'interrexlaw07.ElderOf': WHATEVER THE INPUT: true; the input reads as it did. -/
def elderOfSpec : ChangeSpec := { name := "elderOf", fn := fun _ => fun
  | [d] => { results := [.lit (.bool true)], args := [d] }
  | _ => none }
def elderOfRow : OpenClaim := { program := "ytclnkboejbnfnaagreatdoor", sum := "0de4b4b366ef1c43abca9b391cfff2103d96955f7fdc0dbd93774ecb94172c05", func := "interrex/interrexlaw07.ElderOf", spec := "elderOf", inPlace := ["internal/bytealg.abigen_runtime_cmpstring", "internal/bytealg.IndexByteString", "internal/bytealg.IndexString", "internal/bytealg.CountString"], unfollowed := true, recurses := true, named := ["internal/bytealg.MaxLen", "unicode/utf8.first", "unicode/utf8.acceptRanges"], apart := false, laid := [("unicode/utf8.acceptRanges", laid_unicode_utf8_acceptRanges), ("unicode/utf8.first", laid_unicode_utf8_first)] }
def ElderOfSaid : Prop := elderOfRow.holds Tryz.pinned (OpenSpec.ofChange elderOfSpec)

/-- ITS FALSE NEIGHBOUR: 'it returns false'. Refute it at one input. -/
def elderOfWrong : ChangeSpec := { name := "elderOf", fn := fun _ => fun
  | [d] => { results := [.lit (.bool false)], args := [d] }
  | _ => none }
def ElderOfWrongFalsely : Prop := elderOfRow.holds Tryz.pinned (OpenSpec.ofChange elderOfWrong)

/-- 'interrexlaw08.ShotBytes': WHATEVER THE INPUT: true; the input reads as it did. -/
def shotBytesSpec : ChangeSpec := { name := "shotBytes", fn := fun _ => fun
  | [d] => { results := [.lit (.bool true)], args := [d] }
  | _ => none }
def shotBytesRow : OpenClaim := { program := "ytclnkboejbnfnaagreatdoor", sum := "0de4b4b366ef1c43abca9b391cfff2103d96955f7fdc0dbd93774ecb94172c05", func := "interrex/interrexlaw08.ShotBytes", spec := "shotBytes", inPlace := ["internal/bytealg.abigen_runtime_cmpstring", "internal/bytealg.IndexByteString", "internal/bytealg.IndexString", "internal/bytealg.CountString"], unfollowed := true, recurses := true, named := ["internal/bytealg.MaxLen", "unicode/utf8.first", "unicode/utf8.acceptRanges"], apart := false, laid := [("unicode/utf8.acceptRanges", laid_unicode_utf8_acceptRanges), ("unicode/utf8.first", laid_unicode_utf8_first)] }
def ShotBytesSaid : Prop := shotBytesRow.holds Tryz.pinned (OpenSpec.ofChange shotBytesSpec)

/-- ITS FALSE NEIGHBOUR: 'it returns false'. Refute it at one input. -/
def shotBytesWrong : ChangeSpec := { name := "shotBytes", fn := fun _ => fun
  | [d] => { results := [.lit (.bool false)], args := [d] }
  | _ => none }
def ShotBytesWrongFalsely : Prop := shotBytesRow.holds Tryz.pinned (OpenSpec.ofChange shotBytesWrong)

/-- 'interrexlaw08.ShotReads': WHATEVER THE INPUT: true; the input reads as it did. -/
def shotReadsSpec : ChangeSpec := { name := "shotReads", fn := fun _ => fun
  | [d] => { results := [.lit (.bool true)], args := [d] }
  | _ => none }
def shotReadsRow : OpenClaim := { program := "ytclnkboejbnfnaagreatdoor", sum := "0de4b4b366ef1c43abca9b391cfff2103d96955f7fdc0dbd93774ecb94172c05", func := "interrex/interrexlaw08.ShotReads", spec := "shotReads", inPlace := ["internal/bytealg.abigen_runtime_cmpstring", "internal/bytealg.IndexByteString", "internal/bytealg.IndexString", "internal/bytealg.CountString"], unfollowed := true, recurses := true, named := ["internal/bytealg.MaxLen", "unicode/utf8.first", "unicode/utf8.acceptRanges"], apart := false, laid := [("unicode/utf8.acceptRanges", laid_unicode_utf8_acceptRanges), ("unicode/utf8.first", laid_unicode_utf8_first)] }
def ShotReadsSaid : Prop := shotReadsRow.holds Tryz.pinned (OpenSpec.ofChange shotReadsSpec)

/-- ITS FALSE NEIGHBOUR: 'it returns false'. Refute it at one input. -/
def shotReadsWrong : ChangeSpec := { name := "shotReads", fn := fun _ => fun
  | [d] => { results := [.lit (.bool false)], args := [d] }
  | _ => none }
def ShotReadsWrongFalsely : Prop := shotReadsRow.holds Tryz.pinned (OpenSpec.ofChange shotReadsWrong)

/-- 'interrexlaw08.ShotApart': WHATEVER THE INPUT: true; the input reads as it did. -/
def shotApartSpec : ChangeSpec := { name := "shotApart", fn := fun _ => fun
  | [d1, d2] => { results := [.lit (.bool true)], args := [d1, d2] }
  | _ => none }
def shotApartRow : OpenClaim := { program := "ytclnkboejbnfnaagreatdoor", sum := "0de4b4b366ef1c43abca9b391cfff2103d96955f7fdc0dbd93774ecb94172c05", func := "interrex/interrexlaw08.ShotApart", spec := "shotApart", inPlace := ["internal/bytealg.abigen_runtime_cmpstring", "internal/bytealg.IndexByteString", "internal/bytealg.IndexString", "internal/bytealg.CountString"], unfollowed := true, recurses := true, named := ["internal/bytealg.MaxLen", "unicode/utf8.first", "unicode/utf8.acceptRanges"], apart := false, laid := [("unicode/utf8.acceptRanges", laid_unicode_utf8_acceptRanges), ("unicode/utf8.first", laid_unicode_utf8_first)] }
def ShotApartSaid : Prop := shotApartRow.holds Tryz.pinned (OpenSpec.ofChange shotApartSpec)

/-- ITS FALSE NEIGHBOUR: 'it returns false'. Refute it at one input. -/
def shotApartWrong : ChangeSpec := { name := "shotApart", fn := fun _ => fun
  | [d1, d2] => { results := [.lit (.bool false)], args := [d1, d2] }
  | _ => none }
def ShotApartWrongFalsely : Prop := shotApartRow.holds Tryz.pinned (OpenSpec.ofChange shotApartWrong)

/-- 'interrexlaw08.ShotSchemas': WHATEVER THE INPUT: true; the input reads as it did. -/
def shotSchemasSpec : ChangeSpec := { name := "shotSchemas", fn := fun _ => fun
  | [d] => { results := [.lit (.bool true)], args := [d] }
  | _ => none }
def shotSchemasRow : OpenClaim := { program := "ytclnkboejbnfnaagreatdoor", sum := "0de4b4b366ef1c43abca9b391cfff2103d96955f7fdc0dbd93774ecb94172c05", func := "interrex/interrexlaw08.ShotSchemas", spec := "shotSchemas", inPlace := ["internal/bytealg.abigen_runtime_cmpstring", "internal/bytealg.IndexByteString", "internal/bytealg.IndexString", "internal/bytealg.CountString"], unfollowed := true, recurses := true, named := ["internal/bytealg.MaxLen", "unicode/utf8.first", "unicode/utf8.acceptRanges"], apart := false, laid := [("unicode/utf8.acceptRanges", laid_unicode_utf8_acceptRanges), ("unicode/utf8.first", laid_unicode_utf8_first)] }
def ShotSchemasSaid : Prop := shotSchemasRow.holds Tryz.pinned (OpenSpec.ofChange shotSchemasSpec)

/-- ITS FALSE NEIGHBOUR: 'it returns false'. Refute it at one input. -/
def shotSchemasWrong : ChangeSpec := { name := "shotSchemas", fn := fun _ => fun
  | [d] => { results := [.lit (.bool false)], args := [d] }
  | _ => none }
def ShotSchemasWrongFalsely : Prop := shotSchemasRow.holds Tryz.pinned (OpenSpec.ofChange shotSchemasWrong)

/-- 'interrexlaw13.MigrateBytes': WHATEVER THE INPUT: true; the input reads as it did. -/
def migrateBytesSpec : ChangeSpec := { name := "migrateBytes", fn := fun _ => fun
  | [d] => { results := [.lit (.bool true)], args := [d] }
  | _ => none }
def migrateBytesRow : OpenClaim := { program := "ytclnkboejbnfnaagreatdoor", sum := "0de4b4b366ef1c43abca9b391cfff2103d96955f7fdc0dbd93774ecb94172c05", func := "interrex/interrexlaw13.MigrateBytes", spec := "migrateBytes", inPlace := ["internal/bytealg.IndexByteString", "internal/bytealg.IndexString", "internal/bytealg.CountString", "internal/bytealg.abigen_runtime_cmpstring"], unfollowed := true, recurses := true, named := ["internal/bytealg.MaxLen", "unicode/utf8.first", "unicode/utf8.acceptRanges"], apart := false, laid := [("unicode/utf8.acceptRanges", laid_unicode_utf8_acceptRanges), ("unicode/utf8.first", laid_unicode_utf8_first)] }
def MigrateBytesSaid : Prop := migrateBytesRow.holds Tryz.pinned (OpenSpec.ofChange migrateBytesSpec)

/-- ITS FALSE NEIGHBOUR: 'it returns false'. Refute it at one input. -/
def migrateBytesWrong : ChangeSpec := { name := "migrateBytes", fn := fun _ => fun
  | [d] => { results := [.lit (.bool false)], args := [d] }
  | _ => none }
def MigrateBytesWrongFalsely : Prop := migrateBytesRow.holds Tryz.pinned (OpenSpec.ofChange migrateBytesWrong)

/-- 'interrexlaw13.MigrateGoes': WHATEVER THE INPUT: true; the input reads as it did. -/
def migrateGoesSpec : ChangeSpec := { name := "migrateGoes", fn := fun _ => fun
  | [d1, d2, d3, d4] => { results := [.lit (.bool true)], args := [d1, d2, d3, d4] }
  | _ => none }
def migrateGoesRow : OpenClaim := { program := "ytclnkboejbnfnaagreatdoor", sum := "0de4b4b366ef1c43abca9b391cfff2103d96955f7fdc0dbd93774ecb94172c05", func := "interrex/interrexlaw13.MigrateGoes", spec := "migrateGoes", inPlace := ["internal/bytealg.IndexByteString", "internal/bytealg.IndexString", "internal/bytealg.CountString", "internal/bytealg.abigen_runtime_cmpstring"], unfollowed := true, recurses := true, named := ["internal/bytealg.MaxLen", "unicode/utf8.first", "unicode/utf8.acceptRanges"], apart := false, laid := [("unicode/utf8.acceptRanges", laid_unicode_utf8_acceptRanges), ("unicode/utf8.first", laid_unicode_utf8_first)] }
def MigrateGoesSaid : Prop := migrateGoesRow.holds Tryz.pinned (OpenSpec.ofChange migrateGoesSpec)

/-- ITS FALSE NEIGHBOUR: 'it returns false'. Refute it at one input. -/
def migrateGoesWrong : ChangeSpec := { name := "migrateGoes", fn := fun _ => fun
  | [d1, d2, d3, d4] => { results := [.lit (.bool false)], args := [d1, d2, d3, d4] }
  | _ => none }
def MigrateGoesWrongFalsely : Prop := migrateGoesRow.holds Tryz.pinned (OpenSpec.ofChange migrateGoesWrong)

/-- 'interrexlaw13.MigrateDown': WHATEVER THE INPUT: true; the input reads as it did. -/
def migrateDownSpec : ChangeSpec := { name := "migrateDown", fn := fun _ => fun
  | [d] => { results := [.lit (.bool true)], args := [d] }
  | _ => none }
def migrateDownRow : OpenClaim := { program := "ytclnkboejbnfnaagreatdoor", sum := "0de4b4b366ef1c43abca9b391cfff2103d96955f7fdc0dbd93774ecb94172c05", func := "interrex/interrexlaw13.MigrateDown", spec := "migrateDown", inPlace := ["internal/bytealg.IndexByteString", "internal/bytealg.IndexString", "internal/bytealg.CountString", "internal/bytealg.abigen_runtime_cmpstring", "maps.clone"], unfollowed := true, recurses := true, named := ["internal/bytealg.MaxLen", "unicode/utf8.first", "unicode/utf8.acceptRanges"], apart := false, laid := [("unicode/utf8.acceptRanges", laid_unicode_utf8_acceptRanges), ("unicode/utf8.first", laid_unicode_utf8_first)] }
def MigrateDownSaid : Prop := migrateDownRow.holds Tryz.pinned (OpenSpec.ofChange migrateDownSpec)

/-- ITS FALSE NEIGHBOUR: 'it returns false'. Refute it at one input. -/
def migrateDownWrong : ChangeSpec := { name := "migrateDown", fn := fun _ => fun
  | [d] => { results := [.lit (.bool false)], args := [d] }
  | _ => none }
def MigrateDownWrongFalsely : Prop := migrateDownRow.holds Tryz.pinned (OpenSpec.ofChange migrateDownWrong)

/- THE SECOND FORM. 'bulk': how many values and letters a reading holds, each counted each time it is reached (what is shared counts as often as it is met; a slice's spare places count too). A statement '..UptoSaid' is the law's where the arguments, and the package variables that the reading takes, are together of bulk at most 1048576: NARROWER than '..Said'. Prove '..Said' where nothing that the law and all that it calls make is longer than what came in: it says more and counts as full. Else prove '..UptoSaid'. A law counts once. -/
mutual
def uptoBulk {H : Type} : DataW H → Nat
  | .lit (.string bytes) => bytes.length + 1
  | .lit _ => 1
  | .nil => 1
  | .ptr d => uptoBulk d + 1
  | .slice elems spare => uptoBulkAll elems + uptoBulkAll spare + 1
  | .agg parts => uptoBulkAll parts + 1
  | .iface _ d => uptoBulk d + 1
  | .map entries => uptoBulkEntries entries + 1
  | .held _ => 1
def uptoBulkAll {H : Type} : List (DataW H) → Nat
  | [] => 0
  | d :: r => uptoBulk d + uptoBulkAll r
def uptoBulkEntries {H : Type} : List (Lit × DataW H) → Nat
  | [] => 0
  | x :: r => uptoBulkEntry x + uptoBulkEntries r
def uptoBulkEntry {H : Type} : Lit × DataW H → Nat
  | (.string bytes, d) => bytes.length + uptoBulk d + 1
  | (_, d) => uptoBulk d + 1
 end
def uptoSmall : (H : Type) → List (DataW H) → Bool := fun _ ds => decide (uptoBulkAll ds ≤ 1048576)
def OpenSpec.upto (s : _root_.Go.ChangeSpec) : _root_.Go.OpenSpec := { _root_.Go.OpenSpec.ofChange s with cond := some uptoSmall }

/-- 'interrexlaw07.ElderOf', WHERE WHAT IT READS IS OF BULK AT MOST 1048576: true; the input reads as it did. -/
def elderOfUptoRow : OpenClaim := { program := "ytclnkboejbnfnaagreatdoor", sum := "0de4b4b366ef1c43abca9b391cfff2103d96955f7fdc0dbd93774ecb94172c05", func := "interrex/interrexlaw07.ElderOf", spec := "elderOf", inPlace := ["internal/bytealg.abigen_runtime_cmpstring", "internal/bytealg.IndexByteString", "internal/bytealg.IndexString", "internal/bytealg.CountString"], unfollowed := true, recurses := true, named := ["internal/bytealg.MaxLen", "unicode/utf8.first", "unicode/utf8.acceptRanges"], apart := false, laid := [("unicode/utf8.acceptRanges", laid_unicode_utf8_acceptRanges), ("unicode/utf8.first", laid_unicode_utf8_first)], narrowed := true }
def ElderOfUptoSaid : Prop := elderOfUptoRow.holds Tryz.pinned (OpenSpec.upto elderOfSpec)

/-- 'interrexlaw08.ShotBytes', WHERE WHAT IT READS IS OF BULK AT MOST 1048576: true; the input reads as it did. -/
def shotBytesUptoRow : OpenClaim := { program := "ytclnkboejbnfnaagreatdoor", sum := "0de4b4b366ef1c43abca9b391cfff2103d96955f7fdc0dbd93774ecb94172c05", func := "interrex/interrexlaw08.ShotBytes", spec := "shotBytes", inPlace := ["internal/bytealg.abigen_runtime_cmpstring", "internal/bytealg.IndexByteString", "internal/bytealg.IndexString", "internal/bytealg.CountString"], unfollowed := true, recurses := true, named := ["internal/bytealg.MaxLen", "unicode/utf8.first", "unicode/utf8.acceptRanges"], apart := false, laid := [("unicode/utf8.acceptRanges", laid_unicode_utf8_acceptRanges), ("unicode/utf8.first", laid_unicode_utf8_first)], narrowed := true }
def ShotBytesUptoSaid : Prop := shotBytesUptoRow.holds Tryz.pinned (OpenSpec.upto shotBytesSpec)

/-- 'interrexlaw08.ShotReads', WHERE WHAT IT READS IS OF BULK AT MOST 1048576: true; the input reads as it did. -/
def shotReadsUptoRow : OpenClaim := { program := "ytclnkboejbnfnaagreatdoor", sum := "0de4b4b366ef1c43abca9b391cfff2103d96955f7fdc0dbd93774ecb94172c05", func := "interrex/interrexlaw08.ShotReads", spec := "shotReads", inPlace := ["internal/bytealg.abigen_runtime_cmpstring", "internal/bytealg.IndexByteString", "internal/bytealg.IndexString", "internal/bytealg.CountString"], unfollowed := true, recurses := true, named := ["internal/bytealg.MaxLen", "unicode/utf8.first", "unicode/utf8.acceptRanges"], apart := false, laid := [("unicode/utf8.acceptRanges", laid_unicode_utf8_acceptRanges), ("unicode/utf8.first", laid_unicode_utf8_first)], narrowed := true }
def ShotReadsUptoSaid : Prop := shotReadsUptoRow.holds Tryz.pinned (OpenSpec.upto shotReadsSpec)

/-- 'interrexlaw08.ShotApart', WHERE WHAT IT READS IS OF BULK AT MOST 1048576: true; the input reads as it did. -/
def shotApartUptoRow : OpenClaim := { program := "ytclnkboejbnfnaagreatdoor", sum := "0de4b4b366ef1c43abca9b391cfff2103d96955f7fdc0dbd93774ecb94172c05", func := "interrex/interrexlaw08.ShotApart", spec := "shotApart", inPlace := ["internal/bytealg.abigen_runtime_cmpstring", "internal/bytealg.IndexByteString", "internal/bytealg.IndexString", "internal/bytealg.CountString"], unfollowed := true, recurses := true, named := ["internal/bytealg.MaxLen", "unicode/utf8.first", "unicode/utf8.acceptRanges"], apart := false, laid := [("unicode/utf8.acceptRanges", laid_unicode_utf8_acceptRanges), ("unicode/utf8.first", laid_unicode_utf8_first)], narrowed := true }
def ShotApartUptoSaid : Prop := shotApartUptoRow.holds Tryz.pinned (OpenSpec.upto shotApartSpec)

/-- 'interrexlaw08.ShotSchemas', WHERE WHAT IT READS IS OF BULK AT MOST 1048576: true; the input reads as it did. -/
def shotSchemasUptoRow : OpenClaim := { program := "ytclnkboejbnfnaagreatdoor", sum := "0de4b4b366ef1c43abca9b391cfff2103d96955f7fdc0dbd93774ecb94172c05", func := "interrex/interrexlaw08.ShotSchemas", spec := "shotSchemas", inPlace := ["internal/bytealg.abigen_runtime_cmpstring", "internal/bytealg.IndexByteString", "internal/bytealg.IndexString", "internal/bytealg.CountString"], unfollowed := true, recurses := true, named := ["internal/bytealg.MaxLen", "unicode/utf8.first", "unicode/utf8.acceptRanges"], apart := false, laid := [("unicode/utf8.acceptRanges", laid_unicode_utf8_acceptRanges), ("unicode/utf8.first", laid_unicode_utf8_first)], narrowed := true }
def ShotSchemasUptoSaid : Prop := shotSchemasUptoRow.holds Tryz.pinned (OpenSpec.upto shotSchemasSpec)

/-- 'interrexlaw13.MigrateBytes', WHERE WHAT IT READS IS OF BULK AT MOST 1048576: true; the input reads as it did. -/
def migrateBytesUptoRow : OpenClaim := { program := "ytclnkboejbnfnaagreatdoor", sum := "0de4b4b366ef1c43abca9b391cfff2103d96955f7fdc0dbd93774ecb94172c05", func := "interrex/interrexlaw13.MigrateBytes", spec := "migrateBytes", inPlace := ["internal/bytealg.IndexByteString", "internal/bytealg.IndexString", "internal/bytealg.CountString", "internal/bytealg.abigen_runtime_cmpstring"], unfollowed := true, recurses := true, named := ["internal/bytealg.MaxLen", "unicode/utf8.first", "unicode/utf8.acceptRanges"], apart := false, laid := [("unicode/utf8.acceptRanges", laid_unicode_utf8_acceptRanges), ("unicode/utf8.first", laid_unicode_utf8_first)], narrowed := true }
def MigrateBytesUptoSaid : Prop := migrateBytesUptoRow.holds Tryz.pinned (OpenSpec.upto migrateBytesSpec)

/-- 'interrexlaw13.MigrateGoes', WHERE WHAT IT READS IS OF BULK AT MOST 1048576: true; the input reads as it did. -/
def migrateGoesUptoRow : OpenClaim := { program := "ytclnkboejbnfnaagreatdoor", sum := "0de4b4b366ef1c43abca9b391cfff2103d96955f7fdc0dbd93774ecb94172c05", func := "interrex/interrexlaw13.MigrateGoes", spec := "migrateGoes", inPlace := ["internal/bytealg.IndexByteString", "internal/bytealg.IndexString", "internal/bytealg.CountString", "internal/bytealg.abigen_runtime_cmpstring"], unfollowed := true, recurses := true, named := ["internal/bytealg.MaxLen", "unicode/utf8.first", "unicode/utf8.acceptRanges"], apart := false, laid := [("unicode/utf8.acceptRanges", laid_unicode_utf8_acceptRanges), ("unicode/utf8.first", laid_unicode_utf8_first)], narrowed := true }
def MigrateGoesUptoSaid : Prop := migrateGoesUptoRow.holds Tryz.pinned (OpenSpec.upto migrateGoesSpec)

/-- 'interrexlaw13.MigrateDown', WHERE WHAT IT READS IS OF BULK AT MOST 1048576: true; the input reads as it did. -/
def migrateDownUptoRow : OpenClaim := { program := "ytclnkboejbnfnaagreatdoor", sum := "0de4b4b366ef1c43abca9b391cfff2103d96955f7fdc0dbd93774ecb94172c05", func := "interrex/interrexlaw13.MigrateDown", spec := "migrateDown", inPlace := ["internal/bytealg.IndexByteString", "internal/bytealg.IndexString", "internal/bytealg.CountString", "internal/bytealg.abigen_runtime_cmpstring", "maps.clone"], unfollowed := true, recurses := true, named := ["internal/bytealg.MaxLen", "unicode/utf8.first", "unicode/utf8.acceptRanges"], apart := false, laid := [("unicode/utf8.acceptRanges", laid_unicode_utf8_acceptRanges), ("unicode/utf8.first", laid_unicode_utf8_first)], narrowed := true }
def MigrateDownUptoSaid : Prop := migrateDownUptoRow.holds Tryz.pinned (OpenSpec.upto migrateDownSpec)

end Rows
end Go.Proofs.YtclnkboejbnfnaaGreatDoor

/-
  DERIVED. GIVEN WITH THE SEED: THE CARDS: each row of YtmcomnocpibiiaaGreatDoorRows.lean that lists a variable, with what it lists TIED to the program's text (the seventh form; the later family's looks); each row that meets fmt, with fmt's text TOLD by the authors' own Lean function (tested against real Go, not proved from fmt's source: count such statements apart). THE CARD IS WHAT COUNTS. Prove the row's statement (the work); the ties are given (YtmcomnocpibiiaaGreatDoorTie.lean); close each card by the builder's one call (the guide's Derived/Test/ToyasCard.lean, 'card_holds'). Laid BY PROGRAM, IN A SANDBOX (cutbox-door.mjs). By AI agents, Wed Nov 11 2026. No macro, syntax, notation, axiom, sorry.
-/
import Derived.Test.YtmcomnocpibiiaaGreatDoorRows
import GoSem.ClaimSeven
namespace Go.Proofs.YtmcomnocpibiiaaGreatDoor
namespace Rows

/-- THE TIED CARD OF 'interrexlaw11.NewerPlays'. -/
def newerPlaysCard : Claim7 := { stood := { row := newerPlaysRow, standIns := [], harness := (true, "d286c3849807d1b30623a6ea8a8b060af992d3691da13befd6857f25dba7477b"), looks := true }, kinds := [], alts := [], laidByText := true, laidKinds := [.data, .pinned], laidTests := true, laidLooks := .later }
def NewerPlaysCardSaid : Prop := Claim7.holds Tryz.pinned (.plain (OpenSpec.ofChange newerPlaysSpec)) newerPlaysCard

/-- THE TIED CARD OF 'interrexlaw11.NewerAsks'. -/
def newerAsksCard : Claim7 := { stood := { row := newerAsksRow, standIns := [], harness := (true, "d286c3849807d1b30623a6ea8a8b060af992d3691da13befd6857f25dba7477b"), looks := true }, kinds := [], alts := [], laidByText := true, laidKinds := [.data, .pinned], laidTests := true, laidLooks := .later }
def NewerAsksCardSaid : Prop := Claim7.holds Tryz.pinned (.plain (OpenSpec.ofChange newerAsksSpec)) newerAsksCard

/-- THE TIED CARD OF 'interrexlaw11.NewerOf'. -/
def newerOfCard : Claim7 := { stood := { row := newerOfRow, standIns := [], harness := (true, "d286c3849807d1b30623a6ea8a8b060af992d3691da13befd6857f25dba7477b"), looks := true }, kinds := [], alts := [], laidByText := true, laidKinds := [.data, .pinned], laidTests := true, laidLooks := .later }
def NewerOfCardSaid : Prop := Claim7.holds Tryz.pinned (.plain (OpenSpec.ofChange newerOfSpec)) newerOfCard

/-- THE TIED CARD OF 'interrexlaw11.NewerApart'. -/
def newerApartCard : Claim7 := { stood := { row := newerApartRow, standIns := [], harness := (true, "d286c3849807d1b30623a6ea8a8b060af992d3691da13befd6857f25dba7477b"), looks := true }, kinds := [], alts := [], laidByText := true, laidKinds := [.data, .pinned], laidTests := true, laidLooks := .later }
def NewerApartCardSaid : Prop := Claim7.holds Tryz.pinned (.plain (OpenSpec.ofChange newerApartSpec)) newerApartCard

/-- THE TIED CARD OF 'interrexlaw12.FolioBytes'. -/
def folioBytesCard : Claim7 := { stood := { row := folioBytesRow, standIns := [], harness := (true, "d286c3849807d1b30623a6ea8a8b060af992d3691da13befd6857f25dba7477b"), looks := true }, kinds := [], alts := [], laidByText := true, laidKinds := [.data, .pinned], laidTests := true, laidLooks := .later }
def FolioBytesCardSaid : Prop := Claim7.holds Tryz.pinned (.plain (OpenSpec.ofChange folioBytesSpec)) folioBytesCard

/-- THE TIED CARD OF 'interrexlaw12.FolioReads'. -/
def folioReadsCard : Claim7 := { stood := { row := folioReadsRow, standIns := [], harness := (true, "d286c3849807d1b30623a6ea8a8b060af992d3691da13befd6857f25dba7477b"), looks := true }, kinds := [], alts := [], laidByText := true, laidKinds := [.data, .pinned], laidTests := true, laidLooks := .later }
def FolioReadsCardSaid : Prop := Claim7.holds Tryz.pinned (.plain (OpenSpec.ofChange folioReadsSpec)) folioReadsCard

/-- THE TIED CARD OF 'interrexlaw12.FolioApart'. -/
def folioApartCard : Claim7 := { stood := { row := folioApartRow, standIns := [], harness := (true, "d286c3849807d1b30623a6ea8a8b060af992d3691da13befd6857f25dba7477b"), looks := true }, kinds := [], alts := [], laidByText := true, laidKinds := [.data, .pinned], laidTests := true, laidLooks := .later }
def FolioApartCardSaid : Prop := Claim7.holds Tryz.pinned (.plain (OpenSpec.ofChange folioApartSpec)) folioApartCard

/-- THE TIED CARD OF 'interrexlaw12.FolioMost'. -/
def folioMostCard : Claim7 := { stood := { row := folioMostRow, standIns := [], harness := (true, "d286c3849807d1b30623a6ea8a8b060af992d3691da13befd6857f25dba7477b"), looks := true }, kinds := [], alts := [], laidByText := true, laidKinds := [.data, .pinned], laidTests := true, laidLooks := .later }
def FolioMostCardSaid : Prop := Claim7.holds Tryz.pinned (.plain (OpenSpec.ofChange folioMostSpec)) folioMostCard

/-- THE SECOND FORM's CARD OF 'interrexlaw11.NewerPlays'. -/
def newerPlaysUptoCard : Claim7 := { stood := { row := newerPlaysUptoRow, standIns := [], harness := (true, "d286c3849807d1b30623a6ea8a8b060af992d3691da13befd6857f25dba7477b"), looks := true }, kinds := [], alts := [], laidByText := true, laidKinds := [.data, .pinned], laidTests := true, laidLooks := .later }
def NewerPlaysUptoCardSaid : Prop := Claim7.holds Tryz.pinned (.plain (OpenSpec.upto newerPlaysSpec)) newerPlaysUptoCard

/-- THE SECOND FORM's CARD OF 'interrexlaw11.NewerAsks'. -/
def newerAsksUptoCard : Claim7 := { stood := { row := newerAsksUptoRow, standIns := [], harness := (true, "d286c3849807d1b30623a6ea8a8b060af992d3691da13befd6857f25dba7477b"), looks := true }, kinds := [], alts := [], laidByText := true, laidKinds := [.data, .pinned], laidTests := true, laidLooks := .later }
def NewerAsksUptoCardSaid : Prop := Claim7.holds Tryz.pinned (.plain (OpenSpec.upto newerAsksSpec)) newerAsksUptoCard

/-- THE SECOND FORM's CARD OF 'interrexlaw11.NewerOf'. -/
def newerOfUptoCard : Claim7 := { stood := { row := newerOfUptoRow, standIns := [], harness := (true, "d286c3849807d1b30623a6ea8a8b060af992d3691da13befd6857f25dba7477b"), looks := true }, kinds := [], alts := [], laidByText := true, laidKinds := [.data, .pinned], laidTests := true, laidLooks := .later }
def NewerOfUptoCardSaid : Prop := Claim7.holds Tryz.pinned (.plain (OpenSpec.upto newerOfSpec)) newerOfUptoCard

/-- THE SECOND FORM's CARD OF 'interrexlaw11.NewerApart'. -/
def newerApartUptoCard : Claim7 := { stood := { row := newerApartUptoRow, standIns := [], harness := (true, "d286c3849807d1b30623a6ea8a8b060af992d3691da13befd6857f25dba7477b"), looks := true }, kinds := [], alts := [], laidByText := true, laidKinds := [.data, .pinned], laidTests := true, laidLooks := .later }
def NewerApartUptoCardSaid : Prop := Claim7.holds Tryz.pinned (.plain (OpenSpec.upto newerApartSpec)) newerApartUptoCard

/-- THE SECOND FORM's CARD OF 'interrexlaw12.FolioBytes'. -/
def folioBytesUptoCard : Claim7 := { stood := { row := folioBytesUptoRow, standIns := [], harness := (true, "d286c3849807d1b30623a6ea8a8b060af992d3691da13befd6857f25dba7477b"), looks := true }, kinds := [], alts := [], laidByText := true, laidKinds := [.data, .pinned], laidTests := true, laidLooks := .later }
def FolioBytesUptoCardSaid : Prop := Claim7.holds Tryz.pinned (.plain (OpenSpec.upto folioBytesSpec)) folioBytesUptoCard

/-- THE SECOND FORM's CARD OF 'interrexlaw12.FolioReads'. -/
def folioReadsUptoCard : Claim7 := { stood := { row := folioReadsUptoRow, standIns := [], harness := (true, "d286c3849807d1b30623a6ea8a8b060af992d3691da13befd6857f25dba7477b"), looks := true }, kinds := [], alts := [], laidByText := true, laidKinds := [.data, .pinned], laidTests := true, laidLooks := .later }
def FolioReadsUptoCardSaid : Prop := Claim7.holds Tryz.pinned (.plain (OpenSpec.upto folioReadsSpec)) folioReadsUptoCard

/-- THE SECOND FORM's CARD OF 'interrexlaw12.FolioApart'. -/
def folioApartUptoCard : Claim7 := { stood := { row := folioApartUptoRow, standIns := [], harness := (true, "d286c3849807d1b30623a6ea8a8b060af992d3691da13befd6857f25dba7477b"), looks := true }, kinds := [], alts := [], laidByText := true, laidKinds := [.data, .pinned], laidTests := true, laidLooks := .later }
def FolioApartUptoCardSaid : Prop := Claim7.holds Tryz.pinned (.plain (OpenSpec.upto folioApartSpec)) folioApartUptoCard

/-- THE SECOND FORM's CARD OF 'interrexlaw12.FolioMost'. -/
def folioMostUptoCard : Claim7 := { stood := { row := folioMostUptoRow, standIns := [], harness := (true, "d286c3849807d1b30623a6ea8a8b060af992d3691da13befd6857f25dba7477b"), looks := true }, kinds := [], alts := [], laidByText := true, laidKinds := [.data, .pinned], laidTests := true, laidLooks := .later }
def FolioMostUptoCardSaid : Prop := Claim7.holds Tryz.pinned (.plain (OpenSpec.upto folioMostSpec)) folioMostUptoCard
end Rows
end Go.Proofs.YtmcomnocpibiiaaGreatDoor

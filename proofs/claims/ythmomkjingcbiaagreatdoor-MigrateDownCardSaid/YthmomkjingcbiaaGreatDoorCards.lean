/-
  DERIVED. GIVEN WITH THE SEED: THE CARDS: each row of YthmomkjingcbiaaGreatDoorRows.lean that lists a variable, with what it lists TIED to the program's text (the seventh form; the later family's looks); each row that meets fmt, with fmt's text TOLD by the authors' own Lean function (tested against real Go, not proved from fmt's source: count such statements apart). THE CARD IS WHAT COUNTS. Prove the row's statement (the work); the ties are given (YthmomkjingcbiaaGreatDoorTie.lean); close each card by the builder's one call (the guide's Derived/Test/ToyasCard.lean, 'card_holds'). Laid BY PROGRAM, IN A SANDBOX (cutbox-door.mjs). By AI agents, Wed Nov 11 2026. No macro, syntax, notation, axiom, sorry.
-/
import Derived.Test.YthmomkjingcbiaaGreatDoorRows
import GoSem.ClaimSeven
namespace Go.Proofs.YthmomkjingcbiaaGreatDoor
namespace Rows

/-- THE TIED CARD OF 'interrexlaw13.MigrateBytes'. -/
def migrateBytesCard : Claim7 := { stood := { row := migrateBytesRow, standIns := [], harness := (true, "2f6e49c08d4548f890beb4a261a8bcb1cf8df430df383d5f668b6498aad62822"), looks := true }, kinds := [], alts := [], laidByText := true, laidKinds := [.data, .pinned], laidTests := true, laidLooks := .later }
def MigrateBytesCardSaid : Prop := Claim7.holds Tryz.pinned (.plain (OpenSpec.ofChange migrateBytesSpec)) migrateBytesCard

/-- THE TIED CARD OF 'interrexlaw13.MigrateGoes'. -/
def migrateGoesCard : Claim7 := { stood := { row := migrateGoesRow, standIns := [], harness := (true, "2f6e49c08d4548f890beb4a261a8bcb1cf8df430df383d5f668b6498aad62822"), looks := true }, kinds := [], alts := [], laidByText := true, laidKinds := [.data, .pinned], laidTests := true, laidLooks := .later }
def MigrateGoesCardSaid : Prop := Claim7.holds Tryz.pinned (.plain (OpenSpec.ofChange migrateGoesSpec)) migrateGoesCard

/-- THE TIED CARD OF 'interrexlaw13.MigrateDown'. -/
def migrateDownCard : Claim7 := { stood := { row := migrateDownRow, standIns := [], harness := (true, "2f6e49c08d4548f890beb4a261a8bcb1cf8df430df383d5f668b6498aad62822"), looks := true }, kinds := [], alts := [], laidByText := true, laidKinds := [.data, .pinned], laidTests := true, laidLooks := .later }
def MigrateDownCardSaid : Prop := Claim7.holds Tryz.pinned (.plain (OpenSpec.ofChange migrateDownSpec)) migrateDownCard

/-- THE SECOND FORM's CARD OF 'interrexlaw13.MigrateBytes'. -/
def migrateBytesUptoCard : Claim7 := { stood := { row := migrateBytesUptoRow, standIns := [], harness := (true, "2f6e49c08d4548f890beb4a261a8bcb1cf8df430df383d5f668b6498aad62822"), looks := true }, kinds := [], alts := [], laidByText := true, laidKinds := [.data, .pinned], laidTests := true, laidLooks := .later }
def MigrateBytesUptoCardSaid : Prop := Claim7.holds Tryz.pinned (.plain (OpenSpec.upto migrateBytesSpec)) migrateBytesUptoCard

/-- THE SECOND FORM's CARD OF 'interrexlaw13.MigrateGoes'. -/
def migrateGoesUptoCard : Claim7 := { stood := { row := migrateGoesUptoRow, standIns := [], harness := (true, "2f6e49c08d4548f890beb4a261a8bcb1cf8df430df383d5f668b6498aad62822"), looks := true }, kinds := [], alts := [], laidByText := true, laidKinds := [.data, .pinned], laidTests := true, laidLooks := .later }
def MigrateGoesUptoCardSaid : Prop := Claim7.holds Tryz.pinned (.plain (OpenSpec.upto migrateGoesSpec)) migrateGoesUptoCard

/-- THE SECOND FORM's CARD OF 'interrexlaw13.MigrateDown'. -/
def migrateDownUptoCard : Claim7 := { stood := { row := migrateDownUptoRow, standIns := [], harness := (true, "2f6e49c08d4548f890beb4a261a8bcb1cf8df430df383d5f668b6498aad62822"), looks := true }, kinds := [], alts := [], laidByText := true, laidKinds := [.data, .pinned], laidTests := true, laidLooks := .later }
def MigrateDownUptoCardSaid : Prop := Claim7.holds Tryz.pinned (.plain (OpenSpec.upto migrateDownSpec)) migrateDownUptoCard
end Rows
end Go.Proofs.YthmomkjingcbiaaGreatDoor

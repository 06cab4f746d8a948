/-
  DERIVED. GIVEN WITH THE SEED: THE CARDS: each row of YtclnkboejbnfnaaGreatDoorRows.lean that lists a variable, with what it lists TIED to the program's text (the seventh form; the later family's looks); each row that meets fmt, with fmt's text TOLD by the authors' own Lean function (tested against real Go, not proved from fmt's source: count such statements apart). THE CARD IS WHAT COUNTS. Prove the row's statement (the work); the ties are given (YtclnkboejbnfnaaGreatDoorTie.lean); close each card by the builder's one call (the guide's Derived/Test/ToyasCard.lean, 'card_holds'). Laid BY PROGRAM, IN A SANDBOX (cutbox-door.mjs). By AI agents, Wed Nov 11 2026. No macro, syntax, notation, axiom, sorry.
-/
import Derived.Test.YtclnkboejbnfnaaGreatDoorRows
import GoSem.ClaimSeven
namespace Go.Proofs.YtclnkboejbnfnaaGreatDoor
namespace Rows

/-- THE TIED CARD OF 'interrexlaw07.ElderOf'. -/
def elderOfCard : Claim7 := { stood := { row := elderOfRow, standIns := [], harness := (true, "7722a42738cbecd7e6465f1bc0023a31302032b5e8f919bda9c5f92dd4450e2a"), looks := true }, kinds := [], alts := [], laidByText := true, laidKinds := [.data, .pinned], laidTests := true, laidLooks := .later }
def ElderOfCardSaid : Prop := Claim7.holds Tryz.pinned (.plain (OpenSpec.ofChange elderOfSpec)) elderOfCard

/-- THE TIED CARD OF 'interrexlaw08.ShotBytes'. -/
def shotBytesCard : Claim7 := { stood := { row := shotBytesRow, standIns := [], harness := (true, "7722a42738cbecd7e6465f1bc0023a31302032b5e8f919bda9c5f92dd4450e2a"), looks := true }, kinds := [], alts := [], laidByText := true, laidKinds := [.data, .pinned], laidTests := true, laidLooks := .later }
def ShotBytesCardSaid : Prop := Claim7.holds Tryz.pinned (.plain (OpenSpec.ofChange shotBytesSpec)) shotBytesCard

/-- THE TIED CARD OF 'interrexlaw08.ShotReads'. -/
def shotReadsCard : Claim7 := { stood := { row := shotReadsRow, standIns := [], harness := (true, "7722a42738cbecd7e6465f1bc0023a31302032b5e8f919bda9c5f92dd4450e2a"), looks := true }, kinds := [], alts := [], laidByText := true, laidKinds := [.data, .pinned], laidTests := true, laidLooks := .later }
def ShotReadsCardSaid : Prop := Claim7.holds Tryz.pinned (.plain (OpenSpec.ofChange shotReadsSpec)) shotReadsCard

/-- THE TIED CARD OF 'interrexlaw08.ShotApart'. -/
def shotApartCard : Claim7 := { stood := { row := shotApartRow, standIns := [], harness := (true, "7722a42738cbecd7e6465f1bc0023a31302032b5e8f919bda9c5f92dd4450e2a"), looks := true }, kinds := [], alts := [], laidByText := true, laidKinds := [.data, .pinned], laidTests := true, laidLooks := .later }
def ShotApartCardSaid : Prop := Claim7.holds Tryz.pinned (.plain (OpenSpec.ofChange shotApartSpec)) shotApartCard

/-- THE TIED CARD OF 'interrexlaw08.ShotSchemas'. -/
def shotSchemasCard : Claim7 := { stood := { row := shotSchemasRow, standIns := [], harness := (true, "7722a42738cbecd7e6465f1bc0023a31302032b5e8f919bda9c5f92dd4450e2a"), looks := true }, kinds := [], alts := [], laidByText := true, laidKinds := [.data, .pinned], laidTests := true, laidLooks := .later }
def ShotSchemasCardSaid : Prop := Claim7.holds Tryz.pinned (.plain (OpenSpec.ofChange shotSchemasSpec)) shotSchemasCard

/-- THE TIED CARD OF 'interrexlaw13.MigrateBytes'. -/
def migrateBytesCard : Claim7 := { stood := { row := migrateBytesRow, standIns := [], harness := (true, "7722a42738cbecd7e6465f1bc0023a31302032b5e8f919bda9c5f92dd4450e2a"), looks := true }, kinds := [], alts := [], laidByText := true, laidKinds := [.data, .pinned], laidTests := true, laidLooks := .later }
def MigrateBytesCardSaid : Prop := Claim7.holds Tryz.pinned (.plain (OpenSpec.ofChange migrateBytesSpec)) migrateBytesCard

/-- THE TIED CARD OF 'interrexlaw13.MigrateGoes'. -/
def migrateGoesCard : Claim7 := { stood := { row := migrateGoesRow, standIns := [], harness := (true, "7722a42738cbecd7e6465f1bc0023a31302032b5e8f919bda9c5f92dd4450e2a"), looks := true }, kinds := [], alts := [], laidByText := true, laidKinds := [.data, .pinned], laidTests := true, laidLooks := .later }
def MigrateGoesCardSaid : Prop := Claim7.holds Tryz.pinned (.plain (OpenSpec.ofChange migrateGoesSpec)) migrateGoesCard

/-- THE TIED CARD OF 'interrexlaw13.MigrateDown'. -/
def migrateDownCard : Claim7 := { stood := { row := migrateDownRow, standIns := [], harness := (true, "7722a42738cbecd7e6465f1bc0023a31302032b5e8f919bda9c5f92dd4450e2a"), looks := true }, kinds := [], alts := [], laidByText := true, laidKinds := [.data, .pinned], laidTests := true, laidLooks := .later }
def MigrateDownCardSaid : Prop := Claim7.holds Tryz.pinned (.plain (OpenSpec.ofChange migrateDownSpec)) migrateDownCard

/-- THE SECOND FORM's CARD OF 'interrexlaw07.ElderOf'. -/
def elderOfUptoCard : Claim7 := { stood := { row := elderOfUptoRow, standIns := [], harness := (true, "7722a42738cbecd7e6465f1bc0023a31302032b5e8f919bda9c5f92dd4450e2a"), looks := true }, kinds := [], alts := [], laidByText := true, laidKinds := [.data, .pinned], laidTests := true, laidLooks := .later }
def ElderOfUptoCardSaid : Prop := Claim7.holds Tryz.pinned (.plain (OpenSpec.upto elderOfSpec)) elderOfUptoCard

/-- THE SECOND FORM's CARD OF 'interrexlaw08.ShotBytes'. -/
def shotBytesUptoCard : Claim7 := { stood := { row := shotBytesUptoRow, standIns := [], harness := (true, "7722a42738cbecd7e6465f1bc0023a31302032b5e8f919bda9c5f92dd4450e2a"), looks := true }, kinds := [], alts := [], laidByText := true, laidKinds := [.data, .pinned], laidTests := true, laidLooks := .later }
def ShotBytesUptoCardSaid : Prop := Claim7.holds Tryz.pinned (.plain (OpenSpec.upto shotBytesSpec)) shotBytesUptoCard

/-- THE SECOND FORM's CARD OF 'interrexlaw08.ShotReads'. -/
def shotReadsUptoCard : Claim7 := { stood := { row := shotReadsUptoRow, standIns := [], harness := (true, "7722a42738cbecd7e6465f1bc0023a31302032b5e8f919bda9c5f92dd4450e2a"), looks := true }, kinds := [], alts := [], laidByText := true, laidKinds := [.data, .pinned], laidTests := true, laidLooks := .later }
def ShotReadsUptoCardSaid : Prop := Claim7.holds Tryz.pinned (.plain (OpenSpec.upto shotReadsSpec)) shotReadsUptoCard

/-- THE SECOND FORM's CARD OF 'interrexlaw08.ShotApart'. -/
def shotApartUptoCard : Claim7 := { stood := { row := shotApartUptoRow, standIns := [], harness := (true, "7722a42738cbecd7e6465f1bc0023a31302032b5e8f919bda9c5f92dd4450e2a"), looks := true }, kinds := [], alts := [], laidByText := true, laidKinds := [.data, .pinned], laidTests := true, laidLooks := .later }
def ShotApartUptoCardSaid : Prop := Claim7.holds Tryz.pinned (.plain (OpenSpec.upto shotApartSpec)) shotApartUptoCard

/-- THE SECOND FORM's CARD OF 'interrexlaw08.ShotSchemas'. -/
def shotSchemasUptoCard : Claim7 := { stood := { row := shotSchemasUptoRow, standIns := [], harness := (true, "7722a42738cbecd7e6465f1bc0023a31302032b5e8f919bda9c5f92dd4450e2a"), looks := true }, kinds := [], alts := [], laidByText := true, laidKinds := [.data, .pinned], laidTests := true, laidLooks := .later }
def ShotSchemasUptoCardSaid : Prop := Claim7.holds Tryz.pinned (.plain (OpenSpec.upto shotSchemasSpec)) shotSchemasUptoCard

/-- THE SECOND FORM's CARD OF 'interrexlaw13.MigrateBytes'. -/
def migrateBytesUptoCard : Claim7 := { stood := { row := migrateBytesUptoRow, standIns := [], harness := (true, "7722a42738cbecd7e6465f1bc0023a31302032b5e8f919bda9c5f92dd4450e2a"), looks := true }, kinds := [], alts := [], laidByText := true, laidKinds := [.data, .pinned], laidTests := true, laidLooks := .later }
def MigrateBytesUptoCardSaid : Prop := Claim7.holds Tryz.pinned (.plain (OpenSpec.upto migrateBytesSpec)) migrateBytesUptoCard

/-- THE SECOND FORM's CARD OF 'interrexlaw13.MigrateGoes'. -/
def migrateGoesUptoCard : Claim7 := { stood := { row := migrateGoesUptoRow, standIns := [], harness := (true, "7722a42738cbecd7e6465f1bc0023a31302032b5e8f919bda9c5f92dd4450e2a"), looks := true }, kinds := [], alts := [], laidByText := true, laidKinds := [.data, .pinned], laidTests := true, laidLooks := .later }
def MigrateGoesUptoCardSaid : Prop := Claim7.holds Tryz.pinned (.plain (OpenSpec.upto migrateGoesSpec)) migrateGoesUptoCard

/-- THE SECOND FORM's CARD OF 'interrexlaw13.MigrateDown'. -/
def migrateDownUptoCard : Claim7 := { stood := { row := migrateDownUptoRow, standIns := [], harness := (true, "7722a42738cbecd7e6465f1bc0023a31302032b5e8f919bda9c5f92dd4450e2a"), looks := true }, kinds := [], alts := [], laidByText := true, laidKinds := [.data, .pinned], laidTests := true, laidLooks := .later }
def MigrateDownUptoCardSaid : Prop := Claim7.holds Tryz.pinned (.plain (OpenSpec.upto migrateDownSpec)) migrateDownUptoCard
end Rows
end Go.Proofs.YtclnkboejbnfnaaGreatDoor

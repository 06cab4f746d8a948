/-
  DERIVED. GIVEN WITH THE SEED: THE CARDS: each row of YtoeepbmbfambcaaGreatDoorRows.lean that lists a variable, with what it lists TIED to the program's text (the seventh form; the later family's looks); each row that meets fmt, with fmt's text TOLD by the authors' own Lean function (tested against real Go, not proved from fmt's source: count such statements apart). THE CARD IS WHAT COUNTS. Prove the row's statement (the work); the ties are given (YtoeepbmbfambcaaGreatDoorTie.lean); close each card by the builder's one call (the guide's Derived/Test/ToyasCard.lean, 'card_holds'). Laid BY PROGRAM, IN A SANDBOX (cutbox-door.mjs). By AI agents, Wed Nov 11 2026. No macro, syntax, notation, axiom, sorry.
-/
import Derived.Test.YtoeepbmbfambcaaGreatDoorRows
import GoSem.ClaimSeven
namespace Go.Proofs.YtoeepbmbfambcaaGreatDoor
namespace Rows

/-- THE TIED CARD OF 'interrexlaw08.ShotBytes'. -/
def shotBytesCard : Claim7 := { stood := { row := shotBytesRow, standIns := [], harness := (true, "4d26074128d5a6ff57121563a86904a5b743fff7039457f66c143f7ef5711a37"), looks := false }, kinds := [], alts := [], laidByText := true, laidKinds := [.data, .pinned], laidTests := true, laidLooks := .later }
def ShotBytesCardSaid : Prop := Claim7.holds Tryz.pinned (.plain (OpenSpec.ofChange shotBytesSpec)) shotBytesCard

/-- THE TIED CARD OF 'interrexlaw08.ShotReads'. -/
def shotReadsCard : Claim7 := { stood := { row := shotReadsRow, standIns := [], harness := (true, "4d26074128d5a6ff57121563a86904a5b743fff7039457f66c143f7ef5711a37"), looks := false }, kinds := [], alts := [], laidByText := true, laidKinds := [.data, .pinned], laidTests := true, laidLooks := .later }
def ShotReadsCardSaid : Prop := Claim7.holds Tryz.pinned (.plain (OpenSpec.ofChange shotReadsSpec)) shotReadsCard

/-- THE TIED CARD OF 'interrexlaw08.ShotApart'. -/
def shotApartCard : Claim7 := { stood := { row := shotApartRow, standIns := [], harness := (true, "4d26074128d5a6ff57121563a86904a5b743fff7039457f66c143f7ef5711a37"), looks := false }, kinds := [], alts := [], laidByText := true, laidKinds := [.data, .pinned], laidTests := true, laidLooks := .later }
def ShotApartCardSaid : Prop := Claim7.holds Tryz.pinned (.plain (OpenSpec.ofChange shotApartSpec)) shotApartCard

/-- THE TIED CARD OF 'interrexlaw08.ShotSchemas'. -/
def shotSchemasCard : Claim7 := { stood := { row := shotSchemasRow, standIns := [], harness := (true, "4d26074128d5a6ff57121563a86904a5b743fff7039457f66c143f7ef5711a37"), looks := false }, kinds := [], alts := [], laidByText := true, laidKinds := [.data, .pinned], laidTests := true, laidLooks := .later }
def ShotSchemasCardSaid : Prop := Claim7.holds Tryz.pinned (.plain (OpenSpec.ofChange shotSchemasSpec)) shotSchemasCard

/-- THE SECOND FORM's CARD OF 'interrexlaw08.ShotBytes'. -/
def shotBytesUptoCard : Claim7 := { stood := { row := shotBytesUptoRow, standIns := [], harness := (true, "4d26074128d5a6ff57121563a86904a5b743fff7039457f66c143f7ef5711a37"), looks := false }, kinds := [], alts := [], laidByText := true, laidKinds := [.data, .pinned], laidTests := true, laidLooks := .later }
def ShotBytesUptoCardSaid : Prop := Claim7.holds Tryz.pinned (.plain (OpenSpec.upto shotBytesSpec)) shotBytesUptoCard

/-- THE SECOND FORM's CARD OF 'interrexlaw08.ShotReads'. -/
def shotReadsUptoCard : Claim7 := { stood := { row := shotReadsUptoRow, standIns := [], harness := (true, "4d26074128d5a6ff57121563a86904a5b743fff7039457f66c143f7ef5711a37"), looks := false }, kinds := [], alts := [], laidByText := true, laidKinds := [.data, .pinned], laidTests := true, laidLooks := .later }
def ShotReadsUptoCardSaid : Prop := Claim7.holds Tryz.pinned (.plain (OpenSpec.upto shotReadsSpec)) shotReadsUptoCard

/-- THE SECOND FORM's CARD OF 'interrexlaw08.ShotApart'. -/
def shotApartUptoCard : Claim7 := { stood := { row := shotApartUptoRow, standIns := [], harness := (true, "4d26074128d5a6ff57121563a86904a5b743fff7039457f66c143f7ef5711a37"), looks := false }, kinds := [], alts := [], laidByText := true, laidKinds := [.data, .pinned], laidTests := true, laidLooks := .later }
def ShotApartUptoCardSaid : Prop := Claim7.holds Tryz.pinned (.plain (OpenSpec.upto shotApartSpec)) shotApartUptoCard

/-- THE SECOND FORM's CARD OF 'interrexlaw08.ShotSchemas'. -/
def shotSchemasUptoCard : Claim7 := { stood := { row := shotSchemasUptoRow, standIns := [], harness := (true, "4d26074128d5a6ff57121563a86904a5b743fff7039457f66c143f7ef5711a37"), looks := false }, kinds := [], alts := [], laidByText := true, laidKinds := [.data, .pinned], laidTests := true, laidLooks := .later }
def ShotSchemasUptoCardSaid : Prop := Claim7.holds Tryz.pinned (.plain (OpenSpec.upto shotSchemasSpec)) shotSchemasUptoCard
end Rows
end Go.Proofs.YtoeepbmbfambcaaGreatDoor

/-
  DERIVED. GIVEN WITH THE SEED: THE CARDS: each row of YteegkoicalbkbaaGreatDoorRows.lean that lists a variable, with what it lists TIED to the program's text (the seventh form; the later family's looks); each row that meets fmt, with fmt's text TOLD by the authors' own Lean function (tested against real Go, not proved from fmt's source: count such statements apart). THE CARD IS WHAT COUNTS. Prove the row's statement (the work); the ties are given (YteegkoicalbkbaaGreatDoorTie.lean); close each card by the builder's one call (the guide's Derived/Test/ToyasCard.lean, 'card_holds'). Laid BY PROGRAM, IN A SANDBOX (cutbox-door.mjs). By AI agents, Wed Nov 11 2026. No macro, syntax, notation, axiom, sorry.
-/
import Derived.Test.YteegkoicalbkbaaGreatDoorRows
import GoSem.ClaimSeven
namespace Go.Proofs.YteegkoicalbkbaaGreatDoor
namespace Rows

/-- THE TIED CARD OF 'interrexlaw17.HostPlays'. -/
def hostPlaysCard : Claim7 := { stood := { row := hostPlaysRow, standIns := [], harness := (true, "45081d2c86cfff290a9bd556e240b1ff5b1b9bb39b8edfd8eb40ac9c78b928db"), looks := true }, kinds := [], alts := [], laidByText := true, laidKinds := [.data, .data, .pinned], laidTests := true, laidLooks := .later }
def HostPlaysCardSaid : Prop := Claim7.holds Tryz.pinned (.plain (OpenSpec.ofChange hostPlaysSpec)) hostPlaysCard

/-- THE TIED CARD OF 'interrexlaw17.HostOf'. -/
def hostOfCard : Claim7 := { stood := { row := hostOfRow, standIns := [], harness := (true, "45081d2c86cfff290a9bd556e240b1ff5b1b9bb39b8edfd8eb40ac9c78b928db"), looks := true }, kinds := [], alts := [], laidByText := true, laidKinds := [.data, .data, .pinned], laidTests := true, laidLooks := .later }
def HostOfCardSaid : Prop := Claim7.holds Tryz.pinned (.plain (OpenSpec.ofChange hostOfSpec)) hostOfCard

/-- THE TIED CARD OF 'interrexlaw17.HostOnce'. -/
def hostOnceCard : Claim7 := { stood := { row := hostOnceRow, standIns := [], harness := (true, "45081d2c86cfff290a9bd556e240b1ff5b1b9bb39b8edfd8eb40ac9c78b928db"), looks := true }, kinds := [], alts := [], laidByText := true, laidKinds := [.data, .data, .pinned], laidTests := true, laidLooks := .later }
def HostOnceCardSaid : Prop := Claim7.holds Tryz.pinned (.plain (OpenSpec.ofChange hostOnceSpec)) hostOnceCard

/-- THE TIED CARD OF 'interrexlaw17.HostUpgrades'. -/
def hostUpgradesCard : Claim7 := { stood := { row := hostUpgradesRow, standIns := [], harness := (true, "45081d2c86cfff290a9bd556e240b1ff5b1b9bb39b8edfd8eb40ac9c78b928db"), looks := true }, kinds := [], alts := [], laidByText := true, laidKinds := [.data, .data, .pinned], laidTests := true, laidLooks := .later }
def HostUpgradesCardSaid : Prop := Claim7.holds Tryz.pinned (.plain (OpenSpec.ofChange hostUpgradesSpec)) hostUpgradesCard

/-- THE TIED CARD OF 'interrexlaw17.HostVersions'. -/
def hostVersionsCard : Claim7 := { stood := { row := hostVersionsRow, standIns := [], harness := (true, "45081d2c86cfff290a9bd556e240b1ff5b1b9bb39b8edfd8eb40ac9c78b928db"), looks := true }, kinds := [], alts := [], laidByText := true, laidKinds := [.data, .data, .pinned], laidTests := true, laidLooks := .later }
def HostVersionsCardSaid : Prop := Claim7.holds Tryz.pinned (.plain (OpenSpec.ofChange hostVersionsSpec)) hostVersionsCard

/-- THE SECOND FORM's CARD OF 'interrexlaw17.HostPlays'. -/
def hostPlaysUptoCard : Claim7 := { stood := { row := hostPlaysUptoRow, standIns := [], harness := (true, "45081d2c86cfff290a9bd556e240b1ff5b1b9bb39b8edfd8eb40ac9c78b928db"), looks := true }, kinds := [], alts := [], laidByText := true, laidKinds := [.data, .data, .pinned], laidTests := true, laidLooks := .later }
def HostPlaysUptoCardSaid : Prop := Claim7.holds Tryz.pinned (.plain (OpenSpec.upto hostPlaysSpec)) hostPlaysUptoCard

/-- THE SECOND FORM's CARD OF 'interrexlaw17.HostOf'. -/
def hostOfUptoCard : Claim7 := { stood := { row := hostOfUptoRow, standIns := [], harness := (true, "45081d2c86cfff290a9bd556e240b1ff5b1b9bb39b8edfd8eb40ac9c78b928db"), looks := true }, kinds := [], alts := [], laidByText := true, laidKinds := [.data, .data, .pinned], laidTests := true, laidLooks := .later }
def HostOfUptoCardSaid : Prop := Claim7.holds Tryz.pinned (.plain (OpenSpec.upto hostOfSpec)) hostOfUptoCard

/-- THE SECOND FORM's CARD OF 'interrexlaw17.HostOnce'. -/
def hostOnceUptoCard : Claim7 := { stood := { row := hostOnceUptoRow, standIns := [], harness := (true, "45081d2c86cfff290a9bd556e240b1ff5b1b9bb39b8edfd8eb40ac9c78b928db"), looks := true }, kinds := [], alts := [], laidByText := true, laidKinds := [.data, .data, .pinned], laidTests := true, laidLooks := .later }
def HostOnceUptoCardSaid : Prop := Claim7.holds Tryz.pinned (.plain (OpenSpec.upto hostOnceSpec)) hostOnceUptoCard

/-- THE SECOND FORM's CARD OF 'interrexlaw17.HostUpgrades'. -/
def hostUpgradesUptoCard : Claim7 := { stood := { row := hostUpgradesUptoRow, standIns := [], harness := (true, "45081d2c86cfff290a9bd556e240b1ff5b1b9bb39b8edfd8eb40ac9c78b928db"), looks := true }, kinds := [], alts := [], laidByText := true, laidKinds := [.data, .data, .pinned], laidTests := true, laidLooks := .later }
def HostUpgradesUptoCardSaid : Prop := Claim7.holds Tryz.pinned (.plain (OpenSpec.upto hostUpgradesSpec)) hostUpgradesUptoCard

/-- THE SECOND FORM's CARD OF 'interrexlaw17.HostVersions'. -/
def hostVersionsUptoCard : Claim7 := { stood := { row := hostVersionsUptoRow, standIns := [], harness := (true, "45081d2c86cfff290a9bd556e240b1ff5b1b9bb39b8edfd8eb40ac9c78b928db"), looks := true }, kinds := [], alts := [], laidByText := true, laidKinds := [.data, .data, .pinned], laidTests := true, laidLooks := .later }
def HostVersionsUptoCardSaid : Prop := Claim7.holds Tryz.pinned (.plain (OpenSpec.upto hostVersionsSpec)) hostVersionsUptoCard
end Rows
end Go.Proofs.YteegkoicalbkbaaGreatDoor

/-
  DERIVED. GIVEN WITH THE SEED: THE CARDS: each row of YthlgmkfofebbfaaGreatDoorRows.lean that lists a variable, with what it lists TIED to the program's text (the seventh form; the later family's looks); each row that meets fmt, with fmt's text TOLD by the authors' own Lean function (tested against real Go, not proved from fmt's source: count such statements apart). THE CARD IS WHAT COUNTS. Prove the row's statement (the work); the ties are given (YthlgmkfofebbfaaGreatDoorTie.lean); close each card by the builder's one call (the guide's Derived/Test/ToyasCard.lean, 'card_holds'). Laid BY PROGRAM, IN A SANDBOX (cutbox-door.mjs). By AI agents, Wed Nov 11 2026. No macro, syntax, notation, axiom, sorry.
-/
import Derived.Test.YthlgmkfofebbfaaGreatDoorRows
import GoSem.ClaimSeven
namespace Go.Proofs.YthlgmkfofebbfaaGreatDoor
namespace Rows

/-- THE TIED CARD OF 'interrexlaw11.NewerPlays'. -/
def newerPlaysCard : Claim7 := { stood := { row := newerPlaysRow, standIns := [], harness := (true, "186f20962fa91dae678b8ee03f259fba446b2ace0bed675a202d4552fa73403d"), looks := true }, kinds := [], alts := [], laidByText := true, laidKinds := [.data, .pinned], laidTests := true, laidLooks := .later }
def NewerPlaysCardSaid : Prop := Claim7.holds Tryz.pinned (.plain (OpenSpec.ofChange newerPlaysSpec)) newerPlaysCard

/-- THE TIED CARD OF 'interrexlaw11.NewerAsks'. -/
def newerAsksCard : Claim7 := { stood := { row := newerAsksRow, standIns := [], harness := (true, "186f20962fa91dae678b8ee03f259fba446b2ace0bed675a202d4552fa73403d"), looks := true }, kinds := [], alts := [], laidByText := true, laidKinds := [.data, .pinned], laidTests := true, laidLooks := .later }
def NewerAsksCardSaid : Prop := Claim7.holds Tryz.pinned (.plain (OpenSpec.ofChange newerAsksSpec)) newerAsksCard

/-- THE TIED CARD OF 'interrexlaw11.NewerOf'. -/
def newerOfCard : Claim7 := { stood := { row := newerOfRow, standIns := [], harness := (true, "186f20962fa91dae678b8ee03f259fba446b2ace0bed675a202d4552fa73403d"), looks := true }, kinds := [], alts := [], laidByText := true, laidKinds := [.data, .pinned], laidTests := true, laidLooks := .later }
def NewerOfCardSaid : Prop := Claim7.holds Tryz.pinned (.plain (OpenSpec.ofChange newerOfSpec)) newerOfCard

/-- THE TIED CARD OF 'interrexlaw11.NewerApart'. -/
def newerApartCard : Claim7 := { stood := { row := newerApartRow, standIns := [], harness := (true, "186f20962fa91dae678b8ee03f259fba446b2ace0bed675a202d4552fa73403d"), looks := true }, kinds := [], alts := [], laidByText := true, laidKinds := [.data, .pinned], laidTests := true, laidLooks := .later }
def NewerApartCardSaid : Prop := Claim7.holds Tryz.pinned (.plain (OpenSpec.ofChange newerApartSpec)) newerApartCard

/-- THE SECOND FORM's CARD OF 'interrexlaw11.NewerPlays'. -/
def newerPlaysUptoCard : Claim7 := { stood := { row := newerPlaysUptoRow, standIns := [], harness := (true, "186f20962fa91dae678b8ee03f259fba446b2ace0bed675a202d4552fa73403d"), looks := true }, kinds := [], alts := [], laidByText := true, laidKinds := [.data, .pinned], laidTests := true, laidLooks := .later }
def NewerPlaysUptoCardSaid : Prop := Claim7.holds Tryz.pinned (.plain (OpenSpec.upto newerPlaysSpec)) newerPlaysUptoCard

/-- THE SECOND FORM's CARD OF 'interrexlaw11.NewerAsks'. -/
def newerAsksUptoCard : Claim7 := { stood := { row := newerAsksUptoRow, standIns := [], harness := (true, "186f20962fa91dae678b8ee03f259fba446b2ace0bed675a202d4552fa73403d"), looks := true }, kinds := [], alts := [], laidByText := true, laidKinds := [.data, .pinned], laidTests := true, laidLooks := .later }
def NewerAsksUptoCardSaid : Prop := Claim7.holds Tryz.pinned (.plain (OpenSpec.upto newerAsksSpec)) newerAsksUptoCard

/-- THE SECOND FORM's CARD OF 'interrexlaw11.NewerOf'. -/
def newerOfUptoCard : Claim7 := { stood := { row := newerOfUptoRow, standIns := [], harness := (true, "186f20962fa91dae678b8ee03f259fba446b2ace0bed675a202d4552fa73403d"), looks := true }, kinds := [], alts := [], laidByText := true, laidKinds := [.data, .pinned], laidTests := true, laidLooks := .later }
def NewerOfUptoCardSaid : Prop := Claim7.holds Tryz.pinned (.plain (OpenSpec.upto newerOfSpec)) newerOfUptoCard

/-- THE SECOND FORM's CARD OF 'interrexlaw11.NewerApart'. -/
def newerApartUptoCard : Claim7 := { stood := { row := newerApartUptoRow, standIns := [], harness := (true, "186f20962fa91dae678b8ee03f259fba446b2ace0bed675a202d4552fa73403d"), looks := true }, kinds := [], alts := [], laidByText := true, laidKinds := [.data, .pinned], laidTests := true, laidLooks := .later }
def NewerApartUptoCardSaid : Prop := Claim7.holds Tryz.pinned (.plain (OpenSpec.upto newerApartSpec)) newerApartUptoCard
end Rows
end Go.Proofs.YthlgmkfofebbfaaGreatDoor

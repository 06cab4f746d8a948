/-
  DERIVED. GIVEN WITH THE SEED: THE CARDS: each row of YtapagcljhjgcdaaGreatDoorRows.lean that lists a variable, with what it lists TIED to the program's text (the seventh form; the later family's looks); each row that meets fmt, with fmt's text TOLD by the authors' own Lean function (tested against real Go, not proved from fmt's source: count such statements apart). THE CARD IS WHAT COUNTS. Prove the row's statement (the work); the ties are given (YtapagcljhjgcdaaGreatDoorTie.lean); close each card by the builder's one call (the guide's Derived/Test/ToyasCard.lean, 'card_holds'). Laid BY PROGRAM, IN A SANDBOX (cutbox-door.mjs). By AI agents, Wed Nov 11 2026. No macro, syntax, notation, axiom, sorry.
-/
import Derived.Test.YtapagcljhjgcdaaGreatDoorRows
import GoSem.ClaimSeven
namespace Go.Proofs.YtapagcljhjgcdaaGreatDoor
namespace Rows

/-- THE TIED CARD OF 'interrexlaw07.ElderOf'. -/
def elderOfCard : Claim7 := { stood := { row := elderOfRow, standIns := [], harness := (true, "effba7a5426ebb83aad979a70e4c2fd5e641725708bd39072cd70fba644c9a2d"), looks := false }, kinds := [], alts := [], laidByText := true, laidKinds := [.data, .pinned], laidTests := true, laidLooks := .later }
def ElderOfCardSaid : Prop := Claim7.holds Tryz.pinned (.plain (OpenSpec.ofChange elderOfSpec)) elderOfCard

/-- THE SECOND FORM's CARD OF 'interrexlaw07.ElderOf'. -/
def elderOfUptoCard : Claim7 := { stood := { row := elderOfUptoRow, standIns := [], harness := (true, "effba7a5426ebb83aad979a70e4c2fd5e641725708bd39072cd70fba644c9a2d"), looks := false }, kinds := [], alts := [], laidByText := true, laidKinds := [.data, .pinned], laidTests := true, laidLooks := .later }
def ElderOfUptoCardSaid : Prop := Claim7.holds Tryz.pinned (.plain (OpenSpec.upto elderOfSpec)) elderOfUptoCard
end Rows
end Go.Proofs.YtapagcljhjgcdaaGreatDoor

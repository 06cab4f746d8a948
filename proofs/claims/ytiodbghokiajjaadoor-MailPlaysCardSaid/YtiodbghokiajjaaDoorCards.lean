/-
  DERIVED. GIVEN WITH THE SEED: THE CARDS: each row of YtiodbghokiajjaaDoorRows.lean that lists a variable, with what it lists TIED to the program's text (the seventh form; the later family's looks); each row that meets fmt, with fmt's text TOLD by the authors' own Lean function (tested against real Go, not proved from fmt's source: count such statements apart). THE CARD IS WHAT COUNTS. Prove the row's statement (the work); the ties are given (YtiodbghokiajjaaDoorTie.lean); close each card by the builder's one call (the guide's Derived/Test/ToyasCard.lean, 'card_holds'). Laid BY PROGRAM, IN A SANDBOX (cutbox-door.mjs). By AI agents, Wed Nov 11 2026. No macro, syntax, notation, axiom, sorry.
-/
import Derived.Test.YtiodbghokiajjaaDoorRows
import GoSem.ClaimSeven
namespace Go.Proofs.YtiodbghokiajjaaDoor
namespace Rows

/-- THE TIED CARD OF 'interrexlaw09.MailPlays'. -/
def mailPlaysCard : Claim7 := { stood := { row := mailPlaysRow, standIns := [], harness := (true, "37f54b1b52587151ccd5bf6e92ed68abd7831b95e202eff9fbe92bbcd507c0b3"), looks := true }, kinds := [], alts := [], laidByText := true, laidKinds := [.data, .pinned], laidTests := true, laidLooks := .later }
def MailPlaysCardSaid : Prop := Claim7.holds Tryd.pinned (.plain (OpenSpec.ofChange mailPlaysSpec)) mailPlaysCard

/-- THE TIED CARD OF 'interrexlaw09.MailOnce'. -/
def mailOnceCard : Claim7 := { stood := { row := mailOnceRow, standIns := [], harness := (true, "37f54b1b52587151ccd5bf6e92ed68abd7831b95e202eff9fbe92bbcd507c0b3"), looks := true }, kinds := [], alts := [], laidByText := true, laidKinds := [.data, .pinned], laidTests := true, laidLooks := .later }
def MailOnceCardSaid : Prop := Claim7.holds Tryd.pinned (.plain (OpenSpec.ofChange mailOnceSpec)) mailOnceCard

/-- THE TIED CARD OF 'interrexlaw09.MailBack'. -/
def mailBackCard : Claim7 := { stood := { row := mailBackRow, standIns := [], harness := (true, "37f54b1b52587151ccd5bf6e92ed68abd7831b95e202eff9fbe92bbcd507c0b3"), looks := true }, kinds := [], alts := [], laidByText := true, laidKinds := [.data, .pinned], laidTests := true, laidLooks := .later }
def MailBackCardSaid : Prop := Claim7.holds Tryd.pinned (.plain (OpenSpec.ofChange mailBackSpec)) mailBackCard

/-- THE SECOND FORM's CARD OF 'interrexlaw09.MailPlays'. -/
def mailPlaysUptoCard : Claim7 := { stood := { row := mailPlaysUptoRow, standIns := [], harness := (true, "37f54b1b52587151ccd5bf6e92ed68abd7831b95e202eff9fbe92bbcd507c0b3"), looks := true }, kinds := [], alts := [], laidByText := true, laidKinds := [.data, .pinned], laidTests := true, laidLooks := .later }
def MailPlaysUptoCardSaid : Prop := Claim7.holds Tryd.pinned (.plain (OpenSpec.upto mailPlaysSpec)) mailPlaysUptoCard

/-- THE SECOND FORM's CARD OF 'interrexlaw09.MailOnce'. -/
def mailOnceUptoCard : Claim7 := { stood := { row := mailOnceUptoRow, standIns := [], harness := (true, "37f54b1b52587151ccd5bf6e92ed68abd7831b95e202eff9fbe92bbcd507c0b3"), looks := true }, kinds := [], alts := [], laidByText := true, laidKinds := [.data, .pinned], laidTests := true, laidLooks := .later }
def MailOnceUptoCardSaid : Prop := Claim7.holds Tryd.pinned (.plain (OpenSpec.upto mailOnceSpec)) mailOnceUptoCard

/-- THE SECOND FORM's CARD OF 'interrexlaw09.MailBack'. -/
def mailBackUptoCard : Claim7 := { stood := { row := mailBackUptoRow, standIns := [], harness := (true, "37f54b1b52587151ccd5bf6e92ed68abd7831b95e202eff9fbe92bbcd507c0b3"), looks := true }, kinds := [], alts := [], laidByText := true, laidKinds := [.data, .pinned], laidTests := true, laidLooks := .later }
def MailBackUptoCardSaid : Prop := Claim7.holds Tryd.pinned (.plain (OpenSpec.upto mailBackSpec)) mailBackUptoCard
end Rows
end Go.Proofs.YtiodbghokiajjaaDoor

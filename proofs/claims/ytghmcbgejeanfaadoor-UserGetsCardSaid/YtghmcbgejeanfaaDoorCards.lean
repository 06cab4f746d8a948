/-
  DERIVED. GIVEN WITH THE SEED: THE CARDS: each row of YtghmcbgejeanfaaDoorRows.lean that lists a variable, with what it lists TIED to the program's text (the seventh form; the later family's looks); each row that meets fmt, with fmt's text TOLD by the authors' own Lean function (tested against real Go, not proved from fmt's source: count such statements apart). THE CARD IS WHAT COUNTS. Prove the row's statement (the work); the ties are given (YtghmcbgejeanfaaDoorTie.lean); close each card by the builder's one call (the guide's Derived/Test/ToyasCard.lean, 'card_holds'). Laid BY PROGRAM, IN A SANDBOX (cutbox-door.mjs). By AI agents, Wed Nov 11 2026. No macro, syntax, notation, axiom, sorry.
-/
import Derived.Test.YtghmcbgejeanfaaDoorRows
import GoSem.ClaimSeven
namespace Go.Proofs.YtghmcbgejeanfaaDoor
namespace Rows

/-- THE TIED CARD OF 'interrexlaw06.UserPuts'. -/
def userPutsCard : Claim7 := { stood := { row := userPutsRow, standIns := [], harness := (true, "bb510f40a8aff20eba5cf7ed47391cb63bb8f30c0c099d6e9ac1ba02e382b1cf"), looks := false }, kinds := [], alts := [], laidByText := true, laidKinds := [.data, .pinned], laidTests := true, laidLooks := .later }
def UserPutsCardSaid : Prop := Claim7.holds Tryd.pinned (.plain (OpenSpec.ofChange userPutsSpec)) userPutsCard

/-- THE TIED CARD OF 'interrexlaw06.UserGets'. -/
def userGetsCard : Claim7 := { stood := { row := userGetsRow, standIns := [], harness := (true, "bb510f40a8aff20eba5cf7ed47391cb63bb8f30c0c099d6e9ac1ba02e382b1cf"), looks := false }, kinds := [], alts := [], laidByText := true, laidKinds := [.data, .pinned], laidTests := true, laidLooks := .later }
def UserGetsCardSaid : Prop := Claim7.holds Tryd.pinned (.plain (OpenSpec.ofChange userGetsSpec)) userGetsCard

/-- THE TIED CARD OF 'interrexlaw06.UserClones'. -/
def userClonesCard : Claim7 := { stood := { row := userClonesRow, standIns := [], harness := (true, "bb510f40a8aff20eba5cf7ed47391cb63bb8f30c0c099d6e9ac1ba02e382b1cf"), looks := false }, kinds := [], alts := [], laidByText := true, laidKinds := [.data, .pinned], laidTests := true, laidLooks := .later }
def UserClonesCardSaid : Prop := Claim7.holds Tryd.pinned (.plain (OpenSpec.ofChange userClonesSpec)) userClonesCard

/-- THE TIED CARD OF 'interrexlaw06.UserUps'. -/
def userUpsCard : Claim7 := { stood := { row := userUpsRow, standIns := [], harness := (true, "bb510f40a8aff20eba5cf7ed47391cb63bb8f30c0c099d6e9ac1ba02e382b1cf"), looks := false }, kinds := [], alts := [], laidByText := true, laidKinds := [.data, .pinned], laidTests := true, laidLooks := .later }
def UserUpsCardSaid : Prop := Claim7.holds Tryd.pinned (.plain (OpenSpec.ofChange userUpsSpec)) userUpsCard

/-- THE SECOND FORM's CARD OF 'interrexlaw06.UserPuts'. -/
def userPutsUptoCard : Claim7 := { stood := { row := userPutsUptoRow, standIns := [], harness := (true, "bb510f40a8aff20eba5cf7ed47391cb63bb8f30c0c099d6e9ac1ba02e382b1cf"), looks := false }, kinds := [], alts := [], laidByText := true, laidKinds := [.data, .pinned], laidTests := true, laidLooks := .later }
def UserPutsUptoCardSaid : Prop := Claim7.holds Tryd.pinned (.plain (OpenSpec.upto userPutsSpec)) userPutsUptoCard

/-- THE SECOND FORM's CARD OF 'interrexlaw06.UserGets'. -/
def userGetsUptoCard : Claim7 := { stood := { row := userGetsUptoRow, standIns := [], harness := (true, "bb510f40a8aff20eba5cf7ed47391cb63bb8f30c0c099d6e9ac1ba02e382b1cf"), looks := false }, kinds := [], alts := [], laidByText := true, laidKinds := [.data, .pinned], laidTests := true, laidLooks := .later }
def UserGetsUptoCardSaid : Prop := Claim7.holds Tryd.pinned (.plain (OpenSpec.upto userGetsSpec)) userGetsUptoCard

/-- THE SECOND FORM's CARD OF 'interrexlaw06.UserClones'. -/
def userClonesUptoCard : Claim7 := { stood := { row := userClonesUptoRow, standIns := [], harness := (true, "bb510f40a8aff20eba5cf7ed47391cb63bb8f30c0c099d6e9ac1ba02e382b1cf"), looks := false }, kinds := [], alts := [], laidByText := true, laidKinds := [.data, .pinned], laidTests := true, laidLooks := .later }
def UserClonesUptoCardSaid : Prop := Claim7.holds Tryd.pinned (.plain (OpenSpec.upto userClonesSpec)) userClonesUptoCard

/-- THE SECOND FORM's CARD OF 'interrexlaw06.UserUps'. -/
def userUpsUptoCard : Claim7 := { stood := { row := userUpsUptoRow, standIns := [], harness := (true, "bb510f40a8aff20eba5cf7ed47391cb63bb8f30c0c099d6e9ac1ba02e382b1cf"), looks := false }, kinds := [], alts := [], laidByText := true, laidKinds := [.data, .pinned], laidTests := true, laidLooks := .later }
def UserUpsUptoCardSaid : Prop := Claim7.holds Tryd.pinned (.plain (OpenSpec.upto userUpsSpec)) userUpsUptoCard
end Rows
end Go.Proofs.YtghmcbgejeanfaaDoor

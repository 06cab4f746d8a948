/-
  What the document's own reader does with rows: the same as the plain model of the Reader, where an error leaves nothing.
  Conditions: at most 2^40 bytes.
-/
import Derived.Test.YtadecmjojnhlnaaRefS
namespace Go.Proofs.Ytadecmjojnhlnaa
open Go.RowKit

/-- A reader and a row of texts are told. -/
def RefW (st : St) (ss : List ByteArray) (w : World) (e : Ending) (w' : World) : Prop := ∃ A c, e = .returned (.tuple #[refV st, .slice A ss.length c]) ∧ RdS w' A ss ∧ Turns (fun _ => False) w w'

/-- A reader and texts are told, in a row of their own. -/
def RefW6 (st : St) (ss : List ByteArray) (w : World) (e : Ending) (w' : World) : Prop := ∃ A c, e = .returned (.tuple #[refV st, .slice A ss.length c]) ∧ w'.ownsRow 0 9 1 (.slice A ss.length c) ss.length (textCells ss) ∧ (∀ j, Value.ownBlock (.slice A ss.length c) = some j → w.heap.size ≤ j) ∧ Turns (fun _ => False) w w'
end Go.Proofs.Ytadecmjojnhlnaa

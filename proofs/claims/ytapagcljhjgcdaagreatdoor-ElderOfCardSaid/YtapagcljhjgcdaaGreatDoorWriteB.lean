/-
  What the Writer's methods for numbers, truths, texts, rows and raw bytes do, and what Bytes tells.
  Conditions: all that is written stays below 2^40 bytes.
-/
import Derived.Test.YtapagcljhjgcdaaGreatDoorWrite
import Derived.Lib.SliceRun
namespace Go.Proofs.YtapagcljhjgcdaaGreatDoor
open Go.RowKit

/-- New bytes, in memory of their own. -/
def Fresh (w : World) (l : List UInt8) (e : Ending) (w' : World) : Prop :=
  ∃ v', e = .returned v' ∧ w'.ownsRow 0 5 1 v' l.length (cellsOf l) ∧ (∀ k, v'.ownBlock = some k → w.heap.size ≤ k) ∧ Turns (fun _ => False) w w'

end Go.Proofs.YtapagcljhjgcdaaGreatDoor

/-
  Whether an operation may be: formed.
  Conditions: the table reads as it is laid.
-/
import Derived.Test.YtkcddihigagknaaOpEq
namespace Go.Proofs.Ytkcddihigagknaa
open Go.RowKit

/-- Its kind, and all that it has, may be. -/
def frm_14 (o : O14) : Bool := (sig14 o.kd.toNat).all (snd14 o.nd.toNat o.rl.toNat) && (know14 o.kd.toNat && same14 o (own14 o))

end Go.Proofs.Ytkcddihigagknaa

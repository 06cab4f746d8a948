/-
  What the document's Value tells of at most eight bytes: the number whose bytes they are, the lowest first.
  Conditions: none but that.
-/
import Derived.Test.YtkcddihigagknaaRead
import Derived.Test.YtkcddihigagknaaRef
import Derived.Lib.IndexBytes
namespace Go.Proofs.Ytkcddihigagknaa
open Go.RowKit

theorem val_drop (l : List UInt8) (j : Nat) (hj : j < l.length) : val (l.drop j) = l[j].toNat + 256 * val (l.drop (j + 1)) := by
  rw [List.drop_eq_getElem_cons hj, val]

theorem data_at (s : ByteArray) (j : Nat) (hj : j < s.size) : s.data.toList[j]'(by rw [bytes_length]; exact hj) = s[j] := rfl

end Go.Proofs.Ytkcddihigagknaa

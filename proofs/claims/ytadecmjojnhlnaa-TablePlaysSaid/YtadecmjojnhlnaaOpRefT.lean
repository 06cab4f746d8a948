/-
  The document's Text of an operation tells its bytes.
  Conditions: texts of at most 65535 bytes.
-/
import Derived.Test.YtadecmjojnhlnaaOpRef
namespace Go.Proofs.Ytadecmjojnhlnaa
open Go.RowKit

end Go.Proofs.Ytadecmjojnhlnaa

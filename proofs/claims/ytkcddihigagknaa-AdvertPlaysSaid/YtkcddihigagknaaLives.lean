/-
  The chapter's example holds: the law's 'lives' tells true, and turns nothing that was there.
  Conditions: none.
-/
import Derived.Test.YtkcddihigagknaaWriteC
import Derived.LaidEqlPtr
namespace Go.Proofs.Ytkcddihigagknaa
open Go.RowKit

theorem infoWriter : (Try.prog.info? 65).map (fun i => (i.zero, i.size, i.bytes)) = some (some (.agg #[.slice none 0 0]), 1, 24) := by kernel_rfl
theorem eqWriter (a : Addr) (W : World) : (binOp .eql 63 (.pointer (some a)) (.pointer (some a))).run Try.prog W = .ok (.bool true) W := by
  obtain ⟨i0, hi, _⟩ := info_parts infoWriter
  exact run_eql_ptr_same W a Try.underlying63 hi

/-- A new Writer. -/
theorem wtr_new (w : World) : Wtr (w.alloc (.cells #[.slice none 0 0] 65)) w.heap.size (.slice none 0 0) [] :=
  ⟨heap_alloc_new w _, World.ownsRow_nil _ _ _ _⟩

/-- It tells true, and nothing that was there has turned. -/
def Told (b : Bool) (w : World) (e : Ending) (w' : World) : Prop := e = .returned (.bool b) ∧ Turns (fun _ => False) w w'

end Go.Proofs.Ytkcddihigagknaa

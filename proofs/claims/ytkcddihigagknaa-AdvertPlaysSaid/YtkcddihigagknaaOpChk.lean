/-
  Check and Bytes: what is wrong with an operation, or its bytes; and the law's example.
  Conditions: texts of at most 65535 bytes; the table reads as it is laid.
-/
import Derived.Test.YtkcddihigagknaaOpWr
namespace Go.Proofs.Ytkcddihigagknaa
open Go.RowKit

/-- What Check tells. -/
def chk14 (o : O14) : Int := if frm_14 o = true then (if 64 < (opB14 o).length then 3 else 0) else 4
theorem opB14_few {o : O14} (h : Lit14 o) : (opB14 o).length ≤ 131075 := by
  have h1 := parts14_length h (sig14 o.kd.toNat)
  have h2 := sig14_few o.kd.toNat
  unfold opB14
  rw [List.length_append, le_length]
  omega

/-- What Bytes tells. -/
def Bys14 (w : World) (o : O14) (e : Ending) (w' : World) : Prop :=
  (chk14 o ≠ 0 ∧ e = .returned (.tuple #[.slice none 0 0, .int .i64 (chk14 o)]) ∧ Below w.heap.size w w') ∨
  (chk14 o = 0 ∧ ∃ A c, e = .returned (.tuple #[.slice A (opB14 o).length c, .int .i64 0]) ∧ w'.ownsRow 0 5 1 (.slice A (opB14 o).length c) (opB14 o).length (cellsOf (opB14 o)) ∧ (∀ k, Value.ownBlock (.slice A (opB14 o).length c) = some k → w.heap.size ≤ k) ∧ Below w.heap.size w w')
/-- The chapter's example. -/
def ex14 : O14 := ⟨0, ⟨#[97]⟩, ⟨#[49]⟩, 0, 0⟩
theorem ex14_bytes : opB14 ex14 = [0, 1, 0, 97, 1, 0, 49] := by decide
theorem ex14_check : chk14 ex14 = 0 := by decide
end Go.Proofs.Ytkcddihigagknaa

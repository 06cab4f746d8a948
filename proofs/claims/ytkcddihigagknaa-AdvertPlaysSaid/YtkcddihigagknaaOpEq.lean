/-
  Two operations are compared field by field.
  Conditions: none.
-/
import Derived.Test.YtkcddihigagknaaOpOwn
import Derived.Laws.StructEq
import Derived.ChangeKeysEq
namespace Go.Proofs.Ytkcddihigagknaa
open Go.RowKit

/-- All fields are the same. -/
def same14 (x y : O14) : Bool := decide (x.kd = y.kd ∧ x.a = y.a ∧ x.b = y.b ∧ x.nd = y.nd ∧ x.rl = y.rl)
theorem same14_iff {x y : O14} : same14 x y = true ↔ x = y := by
  obtain ⟨a, b, c, d, e⟩ := x
  obtain ⟨a', b', c', d', e'⟩ := y
  simp [same14]
theorem u8_ne14 {x y : UInt8} (h : x ≠ y) : ((x.toNat : Int) == (y.toNat : Int)) = false := by
  rw [beq_eq_false_iff_ne]
  intro e
  exact h (UInt8.toNat_inj.1 (by omega))
theorem u8_eq14 (x y : UInt8) : ((x.toNat : Int) == (y.toNat : Int)) = decide (x = y) := by
  by_cases h : x = y
  · subst h; simp
  · rw [u8_ne14 h, decide_eq_false h]
theorem str_eq14 (x y : ByteArray) : (x.toList == y.toList) = decide (x = y) := by
  by_cases h : x = y
  · subst h; simp
  · rw [decide_eq_false h, beq_eq_false_iff_ne]
    intro e
    rw [ByteArray.toList_eq, ByteArray.toList_eq] at e
    exact h (ByteArray.ext (Array.toList_inj.1 e))

end Go.Proofs.Ytkcddihigagknaa

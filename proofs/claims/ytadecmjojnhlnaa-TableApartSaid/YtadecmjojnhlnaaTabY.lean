/-
  Put of an act in a law: what each operation makes.
  Conditions: none.
-/
import Derived.Test.YtadecmjojnhlnaaTabW
namespace Go.Proofs.Ytadecmjojnhlnaa
open Go.RowKit

/-- Put of an act: what each operation makes. -/
def YPv15 (B D : Nat) (t : AcT) : Nat → Value → World → Prop
  | 0, v, _ => v = .pointer (some ⟨B, 0, none⟩)
  | 1, v, _ => v = .pointer (some ⟨D, 1, none⟩)
  | 2, v, _ => v = .int .u8 t.cl
  | 3, v, _ => v = .pointer (some ⟨D, 2, none⟩)
  | 4, v, _ => v = .int .u64 t.nm
  | 5, v, _ => v = .agg #[.int .u8 t.kd, .int .u8 t.cl, .int .u64 t.nm, .int .u8 t.er, .slice t.A t.ss.length t.c]
  | 6, v, _ => v = .agg #[.int .i64 (t.er % 19 : Nat), .slice t.A t.ss.length t.c]
  | _, _, _ => True
theorem YPv15_any {B D : Nat} {t : AcT} {W W' : World} (j : Nat) (z : Value) (h : YPv15 B D t j z W) : YPv15 B D t j z W' := by
  match j, h with
  | 0, h => exact h
  | 1, h => exact h
  | 2, h => exact h
  | 3, h => exact h
  | 4, h => exact h
  | 5, h => exact h
  | 6, h => exact h
  | _ + 7, _ => trivial
end Go.Proofs.Ytadecmjojnhlnaa

/-
  What the Writer's methods do, call by call: bytes are put behind those that were written; nothing else turns.
  Conditions: all that is written stays below 2^40 bytes.
-/
import Derived.Test.YtapagcljhjgcdaaGreatDoorProg
import Derived.Test.YtapagcljhjgcdaaGreatDoorWords
import Derived.WalkSpells
import Derived.WalkLawsBesides
import Derived.Lib.Hide
import Derived.KernelRfl
namespace Go.Proofs.YtapagcljhjgcdaaGreatDoor
open Go.RowKit

theorem infoByte : (Tryz.prog.info? 5).map (fun i => (i.zero, i.size, i.bytes)) = some (some (.int .u8 0), 1, 1) := by kernel_rfl

/-- The lowest so many bytes of a number, the lowest first. -/
def le (x : Nat) : Nat → List UInt8
  | 0 => []
  | k + 1 => le x k ++ [UInt8.ofNat (x / 256 ^ k)]
theorem le_length (x k : Nat) : (le x k).length = k := by
  induction k with
  | zero => rfl
  | succ k ih => simp [le, ih]

theorem shr_byte (x k : Nat) : (x : Int) / 2 ^ (8 * (k : Int)).toNat = ((x / 256 ^ k : Nat) : Int) := by
  rw [show (8 * (k : Int)).toNat = 8 * k by omega, Int.natCast_ediv, Int.natCast_pow, Int.pow_mul]
  rfl
theorem wrap_byte (q : Nat) : IntKind.u8.wrap (q : Int) = ((UInt8.ofNat q).toNat : Int) := by
  simp [IntKind.wrap_u8']
theorem src_one (w : World) (b : UInt8) : Src Tryz.prog 1 109 (.slice (some ⟨w.heap.size, 0, none⟩) 1 1) 1 (cellsOf [b]) (w.alloc (.cells #[.int .u8 b.toNat] 5)).drew :=
  Src.ofSlice _ Tryz.underlying109 _ 1 1 _ rfl (cell_one_new _ _ _) (cellsOf_one _)

end Go.Proofs.YtapagcljhjgcdaaGreatDoor

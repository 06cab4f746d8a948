/-
  Two rows of sixteen numbers that are the same aren't other ones; a number of such a row.
  Conditions: none.
-/
import Derived.Test.YtbpccjofopenoaaRef4
import Derived.ChangeKeysEq
import Derived.Laws.StructEq
namespace Go.Proofs.Ytbpccjofopenoaa
open Go.RowKit

theorem part_num (f : Nat → Int) (i : Nat) (hi : i < 16) (w : World) : (part 2 (numA f) i).run Try.prog w = .ok (.int .i64 (f i)) w := by
  have hg := numA_get f i hi
  simp [part, isAgg, run_underlying Try.underlying2, hg]
theorem cellsOfNum : Try.prog.cellsOf 2 = 1 := by kernel_rfl
theorem items_same (d : Nat) (f : Nat → Int) (w : World) : ∀ is : List Nat, (∀ i ∈ is, i < 16) → (Op.eqItems (d + 1) 2 (Try.prog.cellsOf 2) (numA f) (numA f) is).run Try.prog w = .ok true w
  | [], _ => by simp [Op.eqItems]
  | i :: is, h => by
    have hp := part_num f i (h i (by simp)) w
    have ih := items_same d f w is (fun j hj => h j (by simp [hj]))
    rw [cellsOfNum] at ih ⊢
    have he := run_equalIn_int (P := Try.prog) w d 2 .i64 .i64 (f i) (f i) Try.underlying2
    simp [Op.eqItems, hp, he, ih]
theorem neq_num (f : Nat → Int) (w : World) : (binOp .neq 32 (.agg (numA f)) (.agg (numA f))).run Try.prog w = .ok (.bool false) w := by
  obtain ⟨i0, hi, _⟩ := info_parts (show (Try.prog.info? 2).map (fun i => (i.zero, i.size, i.bytes)) = some (some (.int .i64 0), 1, 8) by kernel_rfl)
  rw [run_neq_struct, run_equalIn_array w 9999 (numA f) (numA f) Try.underlying32 hi, items_same 9998 f w (List.range 16) (fun i hi => List.mem_range.1 hi)]
  rfl
theorem eq_num (f : Nat → Int) (w : World) : (Op.equalIn 10000 32 (.agg (numA f)) (.agg (numA f))).run Try.prog w = .ok true w := by
  obtain ⟨i0, hi, _⟩ := info_parts (show (Try.prog.info? 2).map (fun i => (i.zero, i.size, i.bytes)) = some (some (.int .i64 0), 1, 8) by kernel_rfl)
  rw [run_equalIn_array w 9999 (numA f) (numA f) Try.underlying32 hi, items_same 9998 f w (List.range 16) (fun i hi => List.mem_range.1 hi)]
theorem index_run33 (f : Nat → Int) (k : Nat) (hk : k < 16) (w : World) : (Instr.index 33 (.agg (numA f)) (.int .i64 (k : Int))).run Try.prog w = .ok (.int .i64 (f k)) w := by
  have hg := numA_get f k hk
  obtain ⟨i0, hi, hz0, hz1, hz2⟩ := info_parts (show (Try.prog.info? 2).map (fun i => (i.zero, i.size, i.bytes)) = some (some (.int .i64 0), 1, 8) by kernel_rfl)
  have hu := Try.underlying33
  have hu1 := Try.underlying2
  simp [Instr.index, asIntOf, run_underlying hu, part, isAgg, run_underlying hu1, sizeOf, typeInfo, hi, hz1, hg]
  intro h
  omega
end Go.Proofs.Ytbpccjofopenoaa

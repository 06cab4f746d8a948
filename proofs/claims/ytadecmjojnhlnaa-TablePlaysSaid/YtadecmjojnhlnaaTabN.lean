/-
  New of a table, and the chapter's example.
  Conditions: none.
-/
import Derived.Test.YtadecmjojnhlnaaTabP
namespace Go.Proofs.Ytadecmjojnhlnaa
open Go.RowKit

theorem infoTab15 : (Try.prog.info? 66).map (fun i => (i.zero, i.size, i.bytes)) = some (some (.agg (tabA fun _ => zero15)), 24, 320) := by kernel_rfl
theorem zeroTab15_run (w : World) : (zeroValue 66).run Try.prog w = .ok (.agg (tabA fun _ => zero15)) w := by
  obtain ⟨i0, hi, hz0, hz1, hz2⟩ := info_parts infoTab15
  simp [zeroValue, typeInfo, hi, hz0]
set_option maxRecDepth 100000 in
theorem New15_calls (w : World) : Calls Try.prog 8 #[] w fun e w' => e = .returned (.pointer (some ⟨w.heap.size, 0, none⟩)) ∧ w' = w.alloc (.cells (tabA fun _ => zero15) 66) := by
  have hz := zeroTab15_run
  go_enter Try.func8, Try.ntmps8
  go_wp2
  go_ret
  exact ⟨rfl, rfl⟩
theorem own_new15 (w : World) (P : Nat) (hP : P = w.heap.size + 1) : Own15 (w.alloc (.cells (tabA fun _ => zero15) 66)) P w.heap.size (fun _ => zero15) :=
  ⟨by omega, by simp; omega, heap_alloc_new w _, fun _ _ => Txt15.none _, fun _ _ h => absurd rfl h, fun _ _ => may_zero15⟩

set_option maxRecDepth 100000 in
set_option maxHeartbeats 1000000 in
theorem lives15_calls (w : World) : Calls Try.prog 6 #[] w (Says14 (.bool true) w) := by
  go_enter Try.func6, Try.ntmps6
  go_wp2_with fail
  with_reducible refine (New15_calls w).mono ?_
  rintro e w1 ⟨rfl, hw⟩
  have ho : Own15 w1 (w.heap.size + 1) w.heap.size (fun _ => zero15) := by rw [hw]; exact own_new15 w _ rfl
  have hb : Below w.heap.size w w1 := by rw [hw]; exact alloc14 (Below.refl _ w) _
  have HP : Hid (Calls Try.prog 9 #[.pointer (some ⟨w.heap.size, 0, none⟩), .int .u8 2, .int .u64 5, .agg #[.int .i64 8, .slice none 0 0]] w1 fun en w' => en = .returned (.int .i64 0) ∧ ∃ T, Own15 w' (w.heap.size + 1) w.heap.size T ∧ (T 2).n = 5 ∧ Below w.heap.size w w') :=
    (Put15_calls ho 2 5 8 none 0 [] (Txt15.none _) (by decide) ⟨Nat.zero_le _, fun s hs => by cases hs⟩).mono fun en w' ⟨he, T, h1, h2, h3⟩ => ⟨he, T, h1, congrArg P15.n (h3 2 (by decide)), hb.trans (h2.below_at hb.size (fun k e => by omega))⟩
  clear hw ho hb
  have HJ : Hid (∀ W T, Own15 W (w.heap.size + 1) w.heap.size T → (T 2).n = 5 → ∀ n : Nat, Calls Try.prog 21 #[.pointer (some ⟨w.heap.size, 0, none⟩), .int .u8 2, .int .u64 n] W (Says14 (.int .i64 (J15 5 2 n)) W)) := fun W T h h2 n => by
    have := Judge15_calls w.heap.size T 2 n W h.at_
    rw [getT_n15, h2] at this
    exact this
  go_wp2_with fail
  with_reducible refine HP.out.mono ?_
  rintro e w2 ⟨rfl, T, h1, hn, hb⟩
  have HO := Lib.hid h1
  have HB := Lib.hid hb
  clear h1 hb HP
  have J4 : Hid (∀ W, Below w2.heap.size w2 W → Calls Try.prog 21 #[.pointer (some ⟨w.heap.size, 0, none⟩), .int .u8 2, .int .u64 4] W (Says14 (.int .i64 1) W)) := fun W hW => HJ.out W T (HO.out.later hW) hn 4
  have J5 : Hid (∀ W, Below w2.heap.size w2 W → Calls Try.prog 21 #[.pointer (some ⟨w.heap.size, 0, none⟩), .int .u8 2, .int .u64 5] W (Says14 (.int .i64 2) W)) := fun W hW => HJ.out W T (HO.out.later hW) hn 5
  have J6 : Hid (∀ W, Below w2.heap.size w2 W → Calls Try.prog 21 #[.pointer (some ⟨w.heap.size, 0, none⟩), .int .u8 2, .int .u64 6] W (Says14 (.int .i64 3) W)) := fun W hW => HJ.out W T (HO.out.later hW) hn 6
  have J0 : Hid (∀ W, Below w2.heap.size w2 W → Calls Try.prog 21 #[.pointer (some ⟨w.heap.size, 0, none⟩), .int .u8 2, .int .u64 0] W (Says14 (.int .i64 0) W)) := fun W hW => HJ.out W T (HO.out.later hW) hn 0
  clear HJ HO hn
  have BW : Hid (Below w2.heap.size w2 w2) := Below.refl _ _
  go_wp2_with (go_at_call 21; (first | (with_reducible refine (J4.out _ BW.out).mono ?_) | (with_reducible refine (J5.out _ BW.out).mono ?_) | (with_reducible refine (J6.out _ BW.out).mono ?_) | (with_reducible refine (J0.out _ BW.out).mono ?_)); rintro e w3 ⟨rfl, hb⟩; have BX := Lib.hid (next14 BW.out hb); clear BW hb; have BW := BX; clear BX)
  go_wp2
  go_ret
  exact ⟨rfl, next14 HB.out BW.out⟩
end Go.Proofs.Ytadecmjojnhlnaa

/-
  What the Writer's methods for numbers, truths, texts, rows and raw bytes do, and what Bytes tells.
  Conditions: all that is written stays below 2^40 bytes.
-/
import Derived.Test.YtkcddihigagknaaWrite
import Derived.Lib.SliceRun
namespace Go.Proofs.Ytkcddihigagknaa
open Go.RowKit

theorem number_at (B : Nat) (v : Value) (bs : List UInt8) (xi si : Int) (x size : Nat) (w : World) (h : Wtr w B v bs) (ex : xi = x) (es : si = size) (hx : x < 18446744073709551616) (hsize : size ≤ 8) (hroom : bs.length + 8 ≤ 1099511627776) :
    Calls Try.prog 37 #[.pointer (some ⟨B, 0, none⟩), .int .u64 xi, .int .i64 si] w (Wrote w B v (bs ++ le x size)) := by
  subst ex
  subst es
  exact number_calls B v bs x size w h hx hsize hroom
set_option maxRecDepth 100000 in
theorem byte_calls (B : Nat) (v : Value) (bs : List UInt8) (x : Nat) (w : World) (h : Wtr w B v bs) (hx : x < 256) (hroom : bs.length + 8 ≤ 1099511627776) :
    Calls Try.prog 34 #[.pointer (some ⟨B, 0, none⟩), .int .u8 x] w (Wrote w B v (bs ++ le x 1)) := by
  go_enter Try.func34, Try.ntmps34
  go_wp2_with fail
  with_reducible refine (number_at B v bs _ _ x 1 w h (by simp) (by simp) (by omega) (by omega) hroom).mono ?_
  rintro e w' ⟨rfl, hw⟩
  go_wp2
  go_ret
  exact ⟨rfl, hw⟩
/-- New bytes, in memory of their own. -/
def Fresh (w : World) (l : List UInt8) (e : Ending) (w' : World) : Prop :=
  ∃ v', e = .returned v' ∧ w'.ownsRow 0 5 1 v' l.length (cellsOf l) ∧ (∀ k, v'.ownBlock = some k → w.heap.size ≤ k) ∧ Turns (fun _ => False) w w'

set_option maxRecDepth 100000 in
theorem clone_calls (u : Value) (l : List UInt8) (w : World) (hu : Rd w u l) (hroom : l.length ≤ 1099511627776) :
    Calls Try.prog 26 #[u] w (Fresh w l) := by
  obtain ⟨i0, hi, hz0, hz1, hz2⟩ := info_parts infoByte
  have HU := Lib.hid hu
  obtain ⟨A, c, rfl, hc⟩ := hu
  cases A with
  | none =>
    have hl : l = [] := by
      by_cases hl : l = []
      · exact hl
      · obtain ⟨ad, h, _⟩ := hc hl
        cases h
    subst hl
    clear hc HU
    have hnil := fun W => Lib.run_eql_slice_nil (P := Try.prog) W 40 5 none 0 c 0 0 Try.underlying40
    go_enter Try.func26, Try.ntmps26
    go_wp2
    go_ret
    exact ⟨_, rfl, World.ownsRow_nil _ _ _ _, by simp [Value.ownBlock], Turns.refl _ _⟩
  | some ad =>
    clear hc
    have hnil := fun W => Lib.run_eql_slice_nil (P := Try.prog) W 40 5 (some ad) l.length c 0 0 Try.underlying40
    have hmade : (w.alloc (.cells #[] 5)).ownsRow 0 5 1 (.slice (some ⟨w.heap.size, 0, none⟩) 0 0) 0 [] := World.ownsRow_made w #[] 0 (Nat.zero_le _) (Nat.zero_le _) rfl
    have HM := Lib.hid hmade
    clear hmade
    go_enter Try.func26, Try.ntmps26
    go_wp2_with (at_builtin; refine wpList_append_src _ rfl (.tmp 5) (.tmp 6) 40 40 (by rfl) 5 i0 _ 1 1 Try.underlying40 hi hz0 hz1 hz2 rfl (.slice (some ⟨w.heap.size, 0, none⟩) 0 0) 0 [] (by rfl) HM.out (.slice (some ad) l.length c) l.length (cellsOf l) (by rfl) ((HU.out.still ((Turns.refl _ _).alloc _)).src Try.underlying40) (by simp only [maxLen]; omega) (by omega) ?_; intro A2 c2 w2 ho2 hg2 ha2)
    rw [Nat.zero_add] at ho2 ha2
    go_ret
    refine ⟨_, by simp, ho2, ?_, ?_⟩
    · intro k hk
      rcases ha2 with h2 | h2
      · rw [h2] at hk
        simp [Value.ownBlock] at hk
        omega
      · rw [h2] at hk
        simp at hk
        omega
    · exact ((Turns.refl _ _).alloc _).grown hg2 (fun k hk hlt => by simp [Value.ownBlock] at hk; omega)
end Go.Proofs.Ytkcddihigagknaa

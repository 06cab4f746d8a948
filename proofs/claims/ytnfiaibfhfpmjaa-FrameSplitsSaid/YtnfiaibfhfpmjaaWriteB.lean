/-
  What the Writer's methods for numbers, truths, texts, rows and raw bytes do, and what Bytes tells.
  Conditions: all that is written stays below 2^40 bytes.
-/
import Derived.Test.YtnfiaibfhfpmjaaWrite
import Derived.Lib.SliceRun
namespace Go.Proofs.Ytnfiaibfhfpmjaa
open Go.RowKit

theorem number_at (B : Nat) (v : Value) (bs : List UInt8) (xi si : Int) (x size : Nat) (w : World) (h : Wtr w B v bs) (ex : xi = x) (es : si = size) (hx : x < 18446744073709551616) (hsize : size ≤ 8) (hroom : bs.length + 8 ≤ 1099511627776) :
    Calls Try.prog 32 #[.pointer (some ⟨B, 0, none⟩), .int .u64 xi, .int .i64 si] w (Wrote w B v (bs ++ le x size)) := by
  subst ex
  subst es
  exact number_calls B v bs x size w h hx hsize hroom
theorem byte_calls (B : Nat) (v : Value) (bs : List UInt8) (x : Nat) (w : World) (h : Wtr w B v bs) (hx : x < 256) (hroom : bs.length + 8 ≤ 1099511627776) :
    Calls Try.prog 15 #[.pointer (some ⟨B, 0, none⟩), .int .u8 x] w (Wrote w B v (bs ++ le x 1)) := by
  go_enter Try.func15, Try.ntmps15
  go_wp2_with fail
  with_reducible refine (number_at B v bs _ _ x 1 w h (by simp) (by simp) (by omega) (by omega) hroom).mono ?_
  rintro e w' ⟨rfl, hw⟩
  go_wp2
  go_ret
  exact ⟨rfl, hw⟩
theorem four_calls (B : Nat) (v : Value) (bs : List UInt8) (x : Nat) (w : World) (h : Wtr w B v bs) (hx : x < 4294967296) (hroom : bs.length + 8 ≤ 1099511627776) :
    Calls Try.prog 16 #[.pointer (some ⟨B, 0, none⟩), .int .u32 x] w (Wrote w B v (bs ++ le x 4)) := by
  go_enter Try.func16, Try.ntmps16
  go_wp2_with fail
  with_reducible refine (number_at B v bs _ _ x 4 w h (by simp) (by simp) (by omega) (by omega) hroom).mono ?_
  rintro e w' ⟨rfl, hw⟩
  go_wp2
  go_ret
  exact ⟨rfl, hw⟩

theorem four_at (B : Nat) (v : Value) (bs : List UInt8) (xi : Int) (x : Nat) (w : World) (h : Wtr w B v bs) (ex : xi = x) (hx : x < 4294967296) (hroom : bs.length + 8 ≤ 1099511627776) :
    Calls Try.prog 16 #[.pointer (some ⟨B, 0, none⟩), .int .u32 xi] w (Wrote w B v (bs ++ le x 4)) := ex ▸ four_calls B v bs x w h hx hroom
theorem raw_calls (B : Nat) (v u : Value) (bs l : List UInt8) (w : World) (h : Wtr w B v bs) (hu : Rd w u l) (hroom : bs.length + l.length ≤ 1099511627776) :
    Calls Try.prog 17 #[.pointer (some ⟨B, 0, none⟩), u] w (Wrote w B v (bs ++ l)) := by
  obtain ⟨i0, hi, hz0, hz1, hz2⟩ := info_parts infoByte
  have hc := h.cell
  have hf := h.free
  have HU := Lib.hid hu
  have HW := Lib.hid h
  obtain ⟨A, c, rfl, _⟩ := hu
  clear h
  go_enter Try.func17, Try.ntmps17
  go_wp2_with (at_builtin; refine wpList_append_src _ rfl (.tmp 9) (.tmp 10) 22 22 (by rfl) 5 i0 _ 1 1 Try.underlying22 hi hz0 hz1 hz2 rfl v bs.length (cellsOf bs) (by rfl) HW.out.2 (.slice A l.length c) l.length (cellsOf l) (by rfl) (HU.out.src Try.underlying22) (by simp only [maxLen]; omega) (by omega) ?_; intro A2 c2 w2 ho2 hg2 ha2; obtain ⟨hc2, hf2⟩ := HW.out.after (Turns.refl _ _) hg2)
  have R := Went.put HW.out (Turns.refl _ _) (by rw [List.length_append]) ho2 hg2 ha2
  go_ret
  exact ⟨rfl, R⟩

/-- New bytes, in memory of their own. -/
def Fresh (w : World) (l : List UInt8) (e : Ending) (w' : World) : Prop :=
  ∃ v', e = .returned v' ∧ w'.ownsRow 0 5 1 v' l.length (cellsOf l) ∧ (∀ k, v'.ownBlock = some k → w.heap.size ≤ k) ∧ Turns (fun _ => False) w w'

theorem clone_calls (u : Value) (l : List UInt8) (w : World) (hu : Rd w u l) (hroom : l.length ≤ 1099511627776) :
    Calls Try.prog 30 #[u] w (Fresh w l) := by
  obtain ⟨i0, hi, hz0, hz1, hz2⟩ := info_parts infoByte
  have HU := Lib.hid hu
  obtain ⟨A, c, rfl, hc⟩ := hu
  cases A with
  | none =>
    have hl : l = [] := by
      by_cases hl : l = []
      · exact hl
      · obtain ⟨ad, h, _⟩ := hc hl
        cases h
    subst hl
    clear hc HU
    have hnil := fun W => Lib.run_eql_slice_nil (P := Try.prog) W 22 5 none 0 c 0 0 Try.underlying22
    go_enter Try.func30, Try.ntmps30
    go_wp2
    go_ret
    exact ⟨_, rfl, World.ownsRow_nil _ _ _ _, by simp [Value.ownBlock], Turns.refl _ _⟩
  | some ad =>
    clear hc
    have hnil := fun W => Lib.run_eql_slice_nil (P := Try.prog) W 22 5 (some ad) l.length c 0 0 Try.underlying22
    have hmade : (w.alloc (.cells #[] 5)).ownsRow 0 5 1 (.slice (some ⟨w.heap.size, 0, none⟩) 0 0) 0 [] := World.ownsRow_made w #[] 0 (Nat.zero_le _) (Nat.zero_le _) rfl
    have HM := Lib.hid hmade
    clear hmade
    go_enter Try.func30, Try.ntmps30
    go_wp2_with (at_builtin; refine wpList_append_src _ rfl (.tmp 5) (.tmp 6) 22 22 (by rfl) 5 i0 _ 1 1 Try.underlying22 hi hz0 hz1 hz2 rfl (.slice (some ⟨w.heap.size, 0, none⟩) 0 0) 0 [] (by rfl) HM.out (.slice (some ad) l.length c) l.length (cellsOf l) (by rfl) ((HU.out.still ((Turns.refl _ _).alloc _)).src Try.underlying22) (by simp only [maxLen]; omega) (by omega) ?_; intro A2 c2 w2 ho2 hg2 ha2)
    rw [Nat.zero_add] at ho2 ha2
    go_ret
    refine ⟨_, by simp, ho2, ?_, ?_⟩
    · intro k hk
      rcases ha2 with h2 | h2
      · rw [h2] at hk
        simp [Value.ownBlock] at hk
        omega
      · rw [h2] at hk
        simp at hk
        omega
    · exact ((Turns.refl _ _).alloc _).grown hg2 (fun k hk hlt => by simp [Value.ownBlock] at hk; omega)
end Go.Proofs.Ytnfiaibfhfpmjaa

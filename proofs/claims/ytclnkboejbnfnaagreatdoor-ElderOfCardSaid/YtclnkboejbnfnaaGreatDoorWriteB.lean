/-
  What the Writer's methods for numbers, truths, texts, rows and raw bytes do, and what Bytes tells.
  Conditions: all that is written stays below 2^40 bytes.
-/
import Derived.Test.YtclnkboejbnfnaaGreatDoorWrite
import Derived.Lib.SliceRun
namespace Go.Proofs.YtclnkboejbnfnaaGreatDoor
open Go.RowKit

theorem number_at (B : Nat) (v : Value) (bs : List UInt8) (xi si : Int) (x size : Nat) (w : World) (h : Wtr w B v bs) (ex : xi = x) (es : si = size) (hx : x < 18446744073709551616) (hsize : size ≤ 8) (hroom : bs.length + 8 ≤ 1099511627776) :
    Calls Tryz.prog 127 #[.pointer (some ⟨B, 0, none⟩), .int .u64 xi, .int .i64 si] w (Wrote w B v (bs ++ le x size)) := by
  subst ex
  subst es
  exact number_calls B v bs x size w h hx hsize hroom
set_option maxRecDepth 100000 in
theorem byte_calls (B : Nat) (v : Value) (bs : List UInt8) (x : Nat) (w : World) (h : Wtr w B v bs) (hx : x < 256) (hroom : bs.length + 8 ≤ 1099511627776) :
    Calls Tryz.prog 52 #[.pointer (some ⟨B, 0, none⟩), .int .u8 x] w (Wrote w B v (bs ++ le x 1)) := by
  go_enter Tryz.func52, Tryz.ntmps52
  go_wp2_with fail
  with_reducible refine (number_at B v bs _ _ x 1 w h (by simp) (by simp) (by omega) (by omega) hroom).mono ?_
  rintro e w' ⟨rfl, hw⟩
  go_wp2
  go_ret
  exact ⟨rfl, hw⟩
set_option maxRecDepth 100000 in
theorem two_calls (B : Nat) (v : Value) (bs : List UInt8) (x : Nat) (w : World) (h : Wtr w B v bs) (hx : x < 65536) (hroom : bs.length + 8 ≤ 1099511627776) :
    Calls Tryz.prog 53 #[.pointer (some ⟨B, 0, none⟩), .int .u16 x] w (Wrote w B v (bs ++ le x 2)) := by
  go_enter Tryz.func53, Tryz.ntmps53
  go_wp2_with fail
  with_reducible refine (number_at B v bs _ _ x 2 w h (by simp) (by simp) (by omega) (by omega) hroom).mono ?_
  rintro e w' ⟨rfl, hw⟩
  go_wp2
  go_ret
  exact ⟨rfl, hw⟩
theorem two_at (B : Nat) (v : Value) (bs : List UInt8) (xi : Int) (x : Nat) (w : World) (h : Wtr w B v bs) (ex : xi = x) (hx : x < 65536) (hroom : bs.length + 8 ≤ 1099511627776) :
    Calls Tryz.prog 53 #[.pointer (some ⟨B, 0, none⟩), .int .u16 xi] w (Wrote w B v (bs ++ le x 2)) := ex ▸ two_calls B v bs x w h hx hroom
set_option maxRecDepth 100000 in
theorem truth_calls (B : Nat) (v : Value) (bs : List UInt8) (is : Bool) (w : World) (h : Wtr w B v bs) (hroom : bs.length + 8 ≤ 1099511627776) :
    Calls Tryz.prog 129 #[.pointer (some ⟨B, 0, none⟩), .bool is] w (Wrote w B v (bs ++ le is.toNat 1)) := by
  have hb := fun (x : Nat) (xi : Int) (hx : x < 256) (e : xi = x) => e ▸ byte_calls B v bs x w h hx hroom
  have HB := Lib.hid hb
  clear hb
  cases is
  · go_enter Tryz.func129, Tryz.ntmps129
    go_wp2_with fail
    with_reducible refine (HB.out 0 _ (by omega) (by simp)).mono ?_
    rintro e w' ⟨rfl, hw⟩
    go_wp2
    go_ret
    exact ⟨rfl, hw⟩
  · go_enter Tryz.func129, Tryz.ntmps129
    go_wp2_with fail
    with_reducible refine (HB.out 1 _ (by omega) (by simp)).mono ?_
    rintro e w' ⟨rfl, hw⟩
    go_wp2
    go_ret
    exact ⟨rfl, hw⟩

set_option maxRecDepth 100000 in
theorem text_calls (B : Nat) (v : Value) (bs : List UInt8) (s : ByteArray) (w : World) (h : Wtr w B v bs) (hs : s.size ≤ 65535) (hroom : bs.length + 65545 ≤ 1099511627776) :
    Calls Tryz.prog 128 #[.pointer (some ⟨B, 0, none⟩), .string s] w (Wrote w B v (bs ++ (le s.size 2 ++ s.data.toList))) := by
  obtain ⟨i0, hi, hz0, hz1, hz2⟩ := info_parts infoByte
  go_enter Tryz.func128, Tryz.ntmps128
  go_wp2_with fail
  with_reducible refine (two_calls B v bs s.size w h (by omega) (by omega)).mono ?_
  rintro e w1 ⟨rfl, v1, hw1, ho1, ht1⟩
  have hc := hw1.cell
  have hf := hw1.free
  have hll := le_length s.size 2
  have HW := Lib.hid hw1
  have HT := Lib.hid ht1
  have HO := Lib.hid ho1
  clear hw1 ht1 ho1
  go_wp2_with (at_builtin; refine wpList_append_src _ rfl (.tmp 19) (.tmp 20) 39 9 (by rfl) 5 i0 _ 1 1 Tryz.underlying39 hi hz0 hz1 hz2 rfl v1 (bs ++ le s.size 2).length (cellsOf (bs ++ le s.size 2)) (by rfl) HW.out.2 (.string s) s.size (cellsOf s.data.toList) (by rfl) (Src.ofString _ Tryz.underlying9 s) (by simp [maxLen, hll]; omega) (by simp [hll]; omega) ?_; intro A2 c2 w2 ho2 hg2 ha2; obtain ⟨hc2, hf2⟩ := HW.out.after (Turns.refl _ _) hg2)
  have e2 : (bs ++ le s.size 2).length + s.size = bs.length + 2 + s.size := by simp [hll]
  rw [e2] at ho2 ha2
  have R : Went w B v (bs ++ (le s.size 2 ++ s.data.toList)) (w2.setCell ⟨B, 0, none⟩ (.slice A2 (bs.length + 2 + s.size) c2)) := by
    have hp := Went.put HW.out (Turns.refl _ _) (by simp only [List.length_append, hll, bytes_length]) ho2 hg2 ha2
    rw [List.append_assoc] at hp
    exact Went.next HO.out HT.out hp
  go_ret
  exact ⟨rfl, R⟩

/-- New bytes, in memory of their own. -/
def Fresh (w : World) (l : List UInt8) (e : Ending) (w' : World) : Prop :=
  ∃ v', e = .returned v' ∧ w'.ownsRow 0 5 1 v' l.length (cellsOf l) ∧ (∀ k, v'.ownBlock = some k → w.heap.size ≤ k) ∧ Turns (fun _ => False) w w'

set_option maxRecDepth 100000 in
theorem clone_calls (u : Value) (l : List UInt8) (w : World) (hu : Rd w u l) (hroom : l.length ≤ 1099511627776) :
    Calls Tryz.prog 130 #[u] w (Fresh w l) := by
  obtain ⟨i0, hi, hz0, hz1, hz2⟩ := info_parts infoByte
  have HU := Lib.hid hu
  obtain ⟨A, c, rfl, hc⟩ := hu
  cases A with
  | none =>
    have hl : l = [] := by
      by_cases hl : l = []
      · exact hl
      · obtain ⟨ad, h, _⟩ := hc hl
        cases h
    subst hl
    clear hc HU
    have hnil := fun W => Lib.run_eql_slice_nil (P := Tryz.prog) W 39 5 none 0 c 0 0 Tryz.underlying39
    go_enter Tryz.func130, Tryz.ntmps130
    go_wp2
    go_ret
    exact ⟨_, rfl, World.ownsRow_nil _ _ _ _, by simp [Value.ownBlock], Turns.refl _ _⟩
  | some ad =>
    clear hc
    have hnil := fun W => Lib.run_eql_slice_nil (P := Tryz.prog) W 39 5 (some ad) l.length c 0 0 Tryz.underlying39
    have hmade : (w.alloc (.cells #[] 5)).ownsRow 0 5 1 (.slice (some ⟨w.heap.size, 0, none⟩) 0 0) 0 [] := World.ownsRow_made w #[] 0 (Nat.zero_le _) (Nat.zero_le _) rfl
    have HM := Lib.hid hmade
    clear hmade
    go_enter Tryz.func130, Tryz.ntmps130
    go_wp2_with (at_builtin; refine wpList_append_src _ rfl (.tmp 5) (.tmp 6) 39 39 (by rfl) 5 i0 _ 1 1 Tryz.underlying39 hi hz0 hz1 hz2 rfl (.slice (some ⟨w.heap.size, 0, none⟩) 0 0) 0 [] (by rfl) HM.out (.slice (some ad) l.length c) l.length (cellsOf l) (by rfl) ((HU.out.still ((Turns.refl _ _).alloc _)).src Tryz.underlying39) (by simp only [maxLen]; omega) (by omega) ?_; intro A2 c2 w2 ho2 hg2 ha2)
    rw [Nat.zero_add] at ho2 ha2
    go_ret
    refine ⟨_, by simp, ho2, ?_, ?_⟩
    · intro k hk
      rcases ha2 with h2 | h2
      · rw [h2] at hk
        simp [Value.ownBlock] at hk
        omega
      · rw [h2] at hk
        simp at hk
        omega
    · exact ((Turns.refl _ _).alloc _).grown hg2 (fun k hk hlt => by simp [Value.ownBlock] at hk; omega)
end Go.Proofs.YtclnkboejbnfnaaGreatDoor

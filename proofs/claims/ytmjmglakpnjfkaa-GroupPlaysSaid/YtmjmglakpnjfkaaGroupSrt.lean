/-
  Names sorted by name.Compare.
  Conditions: each theorem's own.
-/
import Derived.Test.YtmjmglakpnjfkaaGroupMath
import Derived.Test.YtmjmglakpnjfkaaShelf
import Derived.Test.YtmjmglakpnjfkaaShelfS
import Derived.Sort.OwnSorted
namespace Go.Proofs.Ytmjmglakpnjfkaa
open Go.RowKit Go.Maps Go.Sort Go.Shelf

theorem lt10 (x y : List UInt8) : ltOf Lib.compareBytes x y = bytesBefore x y := before_cmp x y
theorem swo10 : SWO (ltOf Lib.compareBytes) where
  irrefl x := by rw [lt10]; exact before_irrefl x
  trans x y z h1 h2 := by rw [lt10] at *; exact WideShapes.bytes_trans _ _ _ h1 h2
  ntrans x y z h1 h2 := by
    rw [lt10] at *
    cases h : bytesBefore x z
    · rfl
    · by_cases e : x = y
      · subst e; rw [h] at h2; cases h2
      · rcases WideAt.bytes_total x y e with h' | h'
        · rw [h'] at h1; cases h1
        · rw [WideShapes.bytes_trans _ _ _ h' h] at h2; cases h2
theorem tot10 (x y : List UInt8) (h1 : ltOf Lib.compareBytes x y = false) (h2 : ltOf Lib.compareBytes y x = false) : x = y := by
  rw [lt10] at *
  by_cases e : x = y
  · exact e
  · rcases WideAt.bytes_total x y e with h' | h'
    · rw [h'] at h1; cases h1
    · rw [h'] at h2; cases h2
set_option maxRecDepth 100000 in
theorem compare10_calls (a b : ByteArray) (w : World) :
    Calls Try.prog 46 #[.string a, .string b] w fun e w' => e = .returned (.int .i64 (Lib.compareBytes a.data.toList b.data.toList)) ∧ w' = w := by
  have HC := Lib.hid (Try.strings_Compare a b w)
  generalize Lib.compareBytes a.data.toList b.data.toList = r at *
  go_enter Try.func46, Try.ntmps46
  go_wp2_with fail
  with_reducible refine HC.out.mono ?_
  rintro e w1 ⟨rfl, rfl⟩
  go_wp2
  go_ret
  exact ⟨rfl, rfl⟩
theorem cmp10 (blk off size : Nat) (w : World) : CmpLays1 Try.prog 46 #[] encStr Lib.compareBytes blk off size w :=
  CmpReads.lays fun _ _ _ _ x y => (compare10_calls ⟨x.toArray⟩ ⟨y.toArray⟩ _).mono fun e w' ⟨he, hw⟩ => ⟨by rw [he], 0, hw⟩
/-- slices.SortFunc by name.Compare, of texts in any order, whose sorted row is known. -/
theorem sort10_calls (blk cap : Nat) (ss ls : List (List UInt8)) (W : World) (hr : RiseT ls) (hp : ss.Perm ls) (hH : Holds encStr W blk 0 ss.toArray) (hb : blk < W.heap.size) (hl : ss.length < 4611686018427387904) :
    Calls Try.prog 45 #[.slice (some ⟨blk, 0, none⟩) ss.length cap, .func (.func 46) #[] #[]] W fun e w' => e = .returned (.tuple #[]) ∧ ∃ n os, w' = grow (putRow encStr (Sort.ahead W n) blk 0 ls.toArray) os := by
  have := Try.slices_SortFunc_total encStr (fun _ => rfl) Lib.compareBytes swo10 46 #[] blk 0 cap ss.toArray W (enters_of Try.func46 (by kernel_rfl) rfl) (cmp10 blk 0 _ W) hH hb (by simpa using hl) tot10
  rw [← sort_rise hr hp (fun x y => !(ltOf Lib.compareBytes) y x) (fun x y => by rw [lt10])]
  simpa [sortWorld] using this
theorem sort10_none (cap : Nat) (W : World) : Calls Try.prog 45 #[.slice none 0 cap, .func (.func 46) #[] #[]] W fun e w' => e = .returned (.tuple #[]) ∧ w' = W :=
  Try.slices_SortFunc_none (α := List UInt8) none cap _ W

end Go.Proofs.Ytmjmglakpnjfkaa

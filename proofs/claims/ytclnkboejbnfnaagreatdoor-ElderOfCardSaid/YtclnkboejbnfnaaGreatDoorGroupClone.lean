/-
  Texts cloned.
  Conditions: texts of at most 1000 bytes.
-/
import Derived.Test.YtclnkboejbnfnaaGreatDoorNames
import Derived.Test.YtclnkboejbnfnaaGreatDoorShelf
namespace Go.Proofs.YtclnkboejbnfnaaGreatDoor
open Go.RowKit Go.Maps

set_option maxRecDepth 100000 in
/-- strings.Clone: the same bytes. -/
theorem sclone10_calls (s : ByteArray) (w : World) (hl : s.size ≤ 1000) : Calls Tryz.prog 121 #[.string s] w fun e w' => e = .returned (.string s) ∧ Below w.heap.size w w' := by
  have HC := Lib.hid (Tryz.stringslite_Clone s w (Nat.le_trans hl (by decide)))
  go_enter Tryz.func121, Tryz.ntmps121
  go_wp2_with fail
  with_reducible refine HC.out.mono ?_
  rintro e w1 ⟨rfl, hb⟩
  have HB := Lib.hid hb
  clear hb
  go_wp2
  go_ret
  exact ⟨rfl, HB.out⟩
end Go.Proofs.YtclnkboejbnfnaaGreatDoor

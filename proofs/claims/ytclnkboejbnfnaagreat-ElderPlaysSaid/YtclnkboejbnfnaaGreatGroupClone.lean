/-
  Texts cloned.
  Conditions: texts of at most 1000 bytes.
-/
import Derived.Test.YtclnkboejbnfnaaGreatNames
import Derived.Test.YtclnkboejbnfnaaGreatShelf
namespace Go.Proofs.YtclnkboejbnfnaaGreat
open Go.RowKit Go.Maps

set_option maxRecDepth 100000 in
/-- strings.Clone: the same bytes. -/
theorem sclone10_calls (s : ByteArray) (w : World) (hl : s.size ≤ 1000) : Calls Tryz.prog 44 #[.string s] w fun e w' => e = .returned (.string s) ∧ Below w.heap.size w w' := by
  have HC := Lib.hid (Tryz.stringslite_Clone s w (Nat.le_trans hl (by decide)))
  go_enter Tryz.func44, Tryz.ntmps44
  go_wp2_with fail
  with_reducible refine HC.out.mono ?_
  rintro e w1 ⟨rfl, hb⟩
  have HB := Lib.hid hb
  clear hb
  go_wp2
  go_ret
  exact ⟨rfl, HB.out⟩
end Go.Proofs.YtclnkboejbnfnaaGreat

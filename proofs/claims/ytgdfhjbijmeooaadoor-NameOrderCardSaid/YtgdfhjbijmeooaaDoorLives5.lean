/-
  The chapter's examples hold.
  Conditions: the library's own variable MaxLen holds some number.
-/
import Derived.Test.YtgdfhjbijmeooaaDoorMail
namespace Go.Proofs.YtgdfhjbijmeooaaDoor
open Go.RowKit

theorem err5_t (n : Int) : err5 true n = 0 := rfl
theorem err5_f (n : Int) : err5 false n = n := rfl

set_option maxRecDepth 100000 in
theorem lives5_calls (w : World) (hm : Len5 w) : Calls Tryd.prog 7 #[] w (Tells5 true w) := by
  have hc := mail_calls ⟨#[65, 110, 110, 46, 66, 64, 88, 46, 111, 114, 103]⟩ w (by decide) hm
  have h1 : mail5 (ByteArray.mk #[65, 110, 110, 46, 66, 64, 88, 46, 111, 114, 103]).data.toList = true := by decide +kernel
  have h2 : mailT (ByteArray.mk #[65, 110, 110, 46, 66, 64, 88, 46, 111, 114, 103]).data.toList = ⟨#[97, 110, 110, 46, 98, 64, 120, 46, 111, 114, 103]⟩ := by
    unfold mailT; rw [h1]; rfl
  rw [h1, h2] at hc
  have HC := Lib.hid hc
  clear hc h1 h2
  have HN : Hid (∀ w, Calls Tryd.prog 8 #[.string ⟨#[97, 45]⟩] w (Errs5 10 w)) := fun w => by
    have h := Name_calls ⟨#[97, 45]⟩ w (by decide)
    have h1 : name5 (ByteArray.mk #[97, 45]).data.toList = false := by decide +kernel
    rw [h1] at h
    exact h
  go_enter Tryd.func7, Tryd.ntmps7
  go_wp2_with fail
  with_reducible refine HC.out.mono ?_
  rintro e w1 ⟨rfl, hb⟩
  simp only [err5_t]
  have HB := Lib.hid hb
  have HN1 := Lib.hid (HN.out w1)
  clear hb HC HN
  go_wp2_with fail
  with_reducible refine HN1.out.mono ?_
  rintro e w2 ⟨rfl, hb⟩
  have HB2 := Lib.hid (below_next HB.out hb)
  clear hb
  go_wp2
  go_ret
  exact ⟨rfl, HB2.out⟩
end Go.Proofs.YtgdfhjbijmeooaaDoor

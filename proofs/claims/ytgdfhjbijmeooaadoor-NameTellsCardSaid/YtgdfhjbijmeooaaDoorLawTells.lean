/-
  NameTells walked: whether a text is a name, a prefix or a sum is told as the document says.
  Conditions: the text is no longer than a text may be; the library's own variable MaxLen holds some number.
-/
import Derived.Test.YtgdfhjbijmeooaaDoorLives5
import Derived.Test.YtgdfhjbijmeooaaDoorRef5
namespace Go.Proofs.YtgdfhjbijmeooaaDoor
open Go.RowKit

set_option maxRecDepth 100000 in
theorem tells_walk (s : ByteArray) (w : World) (hs : s.size ≤ 9223372036854775807) (hm : Len5 w) :
    Calls Tryd.prog 3 #[.string s] w (Tells5 true w) := by
  have HM := Lib.hid hm
  clear hm
  have hnot : ∀ (x : Bool) (w : World), (Op.unary .not (.bool x)).run Tryd.prog w = .ok (.bool (!x)) w := fun _ _ => rfl
  have HV := Lib.hid (lives5_calls w HM.out)
  by_cases h100 : s.size ≤ 100
  · have HN : Hid (∀ w, Calls Tryd.prog 8 #[.string s] w (Errs5 (err5 (name5 s.data.toList) 10) w)) := fun w => Name_calls s w hs
    have HP : Hid (∀ w, Calls Tryd.prog 9 #[.string s] w (Errs5 (err5 (pref5 s.data.toList) 10) w)) := fun w => Prefix_calls s w hs
    have HH : Hid (∀ w, Calls Tryd.prog 10 #[.string s] w (Errs5 (err5 (hash5 s.data.toList) 4) w)) := fun w => Hash_calls s w hs
    have RN : Hid (∀ w, Calls Tryd.prog 11 #[.string s] w (Still5 (name5 s.data.toList) w)) := fun w => rname_calls s w (by omega)
    have RP : Hid (∀ w, Calls Tryd.prog 12 #[.string s] w (Still5 (pref5 s.data.toList) w)) := fun w => rprefix_calls s w (by omega)
    have RH : Hid (∀ w, Calls Tryd.prog 13 #[.string s] w (Still5 (hash5 s.data.toList) w)) := fun w => rhash_calls s w (by omega)
    generalize name5 s.data.toList = bn at *
    generalize pref5 s.data.toList = bp at *
    generalize hash5 s.data.toList = bh at *
    generalize hn : s.size = n at *
    have z : ¬ (n : Int) > 100 := by omega
    have z' : ¬ 100 < n := by omega
    cases bn <;> cases bp <;> cases bh
    all_goals
      simp only [err5_t, err5_f] at HN HP HH
      go_enter Tryd.func3, Tryd.ntmps3
      go_wp2_with fail
      with_reducible refine HV.out.mono ?_
      rintro e w1 ⟨rfl, hb⟩
      have HB1 := Lib.hid hb
      have HN1 := Lib.hid (HN.out w1)
      clear hb HV HN
      go_wp2_with fail
      with_reducible refine HN1.out.mono ?_
      rintro e w2 ⟨rfl, hb⟩
      have HB2 := Lib.hid (below_next HB1.out hb)
      have HP2 := Lib.hid (HP.out w2)
      clear hb HN1 HP HB1
      go_wp2_with fail
      with_reducible refine HP2.out.mono ?_
      rintro e w3 ⟨rfl, hb⟩
      have HB3 := Lib.hid (below_next HB2.out hb)
      have HH3 := Lib.hid (HH.out w3)
      clear hb HP2 HH HB2
      go_wp2_with fail
      with_reducible refine HH3.out.mono ?_
      rintro e w4 ⟨rfl, hb⟩
      have HB4 := Lib.hid (below_next HB3.out hb)
      have RN4 := Lib.hid (RN.out w4)
      have RP4 := Lib.hid (RP.out w4)
      have RH4 := Lib.hid (RH.out w4)
      clear hb HH3 HB3 RN RP RH
      go_wp2_with fail
      with_reducible refine RN4.out.mono ?_
      rintro e w5 ⟨rfl, rfl⟩
      go_wp2_with fail
      with_reducible refine RP4.out.mono ?_
      rintro e w5 ⟨rfl, rfl⟩
      go_wp2_with fail
      with_reducible refine RH4.out.mono ?_
      rintro e w5 ⟨rfl, rfl⟩
      go_wp2
      go_ret
      exact ⟨rfl, HB4.out⟩
  · generalize hn : s.size = n at *
    have z : (n : Int) > 100 := by omega
    have z' : 100 < n := by omega
    go_enter Tryd.func3, Tryd.ntmps3
    go_wp2_with fail
    with_reducible refine HV.out.mono ?_
    rintro e w1 ⟨rfl, hb⟩
    have HB1 := Lib.hid hb
    have HV1 := Lib.hid (lives5_calls w1 (HM.out.later hb))
    clear hb HV
    go_wp2_with fail
    with_reducible refine HV1.out.mono ?_
    rintro e w2 ⟨rfl, hb⟩
    have HB2 := Lib.hid (below_next HB1.out hb)
    clear hb
    go_wp2
    go_ret
    exact ⟨rfl, HB2.out⟩
end Go.Proofs.YtgdfhjbijmeooaaDoor

/-
  NameMails walked: which texts are addresses, how texts are folded, and that what is folded stays.
  Conditions: the text is no longer than a text may be; the library's own variable MaxLen holds some number.
-/
import Derived.Test.YtgdfhjbijmeooaaDoorLives5
import Derived.Test.YtgdfhjbijmeooaaDoorRefMail5
namespace Go.Proofs.YtgdfhjbijmeooaaDoor
open Go.RowKit

theorem foldC_again (x : UInt8) : foldC (foldC x) = foldC x := by
  cases h : inR 65 90 x with
  | false => rw [foldC_miss h, foldC_miss h]
  | true =>
    obtain ⟨e, h1, h2⟩ := foldC_hit h
    refine foldC_miss ?_
    unfold inR
    have : ¬ (foldC x).toNat ≤ 90 := by omega
    rw [decide_eq_false this, Bool.and_false]
theorem fold5_again (l : List UInt8) : fold5 (fold5 l) = fold5 l := by
  unfold fold5
  rw [List.map_map]
  exact List.map_congr_left fun x _ => foldC_again x
theorem mail5_again (l : List UInt8) : mail5 (fold5 l) = mail5 l := by
  unfold mail5 cut5
  rw [fold5_again, fold5_length]
theorem mailT_again (l : List UInt8) (h : mail5 l = true) : mailT (fold5 l) = ⟨(fold5 l).toArray⟩ := by
  unfold mailT
  rw [mail5_again, h, fold5_again]; rfl

set_option maxRecDepth 100000 in
theorem mails_walk (s : ByteArray) (w : World) (hs : s.size ≤ 9223372036854775807) (hm : Len5 w) :
    Calls Tryd.prog 4 #[.string s] w (Tells5 true w) := by
  have HM := Lib.hid hm
  clear hm
  have hnot : ∀ (x : Bool) (w : World), (Op.unary .not (.bool x)).run Tryd.prog w = .ok (.bool (!x)) w := fun _ _ => rfl
  have HV := Lib.hid (lives5_calls w HM.out)
  by_cases h100 : s.size ≤ 100
  · have hfl : (fold5 s.data.toList).length = s.size := by rw [fold5_length, size_list]
    have hfz : (ByteArray.mk (fold5 s.data.toList).toArray).size = s.size := by show (fold5 s.data.toList).toArray.size = _; rw [List.size_toArray, hfl]
    have hfd : (ByteArray.mk (fold5 s.data.toList).toArray).data.toList = fold5 s.data.toList := by simp
    have HC : Hid (∀ w, Len5 w → Calls Tryd.prog 14 #[.string s] w (Mails5 (mail5 s.data.toList) (mailT s.data.toList) w)) := fun w h => mail_calls s w hs h
    have HR : Hid (∀ w, Calls Tryd.prog 15 #[.string s] w (RMails5 (mail5 s.data.toList) (mailT s.data.toList) w)) := fun w => rmail_calls s w (by omega)
    have HF : Hid (∀ w, Calls Tryd.prog 16 #[.string s] w fun e w' => e = .returned (.string ⟨(fold5 s.data.toList).toArray⟩) ∧ Below w.heap.size w w') := fun w => fold_calls s w hs
    have HRF : Hid (∀ w, Calls Tryd.prog 17 #[.string s] w fun e w' => e = .returned (.string ⟨(fold5 s.data.toList).toArray⟩) ∧ ∃ q, w' = w.drewN q) := fun w => rfold_calls s w (by omega)
    have HFF : Hid (∀ w, Calls Tryd.prog 16 #[.string ⟨(fold5 s.data.toList).toArray⟩] w fun e w' => e = .returned (.string ⟨(fold5 s.data.toList).toArray⟩) ∧ Below w.heap.size w w') := fun w => by
      have h := fold_calls ⟨(fold5 s.data.toList).toArray⟩ w (by rw [hfz]; exact hs)
      rw [hfd, fold5_again] at h
      exact h
    have HCC : Hid (mail5 s.data.toList = true → ∀ w, Len5 w → Calls Tryd.prog 14 #[.string ⟨(fold5 s.data.toList).toArray⟩] w (Mails5 true ⟨(fold5 s.data.toList).toArray⟩ w)) := fun hq w h => by
      have h := mail_calls ⟨(fold5 s.data.toList).toArray⟩ w (by rw [hfz]; exact hs) h
      rw [hfd, mail5_again, hq, mailT_again _ hq] at h
      exact h
    have HT : Hid (mail5 s.data.toList = true → mailT s.data.toList = ⟨(fold5 s.data.toList).toArray⟩) := fun hq => by unfold mailT; rw [hq]; rfl
    clear hfd
    generalize (⟨(fold5 s.data.toList).toArray⟩ : ByteArray) = f at *
    generalize hmt : mailT s.data.toList = t at *
    clear hmt hfl
    generalize hmb : mail5 s.data.toList = b at *
    clear hmb
    generalize hn : s.size = n at *
    have z : ¬ (n : Int) > 100 := by omega
    have z' : ¬ 100 < n := by omega
    go_enter Tryd.func4, Tryd.ntmps4
    go_wp2_with fail
    with_reducible refine HV.out.mono ?_
    rintro e w1 ⟨rfl, hb⟩
    have HB1 := Lib.hid hb
    have HM1 := Lib.hid (HM.out.later hb)
    have HC1 := Lib.hid (HC.out w1 HM1.out)
    clear hb HV HC
    go_wp2_with fail
    with_reducible refine HC1.out.mono ?_
    rintro e w2 ⟨rfl, hb⟩
    have HB2 := Lib.hid (below_next HB1.out hb)
    have HM2 := Lib.hid (HM1.out.later hb)
    have HR2 := Lib.hid (HR.out w2)
    clear hb HC1 HR HB1 HM1
    go_wp2_with fail
    with_reducible refine HR2.out.mono ?_
    rintro e w3 ⟨rfl, q, rfl⟩
    have HB3 := Lib.hid (below_drewN HB2.out q)
    have HM3 := Lib.hid (HM2.out.later (below_drewN (Below.refl w2.heap.size w2) q))
    generalize w2.drewN q = w3 at *
    have HF3 := Lib.hid (HF.out w3)
    clear HR2 HB2 HM2
    cases b with
    | false =>
      rw [err5_f]
      clear HCC HT
      go_wp2_with fail
      with_reducible refine HF3.out.mono ?_
      rintro e w4 ⟨rfl, hb⟩
      have HB4 := Lib.hid (below_next HB3.out hb)
      have HRF4 := Lib.hid (HRF.out w4)
      clear hb HF3
      go_wp2_with fail
      with_reducible refine HRF4.out.mono ?_
      rintro e w5 ⟨rfl, q5, rfl⟩
      have HB5 := Lib.hid (below_drewN HB4.out q5)
      generalize w4.drewN q5 = w5 at *
      have HF5 := Lib.hid (HF.out w5)
      clear HRF4 HB4
      go_wp2_with fail
      with_reducible refine HF5.out.mono ?_
      rintro e w6 ⟨rfl, hb⟩
      have HB6 := Lib.hid (below_next HB5.out hb)
      have HFF6 := Lib.hid (HFF.out w6)
      clear hb HF5
      go_wp2_with fail
      with_reducible refine HFF6.out.mono ?_
      rintro e w7 ⟨rfl, hb⟩
      have HB7 := Lib.hid (below_next HB6.out hb)
      have HF7 := Lib.hid (HF.out w7)
      clear hb HFF6
      go_wp2_with fail
      with_reducible refine HF7.out.mono ?_
      rintro e w8 ⟨rfl, hb⟩
      have HB8 := Lib.hid (below_next HB7.out hb)
      clear hb HF7
      go_wp2
      go_ret
      exact ⟨rfl, HB8.out⟩
    | true =>
      rw [err5_t]
      obtain rfl := HT.out rfl
      have HCD := Lib.hid (HCC.out rfl)
      clear HCC HT
      go_wp2_with fail
      with_reducible refine HF3.out.mono ?_
      rintro e w4 ⟨rfl, hb⟩
      have HB4 := Lib.hid (below_next HB3.out hb)
      have HM4 := Lib.hid (HM3.out.later hb)
      have HRF4 := Lib.hid (HRF.out w4)
      clear hb HF3
      go_wp2_with fail
      with_reducible refine HRF4.out.mono ?_
      rintro e w5 ⟨rfl, q5, rfl⟩
      have HB5 := Lib.hid (below_drewN HB4.out q5)
      have HM5 := Lib.hid (HM4.out.later (below_drewN (Below.refl w4.heap.size w4) q5))
      generalize w4.drewN q5 = w5 at *
      have HF5 := Lib.hid (HF.out w5)
      clear HRF4 HB4
      go_wp2_with fail
      with_reducible refine HF5.out.mono ?_
      rintro e w6 ⟨rfl, hb⟩
      have HB6 := Lib.hid (below_next HB5.out hb)
      have HM6 := Lib.hid (HM5.out.later hb)
      have HFF6 := Lib.hid (HFF.out w6)
      clear hb HF5
      go_wp2_with fail
      with_reducible refine HFF6.out.mono ?_
      rintro e w7 ⟨rfl, hb⟩
      have HB7 := Lib.hid (below_next HB6.out hb)
      have HM7 := Lib.hid (HM6.out.later hb)
      have HF7 := Lib.hid (HF.out w7)
      clear hb HFF6
      go_wp2_with fail
      with_reducible refine HF7.out.mono ?_
      rintro e w8 ⟨rfl, hb⟩
      have HB8 := Lib.hid (below_next HB7.out hb)
      have HC8 := Lib.hid (HCD.out w8 (HM7.out.later hb))
      clear hb HF7
      go_wp2_with fail
      with_reducible refine HC8.out.mono ?_
      rintro e w9 ⟨he, hb⟩
      rw [err5_t] at he
      subst he
      have HB9 := Lib.hid (below_next HB8.out hb)
      clear hb HC8
      go_wp2
      go_ret
      exact ⟨rfl, HB9.out⟩
  · generalize hn : s.size = n at *
    have z : (n : Int) > 100 := by omega
    have z' : 100 < n := by omega
    go_enter Tryd.func4, Tryd.ntmps4
    go_wp2_with fail
    with_reducible refine HV.out.mono ?_
    rintro e w1 ⟨rfl, hb⟩
    have HB1 := Lib.hid hb
    have HV1 := Lib.hid (lives5_calls w1 (HM.out.later hb))
    clear hb HV
    go_wp2_with fail
    with_reducible refine HV1.out.mono ?_
    rintro e w2 ⟨rfl, hb⟩
    have HB2 := Lib.hid (below_next HB1.out hb)
    clear hb
    go_wp2
    go_ret
    exact ⟨rfl, HB2.out⟩
end Go.Proofs.YtgdfhjbijmeooaaDoor

/-
  NameParts walked: each beginning of a name is a prefix; a name that is cut behind a letter or a digit is one.
  Conditions: the text is no longer than a text may be; the library's own variable MaxLen holds some number.
-/
import Derived.Test.YtgdfhjbijmeooaaDoorLives5
import Derived.Test.YtgdfhjbijmeooaaDoorRefMail5
namespace Go.Proofs.YtgdfhjbijmeooaaDoor
open Go.RowKit

theorem pref5_take (l : List UInt8) (h : pref5 l = true) (i : Nat) : pref5 (l.take i) = true := by
  unfold pref5 at *
  simp only [Bool.and_eq_true, decide_eq_true_eq, List.all_eq_true] at *
  refine ⟨?_, fun x hx => h.2 x (List.mem_of_mem_take hx)⟩
  rw [List.length_take]
  have := h.1
  omega

theorem sign5_both (x : UInt8) (h : sign5 x = true) (h1 : ¬ x = 45) (h2 : ¬ x = 46) : both5 x = true := by
  have e1 : inR 45 45 x = false := by
    unfold inR
    rw [Bool.and_eq_false_iff, decide_eq_false_iff_not, decide_eq_false_iff_not]
    by_cases h3 : 45 ≤ x.toNat
    · right
      intro h4
      exact h1 (UInt8.toNat_inj.1 (by have : (45 : UInt8).toNat = 45 := rfl; omega))
    · left; exact h3
  have e2 : inR 46 46 x = false := by
    unfold inR
    rw [Bool.and_eq_false_iff, decide_eq_false_iff_not, decide_eq_false_iff_not]
    by_cases h3 : 46 ≤ x.toNat
    · right
      intro h4
      exact h2 (UInt8.toNat_inj.1 (by have : (46 : UInt8).toNat = 46 := rfl; omega))
    · left; exact h3
  unfold sign5 at h
  rw [e1, e2] at h
  simpa using h

theorem name5_take (l : List UInt8) (h : name5 l = true) (i : Nat) (h0 : 0 < i) (hi : i ≤ l.length) (h1 : ¬ l[i - 1]'(by omega) = 45) (h2 : ¬ l[i - 1]'(by omega) = 46) : name5 (l.take i) = true := by
  have hh := h
  unfold name5 at h ⊢
  simp only [Bool.and_eq_true, decide_eq_true_eq] at h ⊢
  obtain ⟨⟨⟨a, b⟩, c⟩, d⟩ := h
  refine ⟨⟨⟨by rw [List.length_take]; omega, pref5_take l b i⟩, ?_⟩, ?_⟩
  · cases l with
    | nil => simp at a
    | cons x l =>
      cases i with
      | zero => omega
      | succ i => exact c
  · have hs : sign5 (l[i - 1]'(by omega)) = true := by
      unfold pref5 at b
      simp only [Bool.and_eq_true, List.all_eq_true] at b
      exact b.2 _ (List.getElem_mem _)
    have hlast : (l.take i).getLastD 0 = l[i - 1]'(by omega) := by
      have hne : l.take i ≠ [] := by
        intro e
        have : (l.take i).length = 0 := by rw [e]; rfl
        rw [List.length_take] at this
        omega
      rw [List.getLastD_eq_getLast?, List.getLast?_eq_some_getLast hne, List.getLast_eq_getElem]
      simp only [Option.getD_some, List.getElem_take, List.length_take]
      congr 1
      omega
    rw [hlast]
    exact sign5_both _ hs h1 h2

set_option maxRecDepth 100000 in
theorem parts5_walk (s : ByteArray) (w : World) (hs : s.size ≤ 9223372036854775807) (hm : Len5 w) :
    Calls Tryd.prog 5 #[.string s] w (Tells5 true w) := by
  have HM := Lib.hid hm
  clear hm
  have hnot : ∀ (x : Bool) (w : World), (Op.unary .not (.bool x)).run Tryd.prog w = .ok (.bool (!x)) w := fun _ _ => rfl
  have HV := Lib.hid (lives5_calls w HM.out)
  by_cases h100 : s.size ≤ 100
  · have HN : Hid (∀ w, Calls Tryd.prog 8 #[.string s] w (Errs5 (err5 (name5 s.data.toList) 10) w)) := fun w => Name_calls s w hs
    have HEX : Hid (∀ i, (s.extract 0 i).data.toList = s.data.toList.take i) := fun i => Lib.extract_from_zero s i
    have HES : Hid (∀ i, (s.extract 0 i).size ≤ 9223372036854775807) := fun i => by rw [← size_list, HEX.out i, List.length_take, size_list]; omega
    have HPP : Hid (name5 s.data.toList = true → ∀ i w, Calls Tryd.prog 9 #[.string (s.extract 0 i)] w (Errs5 0 w)) := fun hq i w => by
      have h := Prefix_calls (s.extract 0 i) w (HES.out i)
      have hp : pref5 s.data.toList = true := by
        unfold name5 at hq
        simp only [Bool.and_eq_true] at hq
        exact hq.1.1.2
      rw [HEX.out i, pref5_take _ hp i, err5_t] at h
      exact h
    have HNN : Hid (name5 s.data.toList = true → ∀ i (h0 : 0 < i) (hi : i ≤ s.size) w, ¬ bt5 s (i - 1) = 45 → ¬ bt5 s (i - 1) = 46 → Calls Tryd.prog 8 #[.string (s.extract 0 i)] w (Errs5 0 w)) := fun hq i h0 hi w h1 h2 => by
      have h := Name_calls (s.extract 0 i) w (HES.out i)
      have hb := bt5_eq s (i - 1) (by omega)
      have hl : s.data.toList.length = s.size := size_list s
      have hg : s.data.toList[i - 1]'(by omega) = s[i - 1]'(by omega) := rfl
      have hn := name5_take s.data.toList hq i h0 (by omega) (by rw [hg]; intro e; rw [e] at hb; exact h1 hb.symm) (by rw [hg]; intro e; rw [e] at hb; exact h2 hb.symm)
      rw [HEX.out i, hn, err5_t] at h
      exact h
    have HCT : Hid (∀ i, i ≤ s.size → ∀ W, (Instr.slice 9 (.string s) none (some (.int .i64 i)) none).run Tryd.prog W = .ok (.string (s.extract 0 i)) W) := fun i h => cut_to s i h
    cases hq : name5 s.data.toList with
    | false =>
      rw [hq] at HN
      simp only [err5_f] at HN
      clear HPP HNN hq HEX HES HCT
      generalize hn : s.size = n at *
      have z : ¬ (n : Int) > 100 := by omega
      have z' : ¬ 100 < n := by omega
      go_enter Tryd.func5, Tryd.ntmps5
      go_wp2_with fail
      with_reducible refine HV.out.mono ?_
      rintro e w1 ⟨rfl, hb⟩
      have HB1 := Lib.hid hb
      have HN1 := Lib.hid (HN.out w1)
      clear hb HV HN
      go_wp2_with fail
      with_reducible refine HN1.out.mono ?_
      rintro e w2 ⟨rfl, hb⟩
      have HB2 := Lib.hid (below_next HB1.out hb)
      clear hb HN1
      go_wp2
      go_ret
      exact ⟨rfl, HB2.out⟩
    | true =>
      rw [hq] at HN
      simp only [err5_t] at HN
      have HP := Lib.hid (HPP.out hq)
      have HNQ := Lib.hid (HNN.out hq)
      clear HPP HNN hq HEX HES
      generalize hn : s.size = n at *
      have HZ := Lib.hid hn
      clear hn
      have z : ¬ (n : Int) > 100 := by omega
      have z' : ¬ 100 < n := by omega
      go_enter Tryd.func5, Tryd.ntmps5
      have hsz := HZ.out
      go_wp2_with fail
      with_reducible refine HV.out.mono ?_
      rintro e w1 ⟨rfl, hb⟩
      have HB1 := Lib.hid hb
      have HN1 := Lib.hid (HN.out w1)
      clear hb HV HN
      go_wp2_with fail
      with_reducible refine HN1.out.mono ?_
      rintro e w2 ⟨rfl, hb⟩
      have HB2 := Lib.hid (below_next HB1.out hb)
      clear hb HN1 HB1
      go_wp2
      go_loopg [3, 18] (n + 1) (fun gg _ s18 wr => ∃ i : Nat, i ≤ n + 1 ∧ n + 1 - i ≤ gg ∧ s18 = .int .i64 i ∧ Hid (Below w.heap.size w wr))
      case atStart => exact ⟨0, Nat.zero_le _, by omega, rfl, HB2⟩
      case round =>
        obtain ⟨i, hi, hg, rfl, HW⟩ := hrel
        by_cases hlt : i < n + 1
        · have hltz : (i : Int) < (n : Int) + 1 := by omega
          have hct := HCT.out i (by omega)
          have HP1 := Lib.hid (HP.out i wr)
          by_cases h0 : 0 < i
          · have h0z : (i : Int) > 0 := by omega
            have h0z' : 0 < (i : Int) := by omega
            have hi1 : i - 1 < s.size := by omega
            have zi : (i : Int) - 1 = ((i - 1 : Nat) : Int) := by omega
            have hx : ∀ (h : i - 1 < s.size), ((s[i - 1]'h).toNat : Int) = bt5 s (i - 1) := fun h => bt5_eq s _ h
            have HN2 : Hid (∀ w, ¬ bt5 s (i - 1) = 45 → ¬ bt5 s (i - 1) = 46 → Calls Tryd.prog 8 #[.string (s.extract 0 i)] w (Errs5 0 w)) := fun w => HNQ.out i h0 (by omega) w
            generalize bt5 s (i - 1) = x at *
            generalize s.extract 0 i = si at *
            by_cases h45 : x = 45
            · go_wp2_with (go_at_call 9; (with_reducible refine HP1.out.mono ?_); rintro e w3 ⟨rfl, hb⟩; have HB3 := Lib.hid (below_next HW.out hb); clear hb)
              go_roundg (n + 1 - (i + 1))
              case measure => omega
              case rel => exact ⟨i + 1, by omega, by omega, by go_num, HB3⟩
            · by_cases h46 : x = 46
              · go_wp2_with (go_at_call 9; (with_reducible refine HP1.out.mono ?_); rintro e w3 ⟨rfl, hb⟩; have HB3 := Lib.hid (below_next HW.out hb); clear hb)
                go_roundg (n + 1 - (i + 1))
                case measure => omega
                case rel => exact ⟨i + 1, by omega, by omega, by go_num, HB3⟩
              · have HN3 : Hid (∀ w, Calls Tryd.prog 8 #[.string si] w (Errs5 0 w)) := fun w => HN2.out w h45 h46
                clear HN2 HNQ HP
                go_wp2_with fail
                with_reducible refine HP1.out.mono ?_
                rintro e w3 ⟨rfl, hb⟩
                have HB3 := Lib.hid (below_next HW.out hb)
                have HN4 := Lib.hid (HN3.out w3)
                clear hb HP1 HN3
                go_wp2_with (go_at_call 8; (with_reducible refine HN4.out.mono ?_); rintro e w4 ⟨rfl, hb⟩; have HB4 := Lib.hid (below_next HB3.out hb); clear hb)
                go_roundg (n + 1 - (i + 1))
                case measure => omega
                case rel => exact ⟨i + 1, by omega, by omega, by go_num, HB4⟩
          · have h0z : ¬ (i : Int) > 0 := by omega
            have h0z' : ¬ 0 < (i : Int) := by omega
            clear HNQ HP
            generalize s.extract 0 i = si at *
            go_wp2_with (go_at_call 9; (with_reducible refine HP1.out.mono ?_); rintro e w3 ⟨rfl, hb⟩; have HB3 := Lib.hid (below_next HW.out hb); clear hb)
            go_roundg (n + 1 - (i + 1))
            case measure => omega
            case rel => exact ⟨i + 1, by omega, by omega, by go_num, HB3⟩
        · have hltz : ¬ (i : Int) < (n : Int) + 1 := by omega
          go_wp2
          go_ret
          exact ⟨rfl, HW.out⟩
  · generalize hn : s.size = n at *
    have z : (n : Int) > 100 := by omega
    have z' : 100 < n := by omega
    go_enter Tryd.func5, Tryd.ntmps5
    go_wp2_with fail
    with_reducible refine HV.out.mono ?_
    rintro e w1 ⟨rfl, hb⟩
    have HB1 := Lib.hid hb
    have HV1 := Lib.hid (lives5_calls w1 (HM.out.later hb))
    clear hb HV
    go_wp2_with fail
    with_reducible refine HV1.out.mono ?_
    rintro e w2 ⟨rfl, hb⟩
    have HB2 := Lib.hid (below_next HB1.out hb)
    clear hb
    go_wp2
    go_ret
    exact ⟨rfl, HB2.out⟩
end Go.Proofs.YtgdfhjbijmeooaaDoor

/-
  NameOrder walked: texts stand in an order, byte by byte.
  Conditions: the texts are no longer than a text may be; the library's own variable MaxLen holds some number.
-/
import Derived.Test.YtgdfhjbijmeooaaDoorLives5
import Derived.BigQuiet
namespace Go.Proofs.YtgdfhjbijmeooaaDoor
open Go.RowKit

theorem cmp_step (A B : List UInt8) (i : Nat) (ha : i < A.length) (hb : i < B.length) :
    Lib.compareBytes (A.drop i) (B.drop i) = if A[i] < B[i] then -1 else if B[i] < A[i] then 1 else Lib.compareBytes (A.drop (i + 1)) (B.drop (i + 1)) := by
  rw [List.drop_eq_getElem_cons ha, List.drop_eq_getElem_cons hb, Lib.compareBytes]
theorem cmp_end (A B : List UInt8) (i : Nat) (ha : i ≤ A.length) (hb : i ≤ B.length) (h : i = A.length ∨ i = B.length) :
    (A.length < B.length → Lib.compareBytes (A.drop i) (B.drop i) = -1) ∧ (B.length < A.length → Lib.compareBytes (A.drop i) (B.drop i) = 1) ∧ (A.length = B.length → Lib.compareBytes (A.drop i) (B.drop i) = 0) := by
  have n1 : i = A.length → A.drop i = [] := fun e => List.drop_eq_nil_of_le (by omega)
  have n2 : i = B.length → B.drop i = [] := fun e => List.drop_eq_nil_of_le (by omega)
  refine ⟨fun hl => ?_, fun hl => ?_, fun hl => ?_⟩
  · have hi : i = A.length := by omega
    rw [n1 hi, List.drop_eq_getElem_cons (by omega : i < B.length)]; rfl
  · have hi : i = B.length := by omega
    rw [n2 hi, List.drop_eq_getElem_cons (by omega : i < A.length)]; rfl
  · rw [n1 (by omega), n2 (by omega)]; rfl

set_option maxRecDepth 100000 in
theorem order_few (a b c : ByteArray) (na nb nc : Nat) (w : World) (h1 : a.size = na) (h2 : b.size = nb) (h3 : c.size = nc) (hna : na ≤ 9223372036854775807) (hnb : nb ≤ 9223372036854775807) (hnc : nc ≤ 9223372036854775807) (h : 100 < na ∨ 100 < nb ∨ 100 < nc) (hm : Len5 w) :
    Calls Tryd.prog 6 #[.string a, .string b, .string c] w (Tells5 true w) := by
  have HM := Lib.hid hm
  clear hm
  have hnot : ∀ (x : Bool) (w : World), (Op.unary .not (.bool x)).run Tryd.prog w = .ok (.bool (!x)) w := fun _ _ => rfl
  have HV := Lib.hid (lives5_calls w HM.out)
  have HV1 : Hid (∀ w1, Below w.heap.size w w1 → Calls Tryd.prog 7 #[] w1 (Tells5 true w1)) := fun w1 hb => lives5_calls w1 (HM.out.later hb)
  by_cases k1 : 100 < na
  · have z1 : (na : Int) > 100 := by omega
    have z1' : 100 < (na : Int) := by omega
    clear h
    go_enter Tryd.func6, Tryd.ntmps6
    go_wp2_with fail
    with_reducible refine HV.out.mono ?_
    rintro e w1 ⟨rfl, hb⟩
    have HB1 := Lib.hid hb
    have HV2 := Lib.hid (HV1.out w1 hb)
    clear hb HV HV1
    go_wp2_with fail
    with_reducible refine HV2.out.mono ?_
    rintro e w2 ⟨rfl, hb⟩
    have HB2 := Lib.hid (below_next HB1.out hb)
    clear hb
    go_wp2
    go_ret
    exact ⟨rfl, HB2.out⟩
  · have z1 : ¬ (na : Int) > 100 := by omega
    have z1' : ¬ 100 < (na : Int) := by omega
    by_cases k2 : 100 < nb
    · have z2 : (nb : Int) > 100 := by omega
      have z2' : 100 < (nb : Int) := by omega
      clear h
      go_enter Tryd.func6, Tryd.ntmps6
      go_wp2_with fail
      with_reducible refine HV.out.mono ?_
      rintro e w1 ⟨rfl, hb⟩
      have HB1 := Lib.hid hb
      have HV2 := Lib.hid (HV1.out w1 hb)
      clear hb HV HV1
      go_wp2_with fail
      with_reducible refine HV2.out.mono ?_
      rintro e w2 ⟨rfl, hb⟩
      have HB2 := Lib.hid (below_next HB1.out hb)
      clear hb
      go_wp2
      go_ret
      exact ⟨rfl, HB2.out⟩
    · have z2 : ¬ (nb : Int) > 100 := by omega
      have z2' : ¬ 100 < (nb : Int) := by omega
      have k3 : 100 < nc := by omega
      have z3 : (nc : Int) > 100 := by omega
      have z3' : 100 < (nc : Int) := by omega
      clear h
      go_enter Tryd.func6, Tryd.ntmps6
      go_wp2_with fail
      with_reducible refine HV.out.mono ?_
      rintro e w1 ⟨rfl, hb⟩
      have HB1 := Lib.hid hb
      have HV2 := Lib.hid (HV1.out w1 hb)
      clear hb HV HV1
      go_wp2_with fail
      with_reducible refine HV2.out.mono ?_
      rintro e w2 ⟨rfl, hb⟩
      have HB2 := Lib.hid (below_next HB1.out hb)
      clear hb
      go_wp2
      go_ret
      exact ⟨rfl, HB2.out⟩

/-- Where the loop stands: nothing was told yet, and what is left tells it; or it was told. -/
def Stands5 (A B : List UInt8) (X wv : Int) (i : Nat) : Prop :=
  (wv = 0 ∧ i ≤ A.length ∧ i ≤ B.length ∧ Lib.compareBytes (A.drop i) (B.drop i) = X) ∨ (wv = X ∧ (X = 1 ∨ X = -1))

set_option maxRecDepth 100000 in
set_option maxHeartbeats 1000000 in
theorem order_walk (a b c : ByteArray) (na nb nc : Nat) (w : World) (h1 : a.size = na) (h2 : b.size = nb) (h3 : c.size = nc) (hna : na ≤ 100) (hnb : nb ≤ 100) (hnc : nc ≤ 100) (hm : Len5 w) :
    Calls Tryd.prog 6 #[.string a, .string b, .string c] w (Tells5 true w) := by
  have hnot : ∀ (x : Bool) (w : World), (Op.unary .not (.bool x)).run Tryd.prog w = .ok (.bool (!x)) w := fun _ _ => rfl
  have HV := Lib.hid (lives5_calls w hm)
  clear hm
  have HAB0 : Hid (∀ w, _) := fun w => compare_calls a b w
  have HBC0 : Hid (∀ w, _) := fun w => compare_calls b c w
  have HBA0 : Hid (∀ w, _) := fun w => compare_calls b a w
  have HAC0 : Hid (∀ w, _) := fun w => compare_calls a c w
  have HT := Lib.hid (cmp_trans a.data.toList b.data.toList c.data.toList)
  rw [cmp_anti a.data.toList b.data.toList] at HBA0
  have hX := Lib.hid (cmp_cases a.data.toList b.data.toList)
  have HA := Lib.hid (size_list a)
  have HB := Lib.hid (size_list b)
  rw [h1] at HA
  rw [h2] at HB
  have HS0 : Hid (Stands5 a.data.toList b.data.toList (Lib.compareBytes a.data.toList b.data.toList) 0 0) := Or.inl ⟨rfl, Nat.zero_le _, Nat.zero_le _, rfl⟩
  have HGA : Hid (∀ i (h : i < a.data.toList.length) (h' : i < a.size), (a.data.toList[i]'h) = (a[i]'h')) := fun i h h' => rfl
  have HGB : Hid (∀ i (h : i < b.data.toList.length) (h' : i < b.size), (b.data.toList[i]'h) = (b[i]'h')) := fun i h h' => rfl
  generalize Lib.compareBytes a.data.toList b.data.toList = X at *
  generalize Lib.compareBytes b.data.toList c.data.toList = Y at *
  generalize Lib.compareBytes a.data.toList c.data.toList = V at *
  generalize a.data.toList = A at *
  generalize b.data.toList = B at *
  have z1 : ¬ (na : Int) > 100 := by omega
  have z1' : ¬ 100 < (na : Int) := by omega
  have z2 : ¬ (nb : Int) > 100 := by omega
  have z2' : ¬ 100 < (nb : Int) := by omega
  have z3 : ¬ (nc : Int) > 100 := by omega
  have z3' : ¬ 100 < (nc : Int) := by omega
  go_enter Tryd.func6, Tryd.ntmps6
  go_wp2_with fail
  with_reducible refine HV.out.mono ?_
  rintro e w1 ⟨rfl, hb⟩
  have HB1 := Lib.hid hb
  clear hb HV
  go_wp2
  go_loopg [7, 8] (na + 1) (fun gg s7 s8 wr => ∃ (i : Nat) (wv : Int), i ≤ na ∧ na + 1 - i ≤ gg ∧ s7 = .int .i64 wv ∧ s8 = .int .i64 i ∧ Hid (Below w.heap.size w wr) ∧ Hid (Stands5 A B X wv i))
  case atStart => exact ⟨0, 0, Nat.zero_le _, by omega, rfl, rfl, HB1, HS0⟩
  case round =>
    obtain ⟨i, wv, hi, hg, rfl, rfl, HW, HS⟩ := hrel
    have HAB := Lib.hid (HAB0.out wr)
    have HBC := Lib.hid (HBC0.out wr)
    have HBA := Lib.hid (HBA0.out wr)
    have HAC := Lib.hid (HAC0.out wr)
    rcases HS.out with ⟨rfl, hia, hib, hc⟩ | ⟨rfl, hx⟩
    · rw [HA.out] at hia
      rw [HB.out] at hib
      by_cases k1 : i < na
      · have y1 : (i : Int) < (na : Int) := by omega
        by_cases k2 : i < nb
        · have y2 : (i : Int) < (nb : Int) := by omega
          have ka : i < a.size := by omega
          have kb : i < b.size := by omega
          have hxa : ∀ (h : i < a.size), ((a[i]'h).toNat : Int) = bt5 a i := fun h => bt5_eq a i h
          have hxb : ∀ (h : i < b.size), ((b[i]'h).toNat : Int) = bt5 b i := fun h => bt5_eq b i h
          have kA : i < A.length := by have := HA.out; omega
          have kB : i < B.length := by have := HB.out; omega
          have hst := cmp_step A B i kA kB
          rw [HGA.out i kA ka, HGB.out i kB kb, hc] at hst
          have e1 : a[i] < b[i] ↔ bt5 a i < bt5 b i := by rw [← hxa ka, ← hxb kb, UInt8.lt_iff_toNat_lt]; omega
          have e2 : b[i] < a[i] ↔ bt5 b i < bt5 a i := by rw [← hxa ka, ← hxb kb, UInt8.lt_iff_toNat_lt]; omega
          simp only [e1, e2] at hst
          have HST := Lib.hid hst
          clear hst e1 e2 hc HS HAB HBC HBA HAC
          generalize bt5 a i = x at *
          generalize bt5 b i = y at *
          by_cases l1 : x < y
          · have l2 : ¬ x = y := by omega
            have HN : Hid (Stands5 A B X (-1) (i + 1)) := Or.inr ⟨by rw [HST.out, if_pos l1], Or.inr (by rw [HST.out, if_pos l1])⟩
            go_wp2_with fail
            go_quiet (fail)
            go_wp2_with fail
            go_quiet (fail)
            go_wp2
            go_roundg (na + 1 - (i + 1))
            case measure => omega
            case rel => exact ⟨i + 1, -1, by omega, by omega, rfl, by go_num, below_drewN HW.out _, HN⟩
          · by_cases l3 : y < x
            · have l2 : ¬ x = y := by omega
              have HN : Hid (Stands5 A B X 1 (i + 1)) := Or.inr ⟨by rw [HST.out, if_neg l1, if_pos l3], Or.inl (by rw [HST.out, if_neg l1, if_pos l3])⟩
              go_wp2_with fail
              go_quiet (fail)
              go_wp2_with fail
              go_quiet (fail)
              go_wp2
              go_roundg (na + 1 - (i + 1))
              case measure => omega
              case rel => exact ⟨i + 1, 1, by omega, by omega, rfl, by go_num, below_drewN HW.out _, HN⟩
            · have l2 : x = y := by omega
              have HN : Hid (Stands5 A B X 0 (i + 1)) := Or.inl ⟨rfl, by omega, by omega, by rw [HST.out, if_neg l1, if_neg l3]⟩
              go_wp2_with fail
              go_quiet (fail)
              go_wp2
              go_roundg (na + 1 - (i + 1))
              case measure => omega
              case rel => exact ⟨i + 1, 0, by omega, by omega, rfl, by go_num, below_drewN HW.out _, HN⟩
        · have y2 : ¬ (i : Int) < (nb : Int) := by omega
          have hend := cmp_end A B i (by have := HA.out; omega) (by have := HB.out; omega) (Or.inr (by have := HB.out; omega))
          rw [HA.out, HB.out, hc] at hend
          have q1 : ¬ (na : Int) = (nb : Int) := by omega
          have q2 : ¬ (na : Int) < (nb : Int) := by omega
          obtain rfl : X = 1 := hend.2.1 (by omega)
          go_wp2_with fail
          with_reducible refine HAB.out.mono ?_
          rintro e w3 ⟨rfl, rfl⟩
          go_wp2_with fail
          with_reducible refine HBC.out.mono ?_
          rintro e w3 ⟨rfl, rfl⟩
          go_wp2_with fail
          with_reducible refine HBA.out.mono ?_
          rintro e w3 ⟨rfl, rfl⟩
          go_wp2
          go_ret
          exact ⟨rfl, HW.out⟩
      · have y1 : ¬ (i : Int) < (na : Int) := by omega
        have hend := cmp_end A B i (by have := HA.out; omega) (by have := HB.out; omega) (Or.inl (by have := HA.out; omega))
        rw [HA.out, HB.out, hc] at hend
        by_cases k3 : na = nb
        · have q1 : (na : Int) = (nb : Int) := by omega
          obtain rfl : X = 0 := hend.2.2 k3
          by_cases hy : Y > 0
          · have hy' : 0 < Y := hy
            go_wp2_with fail
            with_reducible refine HAB.out.mono ?_
            rintro e w3 ⟨rfl, rfl⟩
            go_wp2_with fail
            with_reducible refine HBC.out.mono ?_
            rintro e w3 ⟨rfl, rfl⟩
            go_wp2_with fail
            with_reducible refine HBA.out.mono ?_
            rintro e w3 ⟨rfl, rfl⟩
            go_wp2
            go_ret
            exact ⟨rfl, HW.out⟩
          · have hy' : ¬ 0 < Y := hy
            have hz : V ≤ 0 := HT.out (by omega) (by omega)
            go_wp2_with fail
            with_reducible refine HAB.out.mono ?_
            rintro e w3 ⟨rfl, rfl⟩
            go_wp2_with fail
            with_reducible refine HBC.out.mono ?_
            rintro e w3 ⟨rfl, rfl⟩
            go_wp2_with fail
            with_reducible refine HBA.out.mono ?_
            rintro e w3 ⟨rfl, rfl⟩
            go_wp2_with fail
            with_reducible refine HAC.out.mono ?_
            rintro e w3 ⟨rfl, rfl⟩
            go_wp2
            go_ret
            exact ⟨by simp, HW.out⟩
        · have q1 : ¬ (na : Int) = (nb : Int) := by omega
          have q2 : (na : Int) < (nb : Int) := by omega
          obtain rfl : X = -1 := hend.1 (by omega)
          by_cases hy : Y > 0
          · have hy' : 0 < Y := hy
            go_wp2_with fail
            with_reducible refine HAB.out.mono ?_
            rintro e w3 ⟨rfl, rfl⟩
            go_wp2_with fail
            with_reducible refine HBC.out.mono ?_
            rintro e w3 ⟨rfl, rfl⟩
            go_wp2_with fail
            with_reducible refine HBA.out.mono ?_
            rintro e w3 ⟨rfl, rfl⟩
            go_wp2
            go_ret
            exact ⟨rfl, HW.out⟩
          · have hy' : ¬ 0 < Y := hy
            have hz : V ≤ 0 := HT.out (by omega) (by omega)
            go_wp2_with fail
            with_reducible refine HAB.out.mono ?_
            rintro e w3 ⟨rfl, rfl⟩
            go_wp2_with fail
            with_reducible refine HBC.out.mono ?_
            rintro e w3 ⟨rfl, rfl⟩
            go_wp2_with fail
            with_reducible refine HBA.out.mono ?_
            rintro e w3 ⟨rfl, rfl⟩
            go_wp2_with fail
            with_reducible refine HAC.out.mono ?_
            rintro e w3 ⟨rfl, rfl⟩
            go_wp2
            go_ret
            exact ⟨by simp, HW.out⟩
    · rcases hx with hx | hx
      · obtain rfl : wv = 1 := hx
        go_wp2_with fail
        with_reducible refine HAB.out.mono ?_
        rintro e w3 ⟨rfl, rfl⟩
        go_wp2_with fail
        with_reducible refine HBC.out.mono ?_
        rintro e w3 ⟨rfl, rfl⟩
        go_wp2_with fail
        with_reducible refine HBA.out.mono ?_
        rintro e w3 ⟨rfl, rfl⟩
        go_wp2
        go_ret
        exact ⟨rfl, HW.out⟩
      · obtain rfl : wv = -1 := hx
        by_cases hy : Y > 0
        · have hy' : 0 < Y := hy
          go_wp2_with fail
          with_reducible refine HAB.out.mono ?_
          rintro e w3 ⟨rfl, rfl⟩
          go_wp2_with fail
          with_reducible refine HBC.out.mono ?_
          rintro e w3 ⟨rfl, rfl⟩
          go_wp2_with fail
          with_reducible refine HBA.out.mono ?_
          rintro e w3 ⟨rfl, rfl⟩
          go_wp2
          go_ret
          exact ⟨rfl, HW.out⟩
        · have hy' : ¬ 0 < Y := hy
          have hz : V ≤ 0 := HT.out (by omega) (by omega)
          go_wp2_with fail
          with_reducible refine HAB.out.mono ?_
          rintro e w3 ⟨rfl, rfl⟩
          go_wp2_with fail
          with_reducible refine HBC.out.mono ?_
          rintro e w3 ⟨rfl, rfl⟩
          go_wp2_with fail
          with_reducible refine HBA.out.mono ?_
          rintro e w3 ⟨rfl, rfl⟩
          go_wp2_with fail
          with_reducible refine HAC.out.mono ?_
          rintro e w3 ⟨rfl, rfl⟩
          go_wp2
          go_ret
          exact ⟨by simp, HW.out⟩
end Go.Proofs.YtgdfhjbijmeooaaDoor

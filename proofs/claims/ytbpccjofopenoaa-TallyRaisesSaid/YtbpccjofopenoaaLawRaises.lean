/-
  The law TallyRaises tells true of any numbers and any kind, and turns nothing that was there.
  Conditions: none.
-/
import Derived.Test.YtbpccjofopenoaaLives4
import Derived.Test.YtbpccjofopenoaaOpenI
namespace Go.Proofs.Ytbpccjofopenoaa
open Go.RowKit

set_option maxRecDepth 100000 in
/-- Rows that are too long: the example alone is looked at. -/
theorem raises_few (A : Option Addr) (c n : Nat) (at_ : Int) (w : World) (hm : n ≤ 9223372036854775807) (h : 60 < n) :
    Calls Try.prog 5 #[.slice A n c, .int .u8 at_] w (Told2 true w) := by
  have hnot : ∀ (x : Bool) (w : World), (Op.unary .not (.bool x)).run Try.prog w = .ok (.bool (!x)) w := fun _ _ => rfl
  go_enter Try.func5, Try.ntmps5
  go_wp2_with fail
  with_reducible refine (lives4_calls w).mono ?_
  rintro e w1 ⟨rfl, ht1⟩
  have H1 := Lib.hid ht1
  clear ht1
  go_wp2_with fail
  with_reducible refine (lives4_calls w1).mono ?_
  rintro e w2 ⟨rfl, ht2⟩
  have H2 : Hid (Turns (fun _ => False) w w2) := H1.out.next ht2 (fun _ _ f => f)
  clear ht2
  go_wp2
  go_ret
  exact ⟨rfl, H2.out⟩

set_option maxRecDepth 100000 in
set_option maxHeartbeats 1000000 in
theorem raises_many (A : Option Addr) (c : Nat) (l : List Int) (n : Nat) (w : World) (hr : RdI6 w A l) (hn : l.length ≤ 60) (hat : n < 256) :
    Calls Try.prog 5 #[.slice A l.length c, .int .u8 (n : Int)] w (Told2 true w) := by
  have hnot : ∀ (x : Bool) (w : World), (Op.unary .not (.bool x)).run Try.prog w = .ok (.bool (!x)) w := fun _ _ => rfl
  have HR := Lib.hid hr
  have hdec : decide (60 < (l.length : Int)) = false := by simp; omega
  clear hr
  obtain ⟨kd, hkd, hk16⟩ : ∃ kd : Nat, (n : Int) % 16 = (kd : Int) ∧ kd < 16 := ⟨n % 16, by omega, by omega⟩
  have HKD := Lib.hid hkd
  clear hkd
  go_enter Try.func5, Try.ntmps5
  go_wp2_with fail
  with_reducible refine (lives4_calls w).mono ?_
  rintro e w1 ⟨rfl, ht1⟩
  have H1 := Lib.hid ht1
  clear ht1
  go_wp2_with fail
  with_reducible refine (new4_calls w1).mono ?_
  rintro e w2 ⟨rfl, hw2⟩
  have ht2 : Turns (fun _ => False) w w2 := by rw [hw2]; exact H1.out.alloc _
  have hN2 : Num16 w2 w1.heap.size (fun _ => 0) := by rw [hw2]; exact Num16.new w1 _ _
  have HB : Hid (w.heap.size ≤ w1.heap.size) := H1.out.size
  have H2 := Lib.hid ht2
  have HN2 := Lib.hid hN2
  clear hw2 ht2 hN2 H1
  generalize w1.heap.size = B at *
  go_wp2
  rw [HKD.out]
  clear HKD
  go_loopw [7, 24] (fun m i wr => ∃ k : Nat, k ≤ l.length ∧ i = .int .i64 k ∧ ∃ (x : Int) (f : Nat → Int), m = .int .i64 x ∧ f kd = x ∧ Num16 wr B f ∧ Turns (fun _ => False) w wr) (fun _ i _ => l.length - (intOf i).toNat)
  case atStart => exact ⟨0, Nat.zero_le _, rfl, 0, _, rfl, rfl, HN2.out, H2.out⟩
  case round =>
    clear H2 HN2
    obtain ⟨k, hk, rfl, m, f, rfl, hfk, hN, hT⟩ := hrel
    have HFK := Lib.hid hfk
    have HN := Lib.hid hN
    have HT := Lib.hid hT
    clear hfk hN hT
    by_cases hlt : k < l.length
    · obtain ⟨b, off, rfl, hb, hc⟩ := HR.out.still HT.out (by intro e; subst e; simp at hlt)
      have hcell := hc k hlt
      clear hc
      generalize l[k] = x at *
      by_cases hx : m < x
      · go_wp2_with fail
        with_reducible refine (raise4_up B kd m x f wr HN.out hk16 HFK.out hx).mono ?_
        rintro e w3 ⟨rfl, hn3, ht3⟩
        have HN3 := Lib.hid hn3
        have HT3 : Hid (Turns (fun _ => False) w w3) := HT.out.own4 HB.out ht3
        clear hn3 ht3 hcell
        go_wp2_with fail
        with_reducible refine (get4_in B kd x _ w3 HN3.out hk16 (setF_same f kd x)).mono ?_
        rintro e w4 ⟨rfl, rfl⟩
        go_wp2
        go_roundw
        case rel => exact ⟨k + 1, by omega, by go_num, x, _, rfl, setF_same f kd x, HN3.out, HT3.out⟩
        case measure => simp [intOf]; omega
      · go_wp2_with fail
        with_reducible refine (raise4_not B kd m x f wr HN.out hk16 HFK.out hx).mono ?_
        rintro e w3 ⟨rfl, hn3, ht3⟩
        have HN3 := Lib.hid hn3
        have HT3 : Hid (Turns (fun _ => False) w w3) := HT.out.own4 HB.out ht3
        clear hn3 ht3 hcell
        go_wp2_with fail
        with_reducible refine (get4_in B kd m _ w3 HN3.out hk16 HFK.out).mono ?_
        rintro e w4 ⟨rfl, rfl⟩
        go_wp2
        go_roundw
        case rel => exact ⟨k + 1, by omega, by go_num, m, f, rfl, HFK.out, HN3.out, HT3.out⟩
        case measure => simp [intOf]; omega
    · obtain rfl : k = l.length := by omega
      go_wp2
      go_ret
      exact ⟨rfl, HT.out⟩

theorem raises_walk (A : Option Addr) (c : Nat) (l : List Int) (n : Nat) (w : World) (hr : RdI6 w A l) (hm : l.length ≤ 9223372036854775807) (hat : n < 256) :
    Calls Try.prog 5 #[.slice A l.length c, .int .u8 (n : Int)] w (Told2 true w) := by
  by_cases h : 60 < l.length
  · exact raises_few A c l.length n w hm h
  · exact raises_many A c l n w hr (by omega) hat
end Go.Proofs.Ytbpccjofopenoaa

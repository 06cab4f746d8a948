/-
  The law TallySwaps tells true of any numbers and any kind, and turns nothing that was there.
  Conditions: none.
-/
import Derived.Test.YtbpccjofopenoaaLives4
import Derived.Test.YtbpccjofopenoaaTallyC
import Derived.Test.YtbpccjofopenoaaOpenI
namespace Go.Proofs.Ytbpccjofopenoaa
open Go.RowKit

set_option maxRecDepth 100000 in
theorem swaps_few (A : Option Addr) (c n : Nat) (at_ : Int) (w : World) (hm : n ≤ 9223372036854775807) (h : 60 < n) :
    Calls Try.prog 4 #[.slice A n c, .int .u8 at_] w (Told2 true w) := by
  have hnot : ∀ (x : Bool) (w : World), (Op.unary .not (.bool x)).run Try.prog w = .ok (.bool (!x)) w := fun _ _ => rfl
  go_enter Try.func4, Try.ntmps4
  go_wp2_with fail
  with_reducible refine (lives4_calls w).mono ?_
  rintro e w1 ⟨rfl, ht1⟩
  have H1 := Lib.hid ht1
  clear ht1
  go_wp2_with fail
  with_reducible refine (lives4_calls w1).mono ?_
  rintro e w2 ⟨rfl, ht2⟩
  have H2 : Hid (Turns (fun _ => False) w w2) := H1.out.next ht2 (fun _ _ f => f)
  clear ht2
  go_wp2
  go_ret
  exact ⟨rfl, H2.out⟩

/-- One count alone. -/
def oneF (kd : Nat) (x : Int) : Nat → Int := fun j => if j = kd then x else 0
theorem oneF_set (kd : Nat) (x y : Int) : setF (oneF kd x) kd y = oneF kd y := by
  funext j
  unfold setF oneF
  by_cases h : j = kd
  · rw [if_pos h, if_pos h]
  · rw [if_neg h, if_neg h, if_neg h]
theorem oneF_zero (kd : Nat) : (fun _ => 0) = oneF kd 0 := by
  funext j
  simp [oneF]
theorem oneF_at (kd : Nat) (x : Int) : oneF kd x kd = x := if_pos rfl
theorem sum_one (kd : Nat) (x : Int) (hx : In64 x) : ∀ k, sumF (oneF kd x) k = if kd < k then x else 0
  | 0 => by simp [sumF]
  | k + 1 => by
    rw [sumF, sum_one kd x hx k]
    unfold In64 at hx
    unfold oneF
    by_cases h : kd < k
    · rw [if_pos h, if_neg (by omega), if_pos (by omega), Int.add_zero]
      exact IntWalk.wrap64_in x hx
    · rw [if_neg h, Int.zero_add]
      by_cases h2 : k = kd
      · rw [if_pos h2, if_pos (by omega)]
        exact IntWalk.wrap64_in x hx
      · rw [if_neg h2, if_neg (by omega)]
        decide +kernel
theorem wrap_in (x : Int) : In64 (wrap64 x) := by unfold In64 wrap64; omega
/-- A step that is taken is no step just if it is by nothing. -/
theorem wrap_same (s x : Int) (hx : In64 x) (h : wrap64 (s + x) = s) : x = 0 := by
  unfold In64 at *
  unfold wrap64 at h
  omega

set_option maxRecDepth 100000 in
set_option maxHeartbeats 1000000 in
theorem swaps_many (A : Option Addr) (c : Nat) (l : List Int) (n : Nat) (w : World) (hr : RdI6 w A l) (hw : ∀ x ∈ l, In64 x) (hn : l.length ≤ 60) (hat : n < 256) :
    Calls Try.prog 4 #[.slice A l.length c, .int .u8 (n : Int)] w (Told2 true w) := by
  have hnot : ∀ (x : Bool) (w : World), (Op.unary .not (.bool x)).run Try.prog w = .ok (.bool (!x)) w := fun _ _ => rfl
  have HR := Lib.hid hr
  have HW := Lib.hid hw
  have hdec : decide (60 < (l.length : Int)) = false := by simp; omega
  clear hr hw
  obtain ⟨kd, hkd, hk16⟩ : ∃ kd : Nat, (n : Int) % 16 = (kd : Int) ∧ kd < 16 := ⟨n % 16, by omega, by omega⟩
  have HKD := Lib.hid hkd
  clear hkd
  go_enter Try.func4, Try.ntmps4
  go_wp2_with fail
  with_reducible refine (lives4_calls w).mono ?_
  rintro e w1 ⟨rfl, ht1⟩
  have H1 := Lib.hid ht1
  clear ht1
  go_wp2_with fail
  with_reducible refine (new4_calls w1).mono ?_
  rintro e w2 ⟨rfl, hw2⟩
  have ht2 : Turns (fun _ => False) w w2 := by rw [hw2]; exact H1.out.alloc _
  have hN2 : Num16 w2 w1.heap.size (oneF kd 0) := by rw [hw2, ← oneF_zero]; exact Num16.new w1 _ _
  have HB : Hid (w.heap.size ≤ w1.heap.size) := H1.out.size
  have H2 := Lib.hid ht2
  have HN2 := Lib.hid hN2
  clear hw2 ht2 hN2 H1
  generalize w1.heap.size = B at *
  go_wp2
  rw [HKD.out]
  clear HKD
  go_loopw [7, 25] (fun m i wr => ∃ k : Nat, k ≤ l.length ∧ i = .int .i64 k ∧ ∃ s : Int, m = .int .i64 s ∧ In64 s ∧ Num16 wr B (oneF kd s) ∧ Turns (fun _ => False) w wr) (fun _ i _ => l.length - (intOf i).toNat)
  case atStart => exact ⟨0, Nat.zero_le _, rfl, 0, rfl, by unfold In64; omega, HN2.out, H2.out⟩
  case round =>
    clear H2 HN2
    obtain ⟨k, hk, rfl, s, rfl, hs, hN, hT⟩ := hrel
    have HS := Lib.hid hs
    have HN := Lib.hid hN
    have HT := Lib.hid hT
    clear hs hN hT
    by_cases hlt : k < l.length
    · obtain ⟨b, off, rfl, hb, hc⟩ := HR.out.still HT.out (by intro e; subst e; simp at hlt)
      have hcell := hc k hlt
      have HX := Lib.hid (HW.out l[k] (List.getElem_mem hlt))
      clear hc
      generalize l[k] = x at *
      obtain ⟨y, hy⟩ : ∃ y, wrap64 (s + x) = y := ⟨_, rfl⟩
      have HY : Hid (In64 y) := by have := wrap_in (s + x); rwa [hy] at this
      have HNY : Hid (y = s → x = 0) := fun e => wrap_same s x HX.out (hy.trans e)
      have HYS : Hid (x = 0 → y = s) := fun e => by
        have h1 : wrap64 (s + x) = s := by rw [e, Int.add_zero]; exact IntWalk.wrap64_in s HS.out
        exact hy.symm.trans h1
      go_wp2_with fail
      with_reducible refine (get4_in B kd s _ wr HN.out hk16 (oneF_at kd s)).mono ?_
      rintro e w4 ⟨rfl, rfl⟩
      go_wp2_with fail
      with_reducible refine (swap4_hit B kd s y _ wr HN.out hk16 (oneF_at kd s)).mono ?_
      rintro e w3 ⟨rfl, hn3, ht3⟩
      have HN3 : Hid (Num16 w3 B (oneF kd y)) := by have h := hn3; rw [oneF_set] at h; exact h
      have HT3 : Hid (Turns (fun _ => False) w w3) := HT.out.own4 HB.out ht3
      clear hn3 ht3 hcell HN HT
      by_cases hx : x = 0
      · have hb : (x == 0) = true := by simpa using hx
        have HE := Lib.hid (HYS.out hx)
        clear hx
        go_wp2_with fail
        with_reducible refine (swap4_hit B kd s y _ w3 HN3.out hk16 ((oneF_at kd y).trans HE.out)).mono ?_
        rintro e w4 ⟨rfl, hn4, ht4⟩
        have HN4 : Hid (Num16 w4 B (oneF kd y)) := by have h := hn4; rw [oneF_set] at h; exact h
        have HT4 : Hid (Turns (fun _ => False) w w4) := HT3.out.own4 HB.out ht4
        clear hn4 ht4 HN3 HT3
        go_wp2
        go_roundw
        case rel => exact ⟨k + 1, by omega, by go_num, y, by rw [hy], HY.out, HN4.out, HT4.out⟩
        case measure => simp [intOf]; omega
      · have hb : (x == 0) = false := by simpa using hx
        have HE : Hid (¬ y = s) := fun e => hx (HNY.out e)
        clear hx
        go_wp2_with fail
        with_reducible refine (swap4_miss B kd y s y _ w3 HN3.out hk16 (oneF_at kd y) HE.out).mono ?_
        rintro e w4 ⟨rfl, hn4, ht4⟩
        have HN4 := Lib.hid hn4
        have HT4 : Hid (Turns (fun _ => False) w w4) := HT3.out.own4 HB.out ht4
        clear hn4 ht4 HN3 HT3
        go_wp2
        go_roundw
        case rel => exact ⟨k + 1, by omega, by go_num, y, by rw [hy], HY.out, HN4.out, HT4.out⟩
        case measure => simp [intOf]; omega
    · obtain rfl : k = l.length := by omega
      have HSM : Hid (sumF (oneF kd s) 16 = s) := by
        have := sum_one kd s HS.out 16
        rw [if_pos hk16] at this
        exact this
      go_wp2_with fail
      with_reducible refine (get4_in B kd s _ wr HN.out hk16 (oneF_at kd s)).mono ?_
      rintro e w4 ⟨rfl, rfl⟩
      go_wp2_with fail
      with_reducible refine (sum4_calls B (oneF kd s) wr HN.out).mono ?_
      rintro e w5 ⟨rfl, ht5⟩
      rw [HSM.out]
      have HT5 : Hid (Turns (fun _ => False) w w5) := HT.out.next ht5 (fun _ _ f => f)
      clear ht5 HT HN HSM
      go_wp2
      go_ret
      exact ⟨rfl, HT5.out⟩

theorem swaps_walk (A : Option Addr) (c : Nat) (l : List Int) (n : Nat) (w : World) (hr : RdI6 w A l) (hw : ∀ x ∈ l, In64 x) (hm : l.length ≤ 9223372036854775807) (hat : n < 256) :
    Calls Try.prog 4 #[.slice A l.length c, .int .u8 (n : Int)] w (Told2 true w) := by
  by_cases h : 60 < l.length
  · exact swaps_few A c l.length n w hm h
  · exact swaps_many A c l n w hr hw (by omega) hat
end Go.Proofs.Ytbpccjofopenoaa

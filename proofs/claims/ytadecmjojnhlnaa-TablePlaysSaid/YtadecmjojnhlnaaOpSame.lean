/-
  Rows of texts are compared: by the law's SameTexts, and by the library's slices.Equal.
  Conditions: none beyond each theorem's own.
-/
import Derived.Test.YtadecmjojnhlnaaOpTab
import Derived.Test.YtadecmjojnhlnaaWriteC
namespace Go.Proofs.Ytadecmjojnhlnaa
open Go.RowKit

theorem RdS.at14 {w : World} {A : Option Addr} {ss : List ByteArray} (h : RdS w A ss) (k : Nat) (hk : k < ss.length) : ∃ b off, A = some ⟨b, off, none⟩ ∧ w.cell? ⟨b, off + k, none⟩ = some (.string ss[k]) := by
  obtain ⟨b, off, rfl, _, hc⟩ := h (by intro e; subst e; simp at hk)
  exact ⟨b, off, rfl, hc k hk⟩
theorem RdS.later14 {w w' : World} {A : Option Addr} {ss : List ByteArray} (h : RdS w A ss) (hb : Below w.heap.size w w') : RdS w' A ss := h.turns (turns14 hb) (fun _ _ _ f => f)
theorem toList_ne14 {s t : ByteArray} (h : s ≠ t) : s.toList ≠ t.toList := by
  intro e
  apply h
  rw [ByteArray.toList_eq, ByteArray.toList_eq] at e
  exact ByteArray.ext (Array.toList_inj.1 e)

set_option maxRecDepth 100000 in
set_option maxHeartbeats 1000000 in
theorem samet14_calls (A A' : Option Addr) (c c' : Nat) (ss ts : List ByteArray) (w : World) (h1 : RdS w A ss) (h2 : RdS w A' ts) (hm1 : ss.length ≤ 9223372036854775807) :
    Calls Try.prog 32 #[.slice A ss.length c, .slice A' ts.length c'] w (Says14 (.bool (decide (ss = ts))) w) := by
  by_cases hl : ss.length = ts.length
  · have HL := Lib.hid hl
    obtain ⟨r, hr⟩ : ∃ r, r = decide (ss = ts) := ⟨_, rfl⟩
    rw [← hr]
    have HRS := Lib.hid hr
    have H1 := Lib.hid h1
    have H2 := Lib.hid h2
    clear hr h1 h2
    rw [← hl]
    clear hl
    obtain ⟨n, hn⟩ : ∃ n, n = ss.length := ⟨_, rfl⟩
    rw [← hn] at hm1 ⊢
    have HN := Lib.hid hn
    clear hn
    go_enter Try.func32, Try.ntmps32
    go_wp2
    go_loopg [5, 13] n (fun gg _ i wr => ∃ k : Nat, k ≤ n ∧ n - k ≤ gg ∧ i = .int .i64 k ∧ Hid (ss.take k = ts.take k) ∧ Hid (Below w.heap.size w wr))
    case atStart => exact ⟨0, Nat.zero_le _, by omega, rfl, by simp [Hid], Below.refl _ _⟩
    case round =>
      obtain ⟨k, hk, hg, rfl, HTK, HT⟩ := hrel
      by_cases hlt : k < n
      · have k1 : k < ss.length := by have := HN.out; omega
        have k2 : k < ts.length := by have := HN.out; have := HL.out; omega
        obtain ⟨b, off, rfl, hc1⟩ := (H1.out.later14 HT.out).at14 k k1
        obtain ⟨b', off', rfl, hc2⟩ := (H2.out.later14 HT.out).at14 k k2
        have hst : ss[k] = ts[k] → ss.take (k + 1) = ts.take (k + 1) := fun e => by rw [List.take_succ_eq_append_getElem k1, List.take_succ_eq_append_getElem k2, HTK.out, e]
        have hsf : ss[k] ≠ ts[k] → r = false := fun e => by
          rw [HRS.out]
          refine decide_eq_false fun h => e ?_
          subst h
          rfl
        generalize ss[k] = s at hc1 hst hsf
        generalize ts[k] = t at hc2 hst hsf
        have HST := Lib.hid hst
        have HSF := Lib.hid hsf
        clear hst hsf k1 k2
        by_cases e : s = t
        · subst e
          have HTK2 := Lib.hid (HST.out rfl)
          have n1 : (s.toList != s.toList) = false := by simp
          have n2 : (s.toList == s.toList) = true := by simp
          clear HST HSF HTK
          go_wp2
          go_quiet (fail)
          go_wp2
          go_roundg (n - (k + 1))
          case measure => omega
          case rel => exact ⟨k + 1, by omega, by omega, by go_num, HTK2.out, drewN14 HT.out _⟩
        · obtain rfl := HSF.out e
          have hne := toList_ne14 e
          have hne2 : (s.toList == t.toList) = false := by simpa using hne
          have hne3 : (s.toList != t.toList) = true := by rw [bne, hne2]; rfl
          clear HST HSF HRS e hne
          go_wp2
          go_quiet (fail)
          go_wp2
          go_ret
          exact ⟨rfl, drewN14 HT.out _⟩
      · obtain rfl : k = n := by omega
        have hr1 : r = true := by
          rw [HRS.out]
          have a := HN.out
          have b := HL.out
          have c := HTK.out
          rw [List.take_of_length_le (by omega), List.take_of_length_le (by omega)] at c
          exact decide_eq_true c
        subst hr1
        clear HRS HTK
        go_wp2
        go_ret
        exact ⟨rfl, HT.out⟩
  · have hr : decide (ss = ts) = false := decide_eq_false fun e => hl (by rw [e])
    rw [hr]
    have hne : ((ss.length : Int) == (ts.length : Int)) = false := by simp; omega
    have hne2 : ((ss.length : Int) != (ts.length : Int)) = true := by simp; omega
    have HW := Lib.hid (Below.refl w.heap.size w)
    clear h1 h2 hl hr
    generalize ss.length = n at *
    generalize ts.length = m at *
    go_enter Try.func32, Try.ntmps32
    go_wp2
    go_ret
    exact ⟨rfl, HW.out⟩

set_option maxRecDepth 100000 in
set_option maxHeartbeats 1000000 in
theorem equal14s_calls (A A' : Option Addr) (c c' : Nat) (ss ts : List ByteArray) (w : World) (h1 : RdS w A ss) (h2 : RdS w A' ts) (hm1 : ss.length ≤ 9223372036854775807) :
    Calls Try.prog 25 #[.slice A ss.length c, .slice A' ts.length c'] w (Says14 (.bool (decide (ss = ts))) w) := by
  by_cases hl : ss.length = ts.length
  · have HL := Lib.hid hl
    obtain ⟨r, hr⟩ : ∃ r, r = decide (ss = ts) := ⟨_, rfl⟩
    rw [← hr]
    have HRS := Lib.hid hr
    have H1 := Lib.hid h1
    have H2 := Lib.hid h2
    clear hr h1 h2
    rw [← hl]
    clear hl
    obtain ⟨n, hn⟩ : ∃ n, n = ss.length := ⟨_, rfl⟩
    rw [← hn] at hm1 ⊢
    have HN := Lib.hid hn
    clear hn
    go_enter Try.func25, Try.ntmps25
    go_wp2
    go_loopg [5, 13] n (fun gg _ i wr => ∃ k : Nat, k ≤ n ∧ n - k ≤ gg ∧ i = .int .i64 k ∧ Hid (ss.take k = ts.take k) ∧ Hid (Below w.heap.size w wr))
    case atStart => exact ⟨0, Nat.zero_le _, by omega, rfl, by simp [Hid], Below.refl _ _⟩
    case round =>
      obtain ⟨k, hk, hg, rfl, HTK, HT⟩ := hrel
      by_cases hlt : k < n
      · have k1 : k < ss.length := by have := HN.out; omega
        have k2 : k < ts.length := by have := HN.out; have := HL.out; omega
        obtain ⟨b, off, rfl, hc1⟩ := (H1.out.later14 HT.out).at14 k k1
        obtain ⟨b', off', rfl, hc2⟩ := (H2.out.later14 HT.out).at14 k k2
        have hst : ss[k] = ts[k] → ss.take (k + 1) = ts.take (k + 1) := fun e => by rw [List.take_succ_eq_append_getElem k1, List.take_succ_eq_append_getElem k2, HTK.out, e]
        have hsf : ss[k] ≠ ts[k] → r = false := fun e => by
          rw [HRS.out]
          refine decide_eq_false fun h => e ?_
          subst h
          rfl
        generalize ss[k] = s at hc1 hst hsf
        generalize ts[k] = t at hc2 hst hsf
        have HST := Lib.hid hst
        have HSF := Lib.hid hsf
        clear hst hsf k1 k2
        by_cases e : s = t
        · subst e
          have HTK2 := Lib.hid (HST.out rfl)
          have n1 : (s.toList != s.toList) = false := by simp
          have n2 : (s.toList == s.toList) = true := by simp
          clear HST HSF HTK
          go_wp2
          go_quiet (fail)
          go_wp2
          go_roundg (n - (k + 1))
          case measure => omega
          case rel => exact ⟨k + 1, by omega, by omega, by go_num, HTK2.out, drewN14 HT.out _⟩
        · obtain rfl := HSF.out e
          have hne := toList_ne14 e
          have hne2 : (s.toList == t.toList) = false := by simpa using hne
          have hne3 : (s.toList != t.toList) = true := by rw [bne, hne2]; rfl
          clear HST HSF HRS e hne
          go_wp2
          go_quiet (fail)
          go_wp2
          go_ret
          exact ⟨rfl, drewN14 HT.out _⟩
      · obtain rfl : k = n := by omega
        have hr1 : r = true := by
          rw [HRS.out]
          have a := HN.out
          have b := HL.out
          have c := HTK.out
          rw [List.take_of_length_le (by omega), List.take_of_length_le (by omega)] at c
          exact decide_eq_true c
        subst hr1
        clear HRS HTK
        go_wp2
        go_ret
        exact ⟨rfl, HT.out⟩
  · have hr : decide (ss = ts) = false := decide_eq_false fun e => hl (by rw [e])
    rw [hr]
    have hne : ((ss.length : Int) == (ts.length : Int)) = false := by simp; omega
    have hne2 : ((ss.length : Int) != (ts.length : Int)) = true := by simp; omega
    have HW := Lib.hid (Below.refl w.heap.size w)
    clear h1 h2 hl hr
    generalize ss.length = n at *
    generalize ts.length = m at *
    go_enter Try.func25, Try.ntmps25
    go_wp2
    go_ret
    exact ⟨rfl, HW.out⟩
end Go.Proofs.Ytadecmjojnhlnaa

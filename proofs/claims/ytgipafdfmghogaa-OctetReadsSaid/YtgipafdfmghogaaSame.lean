/-
  The law's 'same' tells whether two rows of texts are the same, and turns nothing that was there.
  Conditions: none but that both slices can be read.
-/
import Derived.Test.YtgipafdfmghogaaLives
import Derived.Deep.QuietTactic
import Derived.BigQuiet
namespace Go.Proofs.Ytgipafdfmghogaa
open Go.RowKit

theorem RdS.at_ {w : World} {A : Option Addr} {ss : List ByteArray} (h : RdS w A ss) (k : Nat) (hk : k < ss.length) :
    ∃ (b off : Nat), A = some ⟨b, off, none⟩ ∧ w.cell? ⟨b, off + k, none⟩ = some (.string ss[k]) := by
  obtain ⟨b, off, rfl, _, hc⟩ := h (by intro e; subst e; simp at hk)
  exact ⟨b, off, rfl, hc k hk⟩
theorem RdS.still {w w' : World} {A : Option Addr} {ss : List ByteArray} (h : RdS w A ss) (ht : Turns (fun _ => False) w w') : RdS w' A ss := h.turns ht (fun _ _ _ f => f)

def sameB (ss ts : List ByteArray) : Bool := decide (ss = ts)
theorem sameB_len (ss ts : List ByteArray) (h : ss.length ≠ ts.length) : sameB ss ts = false := by
  simp only [sameB, decide_eq_false_iff_not]
  intro e; exact h (by rw [e])
theorem sameB_at (ss ts : List ByteArray) (k : Nat) (h1 : k < ss.length) (h2 : k < ts.length) (h : ss[k] ≠ ts[k]) : sameB ss ts = false := by
  simp only [sameB, decide_eq_false_iff_not]
  intro e; subst e; exact h rfl
theorem sameB_all (ss ts : List ByteArray) (hl : ss.length = ts.length) (h : ss.take ss.length = ts.take ss.length) : sameB ss ts = true := by
  simp only [sameB, decide_eq_true_eq]
  rw [List.take_length, hl, List.take_length] at h
  exact h
theorem take_step (ss ts : List ByteArray) (k : Nat) (h1 : k < ss.length) (h2 : k < ts.length) (h : ss.take k = ts.take k) (e : ss[k] = ts[k]) : ss.take (k + 1) = ts.take (k + 1) := by
  rw [List.take_succ_eq_append_getElem h1, List.take_succ_eq_append_getElem h2, h, e]
theorem toList_ne {s t : ByteArray} (h : s ≠ t) : s.toList ≠ t.toList := by
  intro e
  apply h
  rw [ByteArray.toList_eq, ByteArray.toList_eq] at e
  exact ByteArray.ext (Array.toList_inj.1 e)

set_option maxHeartbeats 1000000 in
theorem same_calls (A A' : Option Addr) (c c' : Nat) (ss ts : List ByteArray) (w : World) (h1 : RdS w A ss) (h2 : RdS w A' ts) (hm1 : ss.length ≤ 9223372036854775807) :
    Calls Try.prog 12 #[.slice A ss.length c, .slice A' ts.length c'] w (Told (sameB ss ts) w) := by
  by_cases hl : ss.length = ts.length
  · have HL := Lib.hid hl
    have hall := sameB_all ss ts hl
    have HALL := Lib.hid hall
    have H1 := Lib.hid h1
    have H2 := Lib.hid h2
    clear hall h1 h2
    rw [← hl]
    clear hl
    obtain ⟨n, hn⟩ : ∃ n, n = ss.length := ⟨_, rfl⟩
    rw [← hn] at HALL hm1 ⊢
    have HN := Lib.hid hn
    clear hn
    go_enter Try.func12, Try.ntmps12
    go_wp2
    go_loopw [13] (fun i wr => ∃ k : Nat, k ≤ n ∧ i = .int .i64 k ∧ ss.take k = ts.take k ∧ Turns (fun _ => False) w wr) (fun i _ => n - (intOf i).toNat)
    case atStart => exact ⟨0, Nat.zero_le _, rfl, by simp, Turns.refl _ _⟩
    case round =>
      obtain ⟨k, hk, rfl, htk, ht⟩ := hrel
      by_cases hlt : k < n
      · have k1 : k < ss.length := by have := HN.out; omega
        have k2 : k < ts.length := by have := HN.out; have := HL.out; omega
        obtain ⟨b, off, rfl, hc1⟩ := (H1.out.still ht).at_ k k1
        obtain ⟨b', off', rfl, hc2⟩ := (H2.out.still ht).at_ k k2
        have hst := fun h e => take_step ss ts k k1 k2 h e
        have hsf := fun e => sameB_at ss ts k k1 k2 e
        generalize ss[k] = s at hc1 hst hsf
        generalize ts[k] = t at hc2 hst hsf
        have HST := Lib.hid hst
        have HSF := Lib.hid hsf
        have HTK := Lib.hid htk
        have HT := Lib.hid ht
        clear hst hsf htk ht k1 k2
        by_cases e : s = t
        · subst e
          have HTK2 := Lib.hid (HST.out HTK.out rfl)
          clear HST HSF HTK HALL
          go_wp2
          go_quiet (fail)
          go_wp2
          go_roundw
          case rel => exact ⟨k + 1, by omega, by go_num, HTK2.out, HT.out.drewN _⟩
          case measure => simp [intOf]; omega
        · have hne := toList_ne e
          have HE := Lib.hid (HSF.out e)
          have hne2 : (s.toList == t.toList) = false := by simpa using hne
          clear HST HSF HALL e
          go_wp2
          go_quiet (fail)
          go_wp2
          go_ret
          exact ⟨by rw [HE.out]; rfl, HT.out.drewN _⟩
      · obtain rfl : k = n := by omega
        have HE := Lib.hid (HALL.out (by rw [← HN.out] at *; exact htk))
        have HT := Lib.hid ht
        clear htk ht HALL
        go_wp2
        go_ret
        exact ⟨by rw [HE.out]; rfl, HT.out⟩
  · have HE := Lib.hid (sameB_len ss ts hl)
    have hne : ((ss.length : Int) == (ts.length : Int)) = false := by simp; omega
    have hne2 : ((ss.length : Int) != (ts.length : Int)) = true := by simp; omega
    clear h1 h2 hl
    generalize ss.length = n at *
    generalize ts.length = m at *
    go_enter Try.func12, Try.ntmps12
    go_wp2
    go_ret
    exact ⟨by rw [HE.out]; rfl, Turns.refl _ _⟩
end Go.Proofs.Ytgipafdfmghogaa

/-
  The document's signs: whether a byte stands in a text, whether all do; names, prefixes, sums.
  Conditions: texts are no longer than a text may be.
-/
import Derived.Test.YtclnkboejbnfnaaGreatDoorNames
namespace Go.Proofs.YtclnkboejbnfnaaGreatDoor
open Go.RowKit

set_option maxRecDepth 100000 in
theorem in5_calls (c : UInt8) (s : ByteArray) (w : World) (hs : s.size ≤ 1000) :
    Calls Tryz.prog 211 #[.int .u8 c.toNat, .string s] w fun e w' => e = .returned (.bool (s.data.toList.contains c)) ∧ w' = w := by
  obtain ⟨r, hr⟩ : ∃ r, r = s.data.toList.contains c := ⟨_, rfl⟩
  rw [← hr]
  have HR := Lib.hid hr
  clear hr
  generalize hn : s.size = n at *
  have HN := Lib.hid hn
  have HC : Hid (∀ x : UInt8, ((x.toNat : Int) = (c.toNat : Int)) ↔ x = c) := fun x => ⟨fun h => UInt8.toNat_inj.1 (by omega), fun h => by rw [h]⟩
  clear hn
  generalize hcn : (c.toNat : Int) = cn at *
  clear hcn
  go_enter Tryz.func211, Tryz.ntmps211
  go_wp2
  go_loopg [5] n (fun gg s5 wr => ∃ k : Nat, k ≤ n ∧ n - k ≤ gg ∧ s5 = .int .i64 k ∧ wr = w ∧ Hid (∀ j (h : j < s.size), j < k → ¬ s[j] = c))
  case atStart => exact ⟨0, Nat.zero_le _, by omega, rfl, rfl, fun j _ hj => absurd hj (Nat.not_lt_zero _)⟩
  case round =>
    obtain ⟨k, hk, hg, rfl, rfl, A⟩ := hrel
    have hsz := HN.out
    by_cases hlt : k < n
    · have hltz : (k : Int) < (n : Int) := by omega
      have hks : k < s.size := by omega
      have hx : ∀ (h : k < s.size), ((s[k]'h).toNat : Int) = bt5 s k := fun h => by unfold bt5; rw [dif_pos h]
      have he := hx hks ▸ HC.out s[k]
      by_cases hq : s[k] = c
      · have hq' : bt5 s k = cn := he.2 hq
        have HQ := Lib.hid hq
        clear hq he
        go_wp2
        go_ret
        refine ⟨?_, rfl⟩
        have : s.data.toList.contains c = true := by
          rw [List.contains_iff_mem, ← HQ.out]
          exact Array.mem_toList_iff.2 (Array.getElem_mem (xs := s.data) (i := k) hks)
        rw [HR.out, this]; rfl
      · have hq' : ¬ bt5 s k = cn := fun h => hq (he.1 h)
        have HQ := Lib.hid hq
        clear hq he
        go_wp2
        go_roundg (n - (k + 1))
        case measure => omega
        case rel =>
          refine ⟨k + 1, by omega, by omega, by go_num, rfl, (show Hid _ from fun j h hj => ?_)⟩
          by_cases e : j = k
          · subst e
            exact HQ.out
          · exact A.out j h (by omega)
    · have hltz : ¬ (k : Int) < (n : Int) := by omega
      obtain rfl : k = n := by omega
      have hrf : r = false := by
        rw [HR.out, Bool.eq_false_iff]
        intro h
        rw [List.contains_iff_mem] at h
        obtain ⟨j, hj, he⟩ := Array.getElem_of_mem (Array.mem_toList_iff.1 h)
        exact A.out j hj (by have : j < s.size := hj; omega) he
      subst hrf
      go_wp2
      go_ret
      exact ⟨rfl, rfl⟩

set_option maxRecDepth 100000 in
theorem of5_calls (s t : ByteArray) (w : World) (hs : s.size ≤ 1000) (ht : t.size ≤ 1000) :
    Calls Tryz.prog 210 #[.string s, .string t] w fun e w' => e = .returned (.bool (s.data.toList.all (fun x => t.data.toList.contains x))) ∧ w' = w := by
  obtain ⟨r, hr⟩ : ∃ r, r = s.data.toList.all (fun x => t.data.toList.contains x) := ⟨_, rfl⟩
  rw [← hr]
  have HR := Lib.hid hr
  have HI := Lib.hid (fun c => in5_calls c t w ht)
  clear hr
  generalize hn : s.size = n at *
  have HN := Lib.hid hn
  clear hn
  go_enter Tryz.func210, Tryz.ntmps210
  go_wp2
  go_loopg [5] n (fun gg s5 wr => ∃ k : Nat, k ≤ n ∧ n - k ≤ gg ∧ s5 = .int .i64 k ∧ wr = w ∧ Hid (∀ j (h : j < s.size), j < k → t.data.toList.contains s[j] = true))
  case atStart => exact ⟨0, Nat.zero_le _, by omega, rfl, rfl, fun j _ hj => absurd hj (Nat.not_lt_zero _)⟩
  case round =>
    obtain ⟨k, hk, hg, rfl, rfl, A⟩ := hrel
    have hsz := HN.out
    by_cases hlt : k < n
    · have hltz : (k : Int) < (n : Int) := by omega
      have hks : k < s.size := by omega
      have hx : ∀ (h : k < s.size), ((s[k]'h).toNat : Int) = bt5 s k := fun h => by unfold bt5; rw [dif_pos h]
      have hcall := hx hks ▸ HI.out s[k]
      cases hq : t.data.toList.contains s[k] with
      | false =>
        rw [hq] at hcall
        have HQ := Lib.hid hq
        have HC := Lib.hid hcall
        clear hq hcall
        go_wp2_with fail
        with_reducible refine HC.out.mono ?_
        rintro e w1 ⟨rfl, rfl⟩
        go_wp2
        go_ret
        refine ⟨?_, rfl⟩
        have : (s.data.toList.all fun x => t.data.toList.contains x) = false := by
          rw [List.all_eq_false]
          exact ⟨s[k], Array.mem_toList_iff.2 (Array.getElem_mem (xs := s.data) (i := k) hks), by rw [HQ.out]; simp⟩
        rw [HR.out, this]; rfl
      | true =>
        rw [hq] at hcall
        have HQ := Lib.hid hq
        have HC := Lib.hid hcall
        clear hq hcall
        go_wp2_with (go_at_call 211; with_reducible refine HC.out.mono ?_; rintro e w1 ⟨rfl, rfl⟩)
        go_roundg (n - (k + 1))
        case measure => omega
        case rel =>
          refine ⟨k + 1, by omega, by omega, by go_num, rfl, (show Hid _ from fun j h hj => ?_)⟩
          by_cases e : j = k
          · subst e
            exact HQ.out
          · exact A.out j h (by omega)
    · have hltz : ¬ (k : Int) < (n : Int) := by omega
      obtain rfl : k = n := by omega
      have hrf : r = true := by
        rw [HR.out, List.all_eq_true]
        intro x hx
        obtain ⟨j, hj, rfl⟩ := Array.getElem_of_mem (Array.mem_toList_iff.1 hx)
        exact A.out j hj (by have : j < s.size := hj; omega)
      subst hrf
      go_wp2
      go_ret
      exact ⟨rfl, rfl⟩

theorem all_bytes {p q : UInt8 → Bool} (h : ∀ n, n < 256 → p (UInt8.ofNat n) = q (UInt8.ofNat n)) (x : UInt8) : p x = q x := by
  have := h x.toNat x.toNat_lt
  rwa [UInt8.ofNat_toNat] at this
theorem let5_has (x : UInt8) : (ByteArray.mk #[97, 98, 99, 100, 101, 102, 103, 104, 105, 106, 107, 108, 109, 110, 111, 112, 113, 114, 115, 116, 117, 118, 119, 120, 121, 122]).data.toList.contains x = letter5 x := all_bytes (p := fun x => (ByteArray.mk #[97, 98, 99, 100, 101, 102, 103, 104, 105, 106, 107, 108, 109, 110, 111, 112, 113, 114, 115, 116, 117, 118, 119, 120, 121, 122]).data.toList.contains x) (by decide +kernel) x
theorem both5_has (x : UInt8) : (ByteArray.mk #[97, 98, 99, 100, 101, 102, 103, 104, 105, 106, 107, 108, 109, 110, 111, 112, 113, 114, 115, 116, 117, 118, 119, 120, 121, 122, 48, 49, 50, 51, 52, 53, 54, 55, 56, 57]).data.toList.contains x = both5 x := all_bytes (p := fun x => (ByteArray.mk #[97, 98, 99, 100, 101, 102, 103, 104, 105, 106, 107, 108, 109, 110, 111, 112, 113, 114, 115, 116, 117, 118, 119, 120, 121, 122, 48, 49, 50, 51, 52, 53, 54, 55, 56, 57]).data.toList.contains x) (by decide +kernel) x
theorem sign5_has (x : UInt8) : (ByteArray.mk #[97, 98, 99, 100, 101, 102, 103, 104, 105, 106, 107, 108, 109, 110, 111, 112, 113, 114, 115, 116, 117, 118, 119, 120, 121, 122, 48, 49, 50, 51, 52, 53, 54, 55, 56, 57, 45, 46]).data.toList.contains x = sign5 x := all_bytes (p := fun x => (ByteArray.mk #[97, 98, 99, 100, 101, 102, 103, 104, 105, 106, 107, 108, 109, 110, 111, 112, 113, 114, 115, 116, 117, 118, 119, 120, 121, 122, 48, 49, 50, 51, 52, 53, 54, 55, 56, 57, 45, 46]).data.toList.contains x) (by decide +kernel) x
theorem hexa5_has (x : UInt8) : (ByteArray.mk #[48, 49, 50, 51, 52, 53, 54, 55, 56, 57, 97, 98, 99, 100, 101, 102]).data.toList.contains x = hexa5 x := all_bytes (p := fun x => (ByteArray.mk #[48, 49, 50, 51, 52, 53, 54, 55, 56, 57, 97, 98, 99, 100, 101, 102]).data.toList.contains x) (by decide +kernel) x

theorem ofsign_calls (s : ByteArray) (w : World) (hs : s.size ≤ 1000) :
    Calls Tryz.prog 210 #[.string s, .string ⟨#[97, 98, 99, 100, 101, 102, 103, 104, 105, 106, 107, 108, 109, 110, 111, 112, 113, 114, 115, 116, 117, 118, 119, 120, 121, 122, 48, 49, 50, 51, 52, 53, 54, 55, 56, 57, 45, 46]⟩] w fun e w' => e = .returned (.bool (s.data.toList.all sign5)) ∧ w' = w := by
  have h := of5_calls s ⟨#[97, 98, 99, 100, 101, 102, 103, 104, 105, 106, 107, 108, 109, 110, 111, 112, 113, 114, 115, 116, 117, 118, 119, 120, 121, 122, 48, 49, 50, 51, 52, 53, 54, 55, 56, 57, 45, 46]⟩ w hs (by decide)
  rwa [funext sign5_has] at h
theorem ofhexa_calls (s : ByteArray) (w : World) (hs : s.size ≤ 1000) :
    Calls Tryz.prog 210 #[.string s, .string ⟨#[48, 49, 50, 51, 52, 53, 54, 55, 56, 57, 97, 98, 99, 100, 101, 102]⟩] w fun e w' => e = .returned (.bool (s.data.toList.all hexa5)) ∧ w' = w := by
  have h := of5_calls s ⟨#[48, 49, 50, 51, 52, 53, 54, 55, 56, 57, 97, 98, 99, 100, 101, 102]⟩ w hs (by decide)
  rwa [funext hexa5_has] at h
theorem inlet_calls (c : UInt8) (w : World) :
    Calls Tryz.prog 211 #[.int .u8 c.toNat, .string ⟨#[97, 98, 99, 100, 101, 102, 103, 104, 105, 106, 107, 108, 109, 110, 111, 112, 113, 114, 115, 116, 117, 118, 119, 120, 121, 122]⟩] w fun e w' => e = .returned (.bool (letter5 c)) ∧ w' = w := by
  have h := in5_calls c ⟨#[97, 98, 99, 100, 101, 102, 103, 104, 105, 106, 107, 108, 109, 110, 111, 112, 113, 114, 115, 116, 117, 118, 119, 120, 121, 122]⟩ w (by decide)
  rwa [let5_has] at h
theorem inboth_calls (c : UInt8) (w : World) :
    Calls Tryz.prog 211 #[.int .u8 c.toNat, .string ⟨#[97, 98, 99, 100, 101, 102, 103, 104, 105, 106, 107, 108, 109, 110, 111, 112, 113, 114, 115, 116, 117, 118, 119, 120, 121, 122, 48, 49, 50, 51, 52, 53, 54, 55, 56, 57]⟩] w fun e w' => e = .returned (.bool (both5 c)) ∧ w' = w := by
  have h := in5_calls c ⟨#[97, 98, 99, 100, 101, 102, 103, 104, 105, 106, 107, 108, 109, 110, 111, 112, 113, 114, 115, 116, 117, 118, 119, 120, 121, 122, 48, 49, 50, 51, 52, 53, 54, 55, 56, 57]⟩ w (by decide)
  rwa [both5_has] at h

/-- A truth is told, nothing has turned. -/
def Still5 (b : Bool) (w : World) (e : Ending) (w' : World) : Prop := e = .returned (.bool b) ∧ w' = w

set_option maxRecDepth 100000 in
theorem rhash_calls (s : ByteArray) (w : World) (hs : s.size ≤ 1000) :
    Calls Tryz.prog 123 #[.string s] w (Still5 (hash5 s.data.toList) w) := by
  have HO := Lib.hid (ofhexa_calls s w hs)
  have he : hash5 s.data.toList = (decide (1 ≤ s.size) && decide (s.size ≤ 12) && s.data.toList.all hexa5) := by unfold hash5; rw [size_list]
  rw [he]
  clear he
  generalize s.data.toList.all hexa5 = r at *
  generalize hn : s.size = n at *
  by_cases h1 : 1 ≤ n
  · have z1 : (n : Int) ≥ 1 := by omega
    by_cases h12 : n ≤ 12
    · rw [decide_eq_true h1, decide_eq_true h12, Bool.true_and, Bool.true_and]
      have z : (n : Int) ≤ 12 := by omega
      go_enter Tryz.func123, Tryz.ntmps123
      go_wp2_with fail
      with_reducible refine HO.out.mono ?_
      rintro e w1 ⟨rfl, rfl⟩
      go_wp2
      go_ret
      exact ⟨rfl, rfl⟩
    · rw [decide_eq_false h12, Bool.and_false, Bool.false_and]
      have z : ¬ (n : Int) ≤ 12 := by omega
      go_enter Tryz.func123, Tryz.ntmps123
      go_wp2
      go_ret
      exact ⟨rfl, rfl⟩
  · rw [decide_eq_false h1, Bool.false_and, Bool.false_and]
    have z : ¬ (n : Int) ≥ 1 := by omega
    go_enter Tryz.func123, Tryz.ntmps123
    go_wp2
    go_ret
    exact ⟨rfl, rfl⟩

set_option maxRecDepth 100000 in
theorem rname_calls (s : ByteArray) (w : World) (hs : s.size ≤ 1000) :
    Calls Tryz.prog 122 #[.string s] w (Still5 (name5 s.data.toList) w) := by
  have HO := Lib.hid (ofsign_calls s w hs)
  by_cases h1 : 1 ≤ s.size
  · have z1 : (s.size : Int) ≥ 1 := by omega
    have hpos : 0 < s.size := by omega
    have he : name5 s.data.toList = (decide (s.size ≤ 12) && s.data.toList.all sign5 && letter5 s[0] && both5 s[s.size - 1]) := by
      unfold name5 pref5
      rw [head_at s hpos, last_at s hpos, size_list, decide_eq_true h1, Bool.true_and]
    rw [he]
    clear he
    have hb0 : ∀ (h : 0 < s.size), ((s[0]'h).toNat : Int) = bt5 s 0 := fun h => bt5_eq s 0 h
    have hb1 : ∀ (h : s.size - 1 < s.size), ((s[s.size - 1]'h).toNat : Int) = bt5 s (s.size - 1) := fun h => bt5_eq s _ h
    have HI0 := Lib.hid (hb0 hpos ▸ inlet_calls s[0] w)
    have HI1 := Lib.hid (hb1 (by omega) ▸ inboth_calls s[s.size - 1] w)
    generalize s.data.toList.all sign5 = r at *
    generalize letter5 s[0] = b0 at *
    generalize both5 s[s.size - 1] = b1 at *
    generalize bt5 s 0 = n0 at *
    generalize hn1 : bt5 s (s.size - 1) = n1 at *
    clear hn1
    have zz : (s.size : Int) - 1 = ((s.size - 1 : Nat) : Int) := by omega
    by_cases h12 : s.size ≤ 12
    · rw [decide_eq_true h12, Bool.true_and]
      have z : (s.size : Int) ≤ 12 := by omega
      cases r with
      | false =>
        show Calls _ _ _ _ (Still5 false w)
        go_enter Tryz.func122, Tryz.ntmps122
        go_wp2_with fail
        with_reducible refine HO.out.mono ?_
        rintro e w1 ⟨rfl, rfl⟩
        go_wp2
        go_ret
        exact ⟨rfl, rfl⟩
      | true =>
        cases b0 with
        | false =>
          show Calls _ _ _ _ (Still5 false w)
          go_enter Tryz.func122, Tryz.ntmps122
          go_wp2_with fail
          with_reducible refine HO.out.mono ?_
          rintro e w1 ⟨rfl, rfl⟩
          go_wp2_with fail
          with_reducible refine HI0.out.mono ?_
          rintro e w1 ⟨rfl, rfl⟩
          go_wp2
          go_ret
          exact ⟨rfl, rfl⟩
        | true =>
          show Calls _ _ _ _ (Still5 b1 w)
          go_enter Tryz.func122, Tryz.ntmps122
          go_wp2_with fail
          with_reducible refine HO.out.mono ?_
          rintro e w1 ⟨rfl, rfl⟩
          go_wp2_with fail
          with_reducible refine HI0.out.mono ?_
          rintro e w1 ⟨rfl, rfl⟩
          go_wp2_with fail
          with_reducible refine HI1.out.mono ?_
          rintro e w1 ⟨rfl, rfl⟩
          go_wp2
          go_ret
          exact ⟨rfl, rfl⟩
    · rw [decide_eq_false h12, Bool.false_and, Bool.false_and, Bool.false_and]
      have z : ¬ (s.size : Int) ≤ 12 := by omega
      go_enter Tryz.func122, Tryz.ntmps122
      go_wp2
      go_ret
      exact ⟨rfl, rfl⟩
  · have he : name5 s.data.toList = false := by
      unfold name5
      rw [size_list, decide_eq_false h1]; rfl
    rw [he]
    have z : ¬ (s.size : Int) ≥ 1 := by omega
    go_enter Tryz.func122, Tryz.ntmps122
    go_wp2
    go_ret
    exact ⟨rfl, rfl⟩
end Go.Proofs.YtclnkboejbnfnaaGreatDoor

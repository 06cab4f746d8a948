/-
  The little functions of package user: the first error of several, errors unless something holds, names and rows that are asked.
  Conditions: texts and rows are no longer than they may be.
-/
import Derived.Test.YtclnkboejbnfnaaGreatDoorMail
import Derived.Test.YtclnkboejbnfnaaGreatDoorWriteC
namespace Go.Proofs.YtclnkboejbnfnaaGreatDoor
open Go.RowKit

/-- The first error of several. -/
def first6 : List Int → Int
  | [] => 0
  | e :: l => if e = 0 then first6 l else e

set_option maxRecDepth 100000 in
theorem first6_calls (B n cap : Nat) (es : List Int) (w : World) (hl : n = es.length) (hn : n ≤ 1000) (hc : ∀ j (h : j < es.length), w.cell? ⟨B, j, none⟩ = some (.int .i64 es[j])) :
    Calls Tryz.prog 200 #[.slice (some ⟨B, 0, none⟩) n cap] w fun e w' => e = .returned (.int .i64 (first6 es)) ∧ w' = w := by
  have HC := Lib.hid hc
  have HL := Lib.hid hl
  clear hc hl
  generalize hr : first6 es = r
  have HR := Lib.hid hr
  clear hr
  go_enter Tryz.func200, Tryz.ntmps200
  go_wp2
  go_loopg [4, 7] n (fun gg _ s7 wr => ∃ k : Nat, k ≤ n ∧ n - k ≤ gg ∧ s7 = .int .i64 k ∧ wr = w ∧ Hid (first6 (es.drop k) = r))
  case atStart => exact ⟨0, Nat.zero_le _, by omega, rfl, rfl, HR⟩
  case round =>
    obtain ⟨k, hk, hg, rfl, rfl, A⟩ := hrel
    by_cases hlt : k < n
    · have hltz : (k : Int) < (n : Int) := by omega
      have hkl : k < es.length := HL.out ▸ hlt
      have hcell := HC.out k hkl
      have hA : (if es[k] = 0 then first6 (es.drop (k + 1)) else es[k]) = r := by
        have := A.out
        rw [List.drop_eq_getElem_cons hkl] at this
        exact this
      generalize es[k] = x at *
      by_cases h0 : x = 0
      · rw [if_pos h0] at hA
        have HA := Lib.hid hA
        clear hA A
        subst h0
        go_wp2
        go_roundg (n - (k + 1))
        case measure => omega
        case rel => exact ⟨k + 1, by omega, by omega, by go_num, rfl, HA⟩
      · rw [if_neg h0] at hA
        subst hA
        clear A
        go_wp2
        go_ret
        exact ⟨rfl, rfl⟩
    · have hltz : ¬ (k : Int) < (n : Int) := by omega
      have hA : (0 : Int) = r := by
        have := A.out
        rw [List.drop_eq_nil_of_le (by have := HL.out; omega)] at this
        exact this
      subst hA
      clear A
      go_wp2
      go_ret
      exact ⟨rfl, rfl⟩

set_option maxRecDepth 100000 in
theorem unless6_calls (b : Bool) (n : Int) (w : World) : Calls Tryz.prog 250 #[.bool b, .int .i64 n] w fun e w' => e = .returned (.int .i64 (err5 b n)) ∧ w' = w := by
  cases b with
  | true =>
    show Calls _ _ _ _ fun e w' => e = .returned (.int .i64 0) ∧ w' = w
    go_enter Tryz.func250, Tryz.ntmps250
    go_wp2
    go_ret
    exact ⟨rfl, rfl⟩
  | false =>
    show Calls _ _ _ _ fun e w' => e = .returned (.int .i64 n) ∧ w' = w
    go_enter Tryz.func250, Tryz.ntmps250
    go_wp2
    go_ret
    exact ⟨rfl, rfl⟩

/-- A schema that there is. -/
def know6 (s : Int) : Bool := decide (s = 1) || decide (s = 2)

set_option maxRecDepth 100000 in
theorem known6_calls (s : Int) (w : World) : Calls Tryz.prog 201 #[.int .i64 s] w fun e w' => e = .returned (.int .i64 (err5 (know6 s) 6)) ∧ w' = w := by
  have HU : Hid (∀ b, Calls Tryz.prog 250 #[.bool b, .int .i64 6] w fun e w' => e = .returned (.int .i64 (err5 b 6)) ∧ w' = w) := fun b => unless6_calls b 6 w
  obtain ⟨r, hr⟩ : ∃ r, r = err5 (know6 s) 6 := ⟨_, rfl⟩
  rw [← hr]
  by_cases h1 : s = 1
  · subst h1
    have HU1 : Hid (Calls Tryz.prog 250 #[.bool true, .int .i64 6] w fun e w' => e = .returned (.int .i64 r) ∧ w' = w) := by
      have := HU.out true
      rw [hr]; exact this
    clear HU hr
    go_enter Tryz.func201, Tryz.ntmps201
    go_wp2_with fail
    with_reducible refine HU1.out.mono ?_
    rintro e w1 ⟨rfl, rfl⟩
    go_wp2
    go_ret
    exact ⟨rfl, rfl⟩
  · by_cases h2 : s = 2
    · subst h2
      have HU1 : Hid (Calls Tryz.prog 250 #[.bool true, .int .i64 6] w fun e w' => e = .returned (.int .i64 r) ∧ w' = w) := by
        have := HU.out true
        rw [hr]; exact this
      clear HU hr h1
      go_enter Tryz.func201, Tryz.ntmps201
      go_wp2_with fail
      with_reducible refine HU1.out.mono ?_
      rintro e w1 ⟨rfl, rfl⟩
      go_wp2
      go_ret
      exact ⟨rfl, rfl⟩
    · have HU1 : Hid (Calls Tryz.prog 250 #[.bool false, .int .i64 6] w fun e w' => e = .returned (.int .i64 r) ∧ w' = w) := by
        have := HU.out false
        rw [hr]
        have e : know6 s = false := by simp [know6, h1, h2]
        rw [e]; exact this
      clear HU hr
      have d1 : (s == 1) = false := by simpa using h1
      have d2 : (s == 2) = false := by simpa using h2
      go_enter Tryz.func201, Tryz.ntmps201
      go_wp2_with fail
      with_reducible refine HU1.out.mono ?_
      rintro e w1 ⟨rfl, rfl⟩
      go_wp2
      go_ret
      exact ⟨rfl, rfl⟩

set_option maxRecDepth 100000 in
theorem few6_calls (A : Option Addr) (n c : Nat) (w : World) : Calls Tryz.prog 204 #[.slice A n c] w fun e w' => e = .returned (.int .i64 (err5 (decide (n ≤ 6)) 7)) ∧ w' = w := by
  by_cases h : n ≤ 6
  · have HU := Lib.hid (unless6_calls true 7 w)
    rw [decide_eq_true h]
    have z : (n : Int) ≤ 6 := by omega
    generalize err5 true 7 = r at *
    go_enter Tryz.func204, Tryz.ntmps204
    go_wp2_with fail
    with_reducible refine HU.out.mono ?_
    rintro e w1 ⟨rfl, rfl⟩
    go_wp2
    go_ret
    exact ⟨rfl, rfl⟩
  · have HU := Lib.hid (unless6_calls false 7 w)
    rw [decide_eq_false h]
    have z : ¬ (n : Int) ≤ 6 := by omega
    generalize err5 false 7 = r at *
    go_enter Tryz.func204, Tryz.ntmps204
    go_wp2_with fail
    with_reducible refine HU.out.mono ?_
    rintro e w1 ⟨rfl, rfl⟩
    go_wp2
    go_ret
    exact ⟨rfl, rfl⟩

theorem RdS.at6 {w : World} {A : Option Addr} {ss : List ByteArray} (h : RdS w A ss) (k : Nat) (hk : k < ss.length) :
    ∃ (b off : Nat), A = some ⟨b, off, none⟩ ∧ w.cell? ⟨b, off + k, none⟩ = some (.string ss[k]) := by
  obtain ⟨b, off, rfl, _, hc⟩ := h (by intro e; subst e; simp at hk)
  exact ⟨b, off, rfl, hc k hk⟩
theorem RdS.below {w w' : World} {A : Option Addr} {ss : List ByteArray} (h : RdS w A ss) (hb : Below w.heap.size w w') : RdS w' A ss := h.turns (Turns.of_below hb (fun _ => False)) (fun _ _ _ f => f)

/-- All are names. -/
def names6 (ss : List ByteArray) : Bool := ss.all fun s => name5 s.data.toList

set_option maxRecDepth 100000 in
theorem names6_calls (A : Option Addr) (n c : Nat) (ss : List ByteArray) (w : World) (hl : n = ss.length) (hr : RdS w A ss) (hm : n ≤ 9223372036854775807) (hs : ∀ s ∈ ss, s.size ≤ 9223372036854775807) :
    Calls Tryz.prog 205 #[.slice A n c] w (Errs5 (err5 (names6 ss) 10) w) := by
  have HR := Lib.hid hr
  have HL := Lib.hid hl
  have HS := Lib.hid hs
  clear hr hl hs
  obtain ⟨r, hr⟩ : ∃ r, r = err5 (names6 ss) 10 := ⟨_, rfl⟩
  rw [← hr]
  have HE := Lib.hid hr
  clear hr
  go_enter Tryz.func205, Tryz.ntmps205
  go_wp2
  go_loopg [4, 5, 8] n (fun gg _ _ s8 wr => ∃ k : Nat, k ≤ n ∧ n - k ≤ gg ∧ s8 = .int .i64 k ∧ Hid (Below w.heap.size w wr) ∧ Hid (∀ j (h : j < ss.length), j < k → name5 ss[j].data.toList = true))
  case atStart => exact ⟨0, Nat.zero_le _, by omega, rfl, Below.refl _ _, fun j _ hj => absurd hj (Nat.not_lt_zero _)⟩
  case round =>
    obtain ⟨k, hk, hg, rfl, HW, A⟩ := hrel
    by_cases hlt : k < n
    · have hltz : (k : Int) < (n : Int) := by omega
      have hkl : k < ss.length := HL.out ▸ hlt
      obtain ⟨b, off, rfl, hcell⟩ := (HR.out.below HW.out).at6 k hkl
      have HN := Lib.hid (Name_calls ss[k] wr (HS.out _ (List.getElem_mem hkl)))
      have HX : Hid (name5 ss[k].data.toList = true → ∀ j (h : j < ss.length), j < k + 1 → name5 ss[j].data.toList = true) := fun hq j h hj => by
        by_cases e : j = k
        · subst e; exact hq
        · exact A.out j h (by omega)
      have HF : Hid (name5 ss[k].data.toList = false → r = 10) := fun hf => by
        rw [HE.out]
        have : names6 ss = false := List.all_eq_false.2 ⟨ss[k], List.getElem_mem hkl, by rw [hf]; simp⟩
        rw [this]; rfl
      cases hq : name5 ss[k].data.toList with
      | true =>
        rw [hq] at HN
        have HY := Lib.hid (HX.out hq)
        clear hq HX HF A
        generalize ss[k] = x at *
        have HN2 : Hid (Calls Tryz.prog 81 #[.string x] wr (Errs5 0 wr)) := HN
        clear HN
        go_wp2_with (go_at_call 81; (with_reducible refine HN2.out.mono ?_); rintro e w3 ⟨rfl, hb⟩; have HB3 := Lib.hid (below_next HW.out hb); clear hb)
        go_roundg (n - (k + 1))
        case measure => omega
        case rel => exact ⟨k + 1, by omega, by omega, by go_num, HB3, HY⟩
      | false =>
        rw [hq] at HN
        have hr10 : r = 10 := HF.out hq
        subst hr10
        clear hq HX HF A
        generalize ss[k] = x at *
        have HN2 : Hid (Calls Tryz.prog 81 #[.string x] wr (Errs5 10 wr)) := HN
        clear HN
        go_wp2_with (go_at_call 81; (with_reducible refine HN2.out.mono ?_); rintro e w3 ⟨rfl, hb⟩; have HB3 := Lib.hid (below_next HW.out hb); clear hb)
        go_ret
        exact ⟨rfl, HB3.out⟩
    · have hltz : ¬ (k : Int) < (n : Int) := by omega
      obtain rfl : k = n := by omega
      have hr0 : r = 0 := by
        rw [HE.out]
        have : names6 ss = true := by
          unfold names6
          rw [List.all_eq_true]
          intro x hx
          obtain ⟨j, hj, rfl⟩ := List.getElem_of_mem hx
          exact A.out j hj (by have := HL.out; omega)
        rw [this]; rfl
      subst hr0
      clear A
      go_wp2
      go_ret
      exact ⟨rfl, HW.out⟩
end Go.Proofs.YtclnkboejbnfnaaGreatDoor

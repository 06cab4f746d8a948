/-
  Functions that ask something ahead of a deed (package elder): each tells an error's number, or none; several, one behind the other; a deed behind them.
  Conditions: none beyond each theorem's own.
-/
import Derived.Test.YtclnkboejbnfnaaGreatDoorNames
namespace Go.Proofs.YtclnkboejbnfnaaGreatDoor
open Go.RowKit

/-- The first error of several. -/
def first7 : List Int → Int
  | [] => 0
  | e :: l => if e = 0 then first7 l else e

/-- The value v is a function that tells the error n, now and in every later world. -/
def Ask7 (v : Value) (n : Int) (w : World) : Prop :=
  ∃ g lb, v = .func (.func g) #[] lb ∧ (∀ args w, (callFunc g args).run Tryz.prog w = .ok (.enter g args) w) ∧
    ∀ W : World, Below w.heap.size w W → Calls Tryz.prog g lb W (Errs5 n W)
theorem Ask7.later {v : Value} {n : Int} {w W : World} (h : Ask7 v n w) (hb : Below w.heap.size w W) : Ask7 v n W := by
  obtain ⟨g, lb, e, eg, hp⟩ := h
  exact ⟨g, lb, e, eg, fun W' hb' => hp W' (below_next hb hb')⟩
/-- .. that tells the truth b. -/
def Holds7 (v : Value) (b : Bool) (w : World) : Prop :=
  ∃ g lb, v = .func (.func g) #[] lb ∧ (∀ args w, (callFunc g args).run Tryz.prog w = .ok (.enter g args) w) ∧
    ∀ W : World, Below w.heap.size w W → Calls Tryz.prog g lb W (Tells5 b W)
theorem Holds7.later {v : Value} {b : Bool} {w W : World} (h : Holds7 v b w) (hb : Below w.heap.size w W) : Holds7 v b W := by
  obtain ⟨g, lb, e, eg, hp⟩ := h
  exact ⟨g, lb, e, eg, fun W' hb' => hp W' (below_next hb hb')⟩
/-- A function value is told that asks; nothing that was there has turned. -/
def Makes7 (n : Int) (w : World) (e : Ending) (w' : World) : Prop := ∃ g lb, e = .returned (.func (.func g) #[] lb) ∧ Ask7 (.func (.func g) #[] lb) n w' ∧ Below w.heap.size w w'

set_option maxRecDepth 100000 in
theorem isName1_calls (s : ByteArray) (C : Nat) (w : World) (hs : s.size ≤ 9223372036854775807) (hc : w.cell? ⟨C, 0, none⟩ = some (.string s)) :
    Calls Tryz.prog 162 #[.pointer (some ⟨C, 0, none⟩)] w (Errs5 (err5 (name5 s.data.toList) 10) w) := by
  have HN := Lib.hid (Name_calls s w hs)
  generalize err5 (name5 s.data.toList) 10 = r at *
  go_enter Tryz.func162, Tryz.ntmps162
  go_wp2_with fail
  with_reducible refine HN.out.mono ?_
  rintro e w1 ⟨rfl, hb⟩
  have HB := Lib.hid hb
  clear hb HN hc
  go_wp2
  go_ret
  exact ⟨rfl, HB.out⟩
set_option maxRecDepth 100000 in
theorem isName7_calls (s : ByteArray) (w : World) (hs : s.size ≤ 9223372036854775807) : Calls Tryz.prog 78 #[.string s] w (Makes7 (err5 (name5 s.data.toList) 10) w) := by
  have hmf := mkf
  go_enter Tryz.func78, Tryz.ntmps78
  go_wp2
  go_ret
  refine ⟨_, _, rfl, ?_, below_alloc (Below.refl _ _) _⟩
  refine ⟨_, _, rfl, enters_of Tryz.func162 (by kernel_rfl) rfl, fun W hb => ?_⟩
  exact isName1_calls s _ W hs ((hb.cell (p := ⟨_, 0, none⟩) (by simp)).trans (by simp))

set_option maxRecDepth 100000 in
theorem isSum1_calls (s : ByteArray) (C : Nat) (w : World) (hs : s.size ≤ 9223372036854775807) (hc : w.cell? ⟨C, 0, none⟩ = some (.string s)) :
    Calls Tryz.prog 198 #[.pointer (some ⟨C, 0, none⟩)] w (Errs5 (err5 (hash5 s.data.toList) 4) w) := by
  have HN := Lib.hid (Hash_calls s w hs)
  generalize err5 (hash5 s.data.toList) 4 = r at *
  go_enter Tryz.func198, Tryz.ntmps198
  go_wp2_with fail
  with_reducible refine HN.out.mono ?_
  rintro e w1 ⟨rfl, hb⟩
  have HB := Lib.hid hb
  clear hb HN hc
  go_wp2
  go_ret
  exact ⟨rfl, HB.out⟩
set_option maxRecDepth 100000 in
theorem isSum7_calls (s : ByteArray) (w : World) (hs : s.size ≤ 9223372036854775807) : Calls Tryz.prog 113 #[.string s] w (Makes7 (err5 (hash5 s.data.toList) 4) w) := by
  have hmf := mkf
  go_enter Tryz.func113, Tryz.ntmps113
  go_wp2
  go_ret
  refine ⟨_, _, rfl, ?_, below_alloc (Below.refl _ _) _⟩
  refine ⟨_, _, rfl, enters_of Tryz.func198 (by kernel_rfl) rfl, fun W hb => ?_⟩
  exact isSum1_calls s _ W hs ((hb.cell (p := ⟨_, 0, none⟩) (by simp)).trans (by simp))

set_option maxRecDepth 100000 in
theorem isPrefix1_calls (s : ByteArray) (C : Nat) (w : World) (hs : s.size ≤ 9223372036854775807) (hc : w.cell? ⟨C, 0, none⟩ = some (.string s)) :
    Calls Tryz.prog 170 #[.pointer (some ⟨C, 0, none⟩)] w (Errs5 (err5 (pref5 s.data.toList) 10) w) := by
  have HN := Lib.hid (Prefix_calls s w hs)
  generalize err5 (pref5 s.data.toList) 10 = r at *
  go_enter Tryz.func170, Tryz.ntmps170
  go_wp2_with fail
  with_reducible refine HN.out.mono ?_
  rintro e w1 ⟨rfl, hb⟩
  have HB := Lib.hid hb
  clear hb HN hc
  go_wp2
  go_ret
  exact ⟨rfl, HB.out⟩
set_option maxRecDepth 100000 in
theorem isPrefix7_calls (s : ByteArray) (w : World) (hs : s.size ≤ 9223372036854775807) : Calls Tryz.prog 84 #[.string s] w (Makes7 (err5 (pref5 s.data.toList) 10) w) := by
  have hmf := mkf
  go_enter Tryz.func84, Tryz.ntmps84
  go_wp2
  go_ret
  refine ⟨_, _, rfl, ?_, below_alloc (Below.refl _ _) _⟩
  refine ⟨_, _, rfl, enters_of Tryz.func170 (by kernel_rfl) rfl, fun W hb => ?_⟩
  exact isPrefix1_calls s _ W hs ((hb.cell (p := ⟨_, 0, none⟩) (by simp)).trans (by simp))

set_option maxRecDepth 100000 in
theorem unless71_calls (B C : Nat) (v : Value) (b : Bool) (n : Int) (w : World) (hB : w.cell? ⟨B, 0, none⟩ = some v) (hC : w.cell? ⟨C, 0, none⟩ = some (.int .i64 n)) (hv : Holds7 v b w) :
    Calls Tryz.prog 208 #[.pointer (some ⟨B, 0, none⟩), .pointer (some ⟨C, 0, none⟩)] w (Errs5 (err5 b n) w) := by
  obtain ⟨g, lb, rfl, eg, hp⟩ := hv
  have HC := Lib.hid (hp w (Below.refl _ _))
  have hlt : C < w.heap.size := World.block_lt_of_cell? w _ hC
  have HCC := Lib.hid hC
  clear hp hC
  cases b with
  | true =>
    show Calls _ _ _ _ (Errs5 0 w)
    go_enter Tryz.func208, Tryz.ntmps208
    go_wp2_with (go_at_fn g; refine HC.out.mono ?_; rintro e w1 ⟨rfl, hb⟩; have HB := Lib.hid hb; clear hb)
    go_ret
    exact ⟨rfl, HB.out⟩
  | false =>
    show Calls _ _ _ _ (Errs5 n w)
    go_enter Tryz.func208, Tryz.ntmps208
    go_wp2_with (go_at_fn g; refine HC.out.mono ?_; rintro e w1 ⟨rfl, hb⟩; have HB := Lib.hid hb; have c1 := (hb.cell (p := ⟨C, 0, none⟩) hlt).trans HCC.out; clear hb)
    go_ret
    exact ⟨rfl, HB.out⟩

set_option maxRecDepth 100000 in
theorem unless7_calls (g : Nat) (lb : Array Value) (b : Bool) (n : Int) (w : World) (hv : Holds7 (.func (.func g) #[] lb) b w) : Calls Tryz.prog 119 #[.func (.func g) #[] lb, .int .i64 n] w (Makes7 (err5 b n) w) := by
  have hmf := mkf
  have HV := Lib.hid hv
  clear hv
  go_enter Tryz.func119, Tryz.ntmps119
  go_wp2
  go_ret
  refine ⟨_, _, rfl, ?_, below_alloc (below_alloc (Below.refl _ _) _) _⟩
  refine ⟨_, _, rfl, enters_of Tryz.func208 (by kernel_rfl) rfl, fun W hb => ?_⟩
  exact unless71_calls _ _ _ b n W ((hb.cell (p := ⟨_, 0, none⟩) (by simp; try omega)).trans (by simp)) ((hb.cell (p := ⟨_, 0, none⟩) (by simp; try omega)).trans (by simp)) (HV.out.later (below_next (below_alloc (below_alloc (Below.refl _ _) _) _) hb))

set_option maxRecDepth 100000 in
theorem fit71_calls (C : Nat) (n : Int) (w : World) (hC : w.cell? ⟨C, 0, none⟩ = some (.int .i64 n)) : Calls Tryz.prog 120 #[.pointer (some ⟨C, 0, none⟩)] w (Tells5 (decide (n ≤ 12)) w) := by
  by_cases h : n ≤ 12
  all_goals
    rw [show decide (n ≤ 12) = _ from by first | exact decide_eq_true h | exact decide_eq_false h]
    go_enter Tryz.func120, Tryz.ntmps120
    go_wp2
    all_goals first | (exfalso; omega) | (go_ret; exact ⟨by simp, Below.refl _ _⟩)
set_option maxRecDepth 100000 in
theorem fit7_calls (n : Int) (w : World) : Calls Tryz.prog 47 #[.int .i64 n] w (Makes7 (err5 (decide (n ≤ 12)) 7) w) := by
  have hmf := mkf
  have HU : Hid (∀ W, Below w.heap.size (w.alloc (.cells #[.int .i64 n] 3)) W → Calls Tryz.prog 119 #[.func (.func 120) #[] #[.pointer (some ⟨w.heap.size, 0, none⟩)], .int .i64 7] (w.alloc (.cells #[.int .i64 n] 3)) (Makes7 (err5 (decide (n ≤ 12)) 7) (w.alloc (.cells #[.int .i64 n] 3)))) := fun _ _ =>
    unless7_calls _ _ _ _ _ ⟨_, _, rfl, enters_of Tryz.func120 (by kernel_rfl) rfl, fun W hb => fit71_calls _ n W ((hb.cell (p := ⟨_, 0, none⟩) (by simp)).trans (by simp))⟩
  have HU2 := Lib.hid (HU.out _ (Below.refl _ _))
  clear HU
  generalize err5 (decide (n ≤ 12)) 7 = r at *
  go_enter Tryz.func47, Tryz.ntmps47
  go_wp2_with fail
  with_reducible refine HU2.out.mono ?_
  rintro e w1 ⟨g, lb, rfl, ha, hb⟩
  have HA := Lib.hid ha
  have HB := Lib.hid hb
  clear ha hb HU2
  go_wp2
  go_ret
  exact ⟨g, lb, rfl, HA.out, below_next (below_alloc (Below.refl _ _) _) HB.out⟩

/-- Askers in a row at block B. -/
def AskRow7 (w : World) (B : Nat) (l : List (Value × Int)) : Prop := B < w.heap.size ∧ ∀ j (h : j < l.length), w.cell? ⟨B, j, none⟩ = some l[j].1 ∧ Ask7 l[j].1 l[j].2 w
theorem AskRow7.later {w W : World} {B : Nat} {l : List (Value × Int)} (h : AskRow7 w B l) (hb : Below w.heap.size w W) : AskRow7 W B l :=
  ⟨Nat.lt_of_lt_of_le h.1 hb.size, fun j hj => ⟨(hb.cell (p := ⟨B, j, none⟩) h.1).trans (h.2 j hj).1, (h.2 j hj).2.later hb⟩⟩

set_option maxRecDepth 100000 in
theorem first7_calls (B n cap : Nat) (l : List (Value × Int)) (w : World) (hl : n = l.length) (hn : n ≤ 1000) (hr : AskRow7 w B l) :
    Calls Tryz.prog 44 #[.slice (some ⟨B, 0, none⟩) n cap] w (Errs5 (first7 (l.map (·.2))) w) := by
  have HR := Lib.hid hr
  have HL := Lib.hid hl
  clear hr hl
  obtain ⟨r, hr⟩ : ∃ r, r = first7 (l.map (·.2)) := ⟨_, rfl⟩
  rw [← hr]
  have HRR := Lib.hid hr
  clear hr
  go_enter Tryz.func44, Tryz.ntmps44
  go_wp2
  go_loopg [4, 5, 8] n (fun gg _ _ s8 wr => ∃ kk : Nat, kk ≤ n ∧ n - kk ≤ gg ∧ s8 = .int .i64 kk ∧ Hid (Below w.heap.size w wr) ∧ Hid (r = first7 ((l.map (·.2)).drop kk)))
  case atStart => exact ⟨0, Nat.zero_le _, by omega, rfl, Below.refl _ _, HRR.out⟩
  case round =>
    obtain ⟨kk, hkk, hg, rfl, HW, A⟩ := hrel
    by_cases hlt : kk < n
    · have hltz : (kk : Int) < (n : Int) := by omega
      have hk : kk < l.length := HL.out ▸ hlt
      obtain ⟨hcell, g, lb, hv, eg, hp⟩ := (HR.out.later HW.out).2 kk hk
      have hcall := hp wr (Below.refl _ _)
      rw [hv] at hcell
      have HC := Lib.hid hcall
      have hA : r = (if l[kk].2 = 0 then first7 ((l.map (·.2)).drop (kk + 1)) else l[kk].2) := by
        have := A.out
        rw [List.drop_eq_getElem_cons (by simpa using hk), List.getElem_map] at this
        exact this
      clear hp hcall hv A
      generalize l[kk].2 = x at *
      by_cases h0 : x = 0
      · rw [if_pos h0] at hA
        have HA := Lib.hid hA
        subst h0
        clear hA
        go_wp2_with (go_at_fn g; refine HC.out.mono ?_; rintro e w' ⟨rfl, hb⟩; have HB := Lib.hid (below_next HW.out hb); clear hb)
        go_roundg (n - (kk + 1))
        case measure => omega
        case rel => exact ⟨kk + 1, by omega, by omega, by go_num, HB, HA⟩
      · rw [if_neg h0] at hA
        subst hA
        go_wp2_with (go_at_fn g; refine HC.out.mono ?_; rintro e w' ⟨rfl, hb⟩; have HB := Lib.hid (below_next HW.out hb); clear hb)
        go_ret
        exact ⟨rfl, HB.out⟩
    · have hltz : ¬ (kk : Int) < (n : Int) := by omega
      have hA : r = 0 := by
        have := A.out
        rw [List.drop_eq_nil_of_le (by have := HL.out; simp; omega)] at this
        exact this
      subst hA
      clear A
      go_wp2
      go_ret
      exact ⟨rfl, HW.out⟩

set_option maxRecDepth 100000 in
theorem do7_bad (B n cap : Nat) (l : List (Value × Int)) (v : Value) (w : World) (hl : n = l.length) (hn : n ≤ 1000) (hr : AskRow7 w B l) (h0 : first7 (l.map (·.2)) ≠ 0) :
    Calls Tryz.prog 112 #[v, .slice (some ⟨B, 0, none⟩) n cap] w (Errs5 (first7 (l.map (·.2))) w) := by
  have HF := Lib.hid (first7_calls B n cap l w hl hn hr)
  generalize first7 (l.map (·.2)) = r at *
  have h1 : (r == 0) = false := by simpa using h0
  clear hl hr
  go_enter Tryz.func112, Tryz.ntmps112
  go_wp2_with fail
  with_reducible refine HF.out.mono ?_
  rintro e w1 ⟨rfl, hb⟩
  have HB := Lib.hid hb
  clear hb HF
  go_wp2
  go_ret
  exact ⟨rfl, HB.out⟩
set_option maxRecDepth 100000 in
theorem do7_ok (B n cap : Nat) (l : List (Value × Int)) (g : Nat) (lb : Array Value) (w : World) (R : World → World → Prop) (hl : n = l.length) (hn : n ≤ 1000) (hr : AskRow7 w B l) (h0 : first7 (l.map (·.2)) = 0)
    (eg : ∀ args w, (callFunc g args).run Tryz.prog w = .ok (.enter g args) w) (hd : ∀ W : World, Below w.heap.size w W → Calls Tryz.prog g lb W fun e w' => e = .returned (.tuple #[]) ∧ R W w') :
    Calls Tryz.prog 112 #[.func (.func g) #[] lb, .slice (some ⟨B, 0, none⟩) n cap] w fun e w' => e = .returned (.int .i64 0) ∧ ∃ W, Below w.heap.size w W ∧ R W w' := by
  have HF := Lib.hid (first7_calls B n cap l w hl hn hr)
  rw [h0] at HF
  have HD := Lib.hid hd
  clear hl hr h0 hd
  go_enter Tryz.func112, Tryz.ntmps112
  go_wp2_with fail
  with_reducible refine HF.out.mono ?_
  rintro e w1 ⟨rfl, hb⟩
  have HB := Lib.hid hb
  have HC := Lib.hid (HD.out w1 hb)
  clear hb HF HD
  go_wp2_with (go_at_fn g; refine HC.out.mono ?_; rintro e w2 ⟨rfl, hR⟩; have HR := Lib.hid hR; clear hR)
  go_ret
  exact ⟨rfl, w1, HB.out, HR.out⟩
end Go.Proofs.YtclnkboejbnfnaaGreatDoor

/-
  What Add, Get, Raise and Swap of a tally tell, and what they leave there.
  Conditions: the tally is nobody else's (one goroutine).
-/
import Derived.Test.YtbpccjofopenoaaTally
import Derived.Test.YtbpccjofopenoaaTold
namespace Go.Proofs.Ytbpccjofopenoaa
open Go.RowKit

theorem getF_in (f : Nat → Int) {k : Nat} (h : inK (k : Int) = true) : getF f (k : Int) = f k := by simp [getF, h]
theorem getF_out (f : Nat → Int) {kind : Int} (h : inK kind = false) : getF f kind = 0 := by simp [getF, h]
theorem toF_in (f : Nat → Int) {k : Nat} (h : inK (k : Int) = true) (x : Int) : toF f (k : Int) x true = setF f k x := by simp [toF, h]
theorem toF_not (f : Nat → Int) (kind : Int) (x : Int) : toF f kind x false = f := by simp [toF]
theorem toF_out (f : Nat → Int) {kind : Int} (h : inK kind = false) (x : Int) (b : Bool) : toF f kind x b = f := by simp [toF, h]

/-- A number is told; the counts are as g says, and nothing else has turned. -/
def AddsN (B : Nat) (g : Nat → Int) (n : Int) (w : World) (e : Ending) (w' : World) : Prop := e = .returned (.int .i64 n) ∧ Num16 w' B g ∧ Turns (fun i => i = B) w w'
/-- A truth is told; the counts are as g says, and nothing else has turned. -/
def MovesN (B : Nat) (g : Nat → Int) (b : Bool) (w : World) (e : Ending) (w' : World) : Prop := e = .returned (.bool b) ∧ Num16 w' B g ∧ Turns (fun i => i = B) w w'

set_option maxRecDepth 100000 in
theorem get4_calls (B : Nat) (kind : Int) (f : Nat → Int) (w : World) (h : Num16 w B f) :
    Calls Try.prog 14 #[.pointer (some ⟨B, 0, none⟩), .int .i64 kind] w fun e w' => e = .returned (.int .i64 (getF f kind)) ∧ w = w' := by
  rcases inK_cases kind with ⟨k, hk, rfl, hin⟩ | ⟨hin, ho⟩
  · rw [getF_in f hin]
    have hc := h.cell k hk
    clear h hin
    generalize f k = x at *
    go_enter Try.func14, Try.ntmps14
    go_wp2_with fail
    with_reducible refine (count_in B k w hk).mono ?_
    rintro e w1 ⟨rfl, rfl⟩
    go_wp2_with fail
    with_reducible refine (load64_calls ⟨B, k, none⟩ x w hc).mono ?_
    rintro e w1 ⟨rfl, rfl⟩
    go_wp2
    go_ret
    exact ⟨rfl, rfl⟩
  · rw [getF_out f hin]
    have HO := Lib.hid ho
    clear h hin ho
    go_enter Try.func14, Try.ntmps14
    go_wp2_with fail
    with_reducible refine (count_out B kind w HO.out).mono ?_
    rintro e w1 ⟨rfl, rfl⟩
    go_wp2
    go_ret
    exact ⟨rfl, rfl⟩

set_option maxRecDepth 100000 in
theorem add4_calls (B : Nat) (kind y : Int) (f : Nat → Int) (w : World) (h : Num16 w B f) :
    Calls Try.prog 8 #[.pointer (some ⟨B, 0, none⟩), .int .i64 kind, .int .i64 y] w (AddsN B (addF f kind y) (addN f kind y) w) := by
  rcases inK_cases kind with ⟨k, hk, rfl, hin⟩ | ⟨hin, ho⟩
  · have e1 : addF f (k : Int) y = setF f k (wrap64 (f k + y)) := by simp [addF, toF, hin]
    have e2 : addN f (k : Int) y = wrap64 (f k + y) := by simp [addN, hin]
    rw [e1, e2]
    have hc := h.cell k hk
    have hz := h.free k
    have HS : Hid (∀ x, Num16 (w.setCell ⟨B, k, none⟩ (.int .i64 x)) B (setF f k x) ∧ Turns (fun i => i = B) w (w.setCell ⟨B, k, none⟩ (.int .i64 x))) := fun x => ⟨h.set k x, (Turns.refl (fun i => i = B) w).setCell (p := ⟨B, k, none⟩) (fun _ => rfl) _⟩
    clear h hin e1 e2
    have HA := Lib.hid (add64_calls ⟨B, k, none⟩ (f k) y w hc hz)
    have HX := Lib.hid (HS.out (wrap64 (f k + y)))
    clear HS hc hz
    generalize wrap64 (f k + y) = s at *
    go_enter Try.func8, Try.ntmps8
    go_wp2_with fail
    with_reducible refine (count_in B k w hk).mono ?_
    rintro e w1 ⟨rfl, rfl⟩
    go_wp2_with fail
    with_reducible refine HA.out.mono ?_
    rintro e w1 ⟨rfl, rfl⟩
    go_wp2
    go_ret
    exact ⟨rfl, HX.out⟩
  · have e1 : addF f kind y = f := toF_out f hin _ _
    have e2 : addN f kind y = 0 := by simp [addN, hin]
    rw [e1, e2]
    have HO := Lib.hid ho
    have HH := Lib.hid h
    clear h hin ho e1 e2
    go_enter Try.func8, Try.ntmps8
    go_wp2_with fail
    with_reducible refine (count_out B kind w HO.out).mono ?_
    rintro e w1 ⟨rfl, rfl⟩
    go_wp2
    go_ret
    exact ⟨rfl, HH.out, Turns.refl _ _⟩

set_option maxRecDepth 100000 in
theorem swap4_calls (B : Nat) (kind old next : Int) (f : Nat → Int) (w : World) (h : Num16 w B f) :
    Calls Try.prog 12 #[.pointer (some ⟨B, 0, none⟩), .int .i64 kind, .int .i64 old, .int .i64 next] w (MovesN B (toF f kind next (getF f kind == old)) (inK kind && (getF f kind == old)) w) := by
  rcases inK_cases kind with ⟨k, hk, rfl, hin⟩ | ⟨hin, ho⟩
  · rw [getF_in f hin, hin, Bool.true_and]
    have hc := h.cell k hk
    have hz := h.free k
    by_cases hx : f k = old
    · have hb : (f k == old) = true := by simpa using hx
      rw [hb, toF_in f hin]
      have HX : Hid (Num16 (w.setCell ⟨B, k, none⟩ (.int .i64 next)) B (setF f k next) ∧ Turns (fun i => i = B) w (w.setCell ⟨B, k, none⟩ (.int .i64 next))) := ⟨h.set k next, (Turns.refl (fun i => i = B) w).setCell (p := ⟨B, k, none⟩) (fun _ => rfl) _⟩
      rw [hx] at hc
      have HA := Lib.hid (cas_hit ⟨B, k, none⟩ old next w hc hz)
      clear h hin hc hz hx hb
      go_enter Try.func12, Try.ntmps12
      go_wp2_with fail
      with_reducible refine (count_in B k w hk).mono ?_
      rintro e w1 ⟨rfl, rfl⟩
      go_wp2_with fail
      with_reducible refine HA.out.mono ?_
      rintro e w1 ⟨rfl, rfl⟩
      go_wp2
      go_ret
      exact ⟨rfl, HX.out⟩
    · have hb : (f k == old) = false := by simpa using hx
      rw [hb, toF_not]
      have HA := Lib.hid (cas_miss ⟨B, k, none⟩ (f k) old next w hc hz hx)
      have HH := Lib.hid h
      clear h hin hc hz hx hb
      go_enter Try.func12, Try.ntmps12
      go_wp2_with fail
      with_reducible refine (count_in B k w hk).mono ?_
      rintro e w1 ⟨rfl, rfl⟩
      go_wp2_with fail
      with_reducible refine HA.out.mono ?_
      rintro e w1 ⟨rfl, rfl⟩
      go_wp2
      go_ret
      exact ⟨rfl, HH.out, Turns.refl _ _⟩
  · rw [toF_out f hin, hin, Bool.false_and]
    have HO := Lib.hid ho
    have HH := Lib.hid h
    clear h hin ho
    go_enter Try.func12, Try.ntmps12
    go_wp2_with fail
    with_reducible refine (count_out B kind w HO.out).mono ?_
    rintro e w1 ⟨rfl, rfl⟩
    go_wp2
    go_ret
    exact ⟨rfl, HH.out, Turns.refl _ _⟩

set_option maxRecDepth 100000 in
theorem raise4_calls (B : Nat) (kind to : Int) (f : Nat → Int) (w : World) (h : Num16 w B f) :
    Calls Try.prog 11 #[.pointer (some ⟨B, 0, none⟩), .int .i64 kind, .int .i64 to] w (MovesN B (toF f kind to (decide (getF f kind < to))) (inK kind && decide (getF f kind < to)) w) := by
  rcases inK_cases kind with ⟨k, hk, rfl, hin⟩ | ⟨hin, ho⟩
  · rw [getF_in f hin, hin, Bool.true_and]
    have hc := h.cell k hk
    have hz := h.free k
    have HL := Lib.hid (load64_calls ⟨B, k, none⟩ (f k) w hc)
    by_cases hx : f k < to
    · have hb : decide (f k < to) = true := by simpa using hx
      rw [hb, toF_in f hin]
      have HX : Hid (Num16 (w.setCell ⟨B, k, none⟩ (.int .i64 to)) B (setF f k to) ∧ Turns (fun i => i = B) w (w.setCell ⟨B, k, none⟩ (.int .i64 to))) := ⟨h.set k to, (Turns.refl (fun i => i = B) w).setCell (p := ⟨B, k, none⟩) (fun _ => rfl) _⟩
      have HA := Lib.hid (cas_hit ⟨B, k, none⟩ (f k) to w hc hz)
      clear h hin hc hz hb
      generalize f k = x at *
      go_enter Try.func11, Try.ntmps11
      go_wp2_with fail
      with_reducible refine (count_in B k w hk).mono ?_
      rintro e w1 ⟨rfl, rfl⟩
      go_wp2
      go_loopw [8] (fun _ wr => wr = w) (fun _ _ => 0)
      case atStart => rfl
      case round =>
        obtain rfl := hrel
        go_wp2_with fail
        with_reducible refine HL.out.mono ?_
        rintro e w1 ⟨rfl, rfl⟩
        go_wp2_with fail
        with_reducible refine HA.out.mono ?_
        rintro e w1 ⟨rfl, rfl⟩
        go_wp2
        go_ret
        exact ⟨rfl, HX.out⟩
    · have hb : decide (f k < to) = false := by simpa using hx
      rw [hb, toF_not]
      have HH := Lib.hid h
      clear h hin hc hz hb
      generalize f k = x at *
      go_enter Try.func11, Try.ntmps11
      go_wp2_with fail
      with_reducible refine (count_in B k w hk).mono ?_
      rintro e w1 ⟨rfl, rfl⟩
      go_wp2
      go_loopw [8] (fun _ wr => wr = w) (fun _ _ => 0)
      case atStart => rfl
      case round =>
        obtain rfl := hrel
        go_wp2_with fail
        with_reducible refine HL.out.mono ?_
        rintro e w1 ⟨rfl, rfl⟩
        go_wp2
        go_ret
        exact ⟨rfl, HH.out, Turns.refl _ _⟩
  · rw [toF_out f hin, hin, Bool.false_and]
    have HO := Lib.hid ho
    have HH := Lib.hid h
    clear h hin ho
    go_enter Try.func11, Try.ntmps11
    go_wp2_with fail
    with_reducible refine (count_out B kind w HO.out).mono ?_
    rintro e w1 ⟨rfl, rfl⟩
    go_wp2
    go_ret
    exact ⟨rfl, HH.out, Turns.refl _ _⟩
theorem setF_same (f : Nat → Int) (k : Nat) (x : Int) : setF f k x k = x := if_pos rfl
theorem setF_other (f : Nat → Int) {k j : Nat} (x : Int) (h : j ≠ k) : setF f k x j = f j := if_neg h
/-- Of a kind that there is. -/
theorem get4_in (B k : Nat) (x : Int) (f : Nat → Int) (w : World) (h : Num16 w B f) (hk : k < 16) (hx : f k = x) :
    Calls Try.prog 14 #[.pointer (some ⟨B, 0, none⟩), .int .i64 (k : Int)] w fun e w' => e = .returned (.int .i64 x) ∧ w = w' := by
  have := get4_calls B (k : Int) f w h
  rwa [getF_in f (inK_in hk), hx] at this
theorem raise4_up (B k : Nat) (x to : Int) (f : Nat → Int) (w : World) (h : Num16 w B f) (hk : k < 16) (hx : f k = x) (hl : x < to) :
    Calls Try.prog 11 #[.pointer (some ⟨B, 0, none⟩), .int .i64 (k : Int), .int .i64 to] w (MovesN B (setF f k to) true w) := by
  have := raise4_calls B (k : Int) to f w h
  rwa [getF_in f (inK_in hk), hx, decide_eq_true hl, toF_in f (inK_in hk), inK_in hk, Bool.true_and] at this
theorem raise4_not (B k : Nat) (x to : Int) (f : Nat → Int) (w : World) (h : Num16 w B f) (hk : k < 16) (hx : f k = x) (hl : to ≤ x) :
    Calls Try.prog 11 #[.pointer (some ⟨B, 0, none⟩), .int .i64 (k : Int), .int .i64 to] w (MovesN B f false w) := by
  have := raise4_calls B (k : Int) to f w h
  rwa [getF_in f (inK_in hk), hx, decide_eq_false (Int.not_lt.2 hl), toF_not, Bool.and_false] at this
theorem swap4_hit (B k : Nat) (x next : Int) (f : Nat → Int) (w : World) (h : Num16 w B f) (hk : k < 16) (hx : f k = x) :
    Calls Try.prog 12 #[.pointer (some ⟨B, 0, none⟩), .int .i64 (k : Int), .int .i64 x, .int .i64 next] w (MovesN B (setF f k next) true w) := by
  have := swap4_calls B (k : Int) x next f w h
  rwa [getF_in f (inK_in hk), hx, show (x == x) = true by simp, toF_in f (inK_in hk), inK_in hk, Bool.true_and] at this
theorem swap4_miss (B k : Nat) (x old next : Int) (f : Nat → Int) (w : World) (h : Num16 w B f) (hk : k < 16) (hx : f k = x) (hne : ¬ x = old) :
    Calls Try.prog 12 #[.pointer (some ⟨B, 0, none⟩), .int .i64 (k : Int), .int .i64 old, .int .i64 next] w (MovesN B f false w) := by
  have := swap4_calls B (k : Int) old next f w h
  rwa [getF_in f (inK_in hk), hx, show (x == old) = false by simpa using hne, toF_not, Bool.and_false] at this
end Go.Proofs.Ytbpccjofopenoaa

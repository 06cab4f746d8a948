/-
  Replies: told and Same.
  Conditions: none beyond each theorem's own.
-/
import Derived.Test.YtadecmjojnhlnaaOpSame
import Derived.Test.YtadecmjojnhlnaaInv
namespace Go.Proofs.Ytadecmjojnhlnaa
open Go.RowKit

set_option maxRecDepth 100000 in
theorem told14_calls (e : Int) (A : Option Addr) (n c : Nat) (w : World) : Calls Try.prog 26 #[.agg #[.int .i64 e, .slice A n c]] w (Says14 (if e = 0 then .slice A n c else .slice none 0 0) w) := by
  by_cases he : e = 0
  · rw [if_pos he]
    subst he
    go_enter Try.func26, Try.ntmps26
    go_wp2
    go_ret
    exact ⟨rfl, (Below.refl _ w).alloc (Nat.le_refl _) _⟩
  · rw [if_neg he]
    have hd : (e != 0) = true := by simpa using he
    clear he
    go_enter Try.func26, Try.ntmps26
    go_wp2
    go_ret
    exact ⟨rfl, (Below.refl _ w).alloc (Nat.le_refl _) _⟩
/-- The texts that a reply tells. -/
def tls14 (e : Int) (ss : List ByteArray) : List ByteArray := if e = 0 then ss else []
theorem told_of14 (e : Int) (A : Option Addr) (c : Nat) (ss : List ByteArray) (w : World) (hr : RdS w A ss) : ∃ A' c', (∀ W, Calls Try.prog 26 #[.agg #[.int .i64 e, .slice A ss.length c]] W (Says14 (.slice A' (tls14 e ss).length c') W)) ∧ RdS w A' (tls14 e ss) ∧ ((A' = A ∧ c' = c) ∨ (A' = none ∧ c' = 0)) := by
  unfold tls14
  by_cases he : e = 0
  · refine ⟨A, c, fun W => ?_, by rw [if_pos he]; exact hr, .inl ⟨rfl, rfl⟩⟩
    have := told14_calls e A ss.length c W
    rw [if_pos he] at this ⊢
    exact this
  · refine ⟨none, 0, fun W => ?_, by rw [if_neg he]; exact fun h => absurd rfl h, .inr ⟨rfl, rfl⟩⟩
    have := told14_calls e A ss.length c W
    rw [if_neg he] at this ⊢
    exact this
/-- Are both replies the same? -/
def sam14 (e1 : Int) (ss : List ByteArray) (e2 : Int) (ts : List ByteArray) : Bool := decide (e1 = e2) && decide (tls14 e1 ss = tls14 e2 ts)

/-- What each operation makes. -/
def YSm14 (n : Nat) (e : Int) (va vb ta tb : Value) (r : Bool) : Nat → Value → Prop
  | 0, v => v = .pointer (some ⟨n, 0, none⟩)
  | 1, v => v = .int .i64 e
  | 2, v => v = .pointer (some ⟨n + 1, 0, none⟩)
  | 3, v => v = .int .i64 e
  | 4, v => v = .bool true
  | 5, v => v = .bool true
  | 6, v => v = va
  | 7, v => v = ta
  | 8, v => v = vb
  | 9, v => v = tb
  | 10, v => v = .bool r
  | 11, v => v = .bool r
  | 12, v => v = .bool r
  | _, _ => True

set_option maxRecDepth 100000 in
set_option maxHeartbeats 2000000 in
theorem Same14_calls (e1 e2 : Int) (A1 A2 : Option Addr) (c1 c2 : Nat) (ss ts : List ByteArray) (w : World) (h1 : RdS w A1 ss) (h2 : RdS w A2 ts) (hm1 : ss.length ≤ 9223372036854775807) :
    Calls Try.prog 12 #[.agg #[.int .i64 e1, .slice A1 ss.length c1], .agg #[.int .i64 e2, .slice A2 ts.length c2]] w (Says14 (.bool (sam14 e1 ss e2 ts)) w) := by
  have HB : Hid (Below w.heap.size w ((w.alloc (.cells #[.int .i64 e1, .slice A1 ss.length c1] 34)).alloc (.cells #[.int .i64 e2, .slice A2 ts.length c2] 34))) := alloc14 (alloc14 (Below.refl _ w) _) _
  by_cases he : e1 = e2
  · subst he
    obtain ⟨B1, d1, t1, r1, _⟩ := told_of14 e1 A1 c1 ss w h1
    obtain ⟨B2, d2, t2, r2, _⟩ := told_of14 e1 A2 c2 ts w h2
    have hq : (tls14 e1 ss).length ≤ 9223372036854775807 := by unfold tls14; split; exact hm1; exact Nat.zero_le _
    have HEQ : Hid (∀ W, Below w.heap.size w W → Calls Try.prog 25 #[.slice B1 (tls14 e1 ss).length d1, .slice B2 (tls14 e1 ts).length d2] W (Says14 (.bool (sam14 e1 ss e1 ts)) W)) := fun W hb => by
      have := equal14s_calls B1 B2 d1 d2 (tls14 e1 ss) (tls14 e1 ts) W (r1.later14 hb) (r2.later14 hb) hq
      unfold sam14
      rw [decide_eq_true rfl, Bool.true_and]
      exact this
    have HT1 := Lib.hid t1
    have HT2 := Lib.hid t2
    clear t1 t2 r1 r2 hq h1 h2 hm1
    generalize sam14 e1 ss e1 ts = r at *
    generalize (tls14 e1 ss).length = m1 at *
    generalize (tls14 e1 ts).length = m2 at *
    generalize ss.length = n1 at *
    generalize ts.length = n2 at *
    go_enter Try.func12, Try.ntmps12
    go_wp2
    have g0 : ((w.alloc (.cells #[.int .i64 e1, .slice A1 n1 c1] 34)).alloc (.cells #[.int .i64 e1, .slice A2 n2 c2] 34)).heap[w.heap.size]? = some (.cells #[.int .i64 e1, .slice A1 n1 c1] 34 (0, 0)) := heap_alloc2_old w _ _
    have g1 : ((w.alloc (.cells #[.int .i64 e1, .slice A1 n1 c1] 34)).alloc (.cells #[.int .i64 e1, .slice A2 n2 c2] 34)).heap[w.heap.size + 1]? = some (.cells #[.int .i64 e1, .slice A2 n2 c2] 34 (0, 0)) := heap_alloc2_new w _ _
    generalize (w.alloc (.cells #[.int .i64 e1, .slice A1 n1 c1] 34)).alloc (.cells #[.int .i64 e1, .slice A2 n2 c2] 34) = w1 at *
    have K00 : w1.cell? ⟨w.heap.size, 0, none⟩ = some (.int .i64 e1) := by rw [cell_of_row w1 _ 0 _ _ (0, 0) g0]; rfl
    have K01 : w1.cell? ⟨w.heap.size, 1, none⟩ = some (.slice A1 n1 c1) := by rw [cell_of_row w1 _ 1 _ _ (0, 0) g0]; rfl
    have K10 : w1.cell? ⟨w.heap.size + 1, 0, none⟩ = some (.int .i64 e1) := by rw [cell_of_row w1 _ 0 _ _ (0, 0) g1]; rfl
    have K11 : w1.cell? ⟨w.heap.size + 1, 1, none⟩ = some (.slice A2 n2 c2) := by rw [cell_of_row w1 _ 1 _ _ (0, 0) g1]; rfl
    have LT0 : w.heap.size < w1.heap.size := (Array.getElem?_eq_some_iff.1 g0).1
    have LT1 : w.heap.size + 1 < w1.heap.size := (Array.getElem?_eq_some_iff.1 g1).1
    have HK := Lib.hid (And.intro K00 (And.intro K01 (And.intro K10 K11)))
    clear g0 g1 K00 K01 K10 K11
    refine wp_region_inv (by kernel_rfl) (fun W => Below w1.heap.size w1 W) (fun j v _ => YSm14 w.heap.size e1 (.agg #[.int .i64 e1, .slice A1 n1 c1]) (.agg #[.int .i64 e1, .slice A2 n2 c2]) (.slice B1 m1 d1) (.slice B2 m2 d2) r j v) ?F ?hF (by kernel_rfl) (by kernel_rfl) (drew14 (Below.refl _ _)) ?step ?fin
    case hF =>
      intro x
      simp only [List.map_cons, List.map_nil, putL, Act.put, List.setIfInBounds_toArray, List.set_cons_zero, List.set_cons_succ, Nat.zero_add, Nat.reduceAdd]
      exact rfl
    case step =>
      refine ⟨?_, ?_, ?_, ?_, ?_, ?_, ?_, ?_, ?_, ?_, ?_, ?_, ?_, trivial⟩
      all_goals intro x W hW hdep K hK
      · clear hdep
        go_simp
        exact hK _ _ rfl hW (fun _ _ h => h)
      · have h0 : x 0 = _ := hdep 0 rfl
        have k0 := (hW.cell (p := ⟨w.heap.size, 0, none⟩) LT0).trans HK.out.1
        clear hdep
        simp only [h0] at hK
        go_simp
        exact hK _ _ rfl hW (fun _ _ h => h)
      · clear hdep
        go_simp
        exact hK _ _ rfl hW (fun _ _ h => h)
      · have h2 : x 2 = _ := hdep 2 rfl
        have k2 := (hW.cell (p := ⟨w.heap.size + 1, 0, none⟩) LT1).trans HK.out.2.2.1
        clear hdep
        simp only [h2] at hK
        go_simp
        exact hK _ _ rfl hW (fun _ _ h => h)
      · have h1 : x 1 = _ := hdep 1 rfl
        have h3 : x 3 = _ := hdep 3 rfl
        clear hdep
        simp only [h1, h3] at hK
        go_simp
        exact hK _ _ rfl hW (fun _ _ h => h)
      · have h4 : x 4 = _ := hdep 4 rfl
        clear hdep
        simp only [h4] at hK
        go_simp
        exact hK _ _ rfl hW (fun _ _ h => h)
      · have h5 : x 5 = _ := hdep 5 rfl
        have k0 := (hW.cell (p := ⟨w.heap.size, 0, none⟩) LT0).trans HK.out.1
        have k1 := (hW.cell (p := ⟨w.heap.size, 1, none⟩) LT0).trans HK.out.2.1
        clear hdep
        simp only [h5] at hK
        go_simp
        exact hK _ _ rfl hW (fun _ _ h => h)
      · have h5 : x 5 = _ := hdep 5 rfl
        have h6 : x 6 = _ := hdep 6 rfl
        clear hdep
        simp only [h5, h6] at hK
        go_simp
        refine (HT1.out W).mono ?_
        rintro e W' ⟨rfl, hb⟩
        exact hK _ _ rfl (next14 hW hb) (fun _ _ h => h)
      · have h5 : x 5 = _ := hdep 5 rfl
        have k2 := (hW.cell (p := ⟨w.heap.size + 1, 0, none⟩) LT1).trans HK.out.2.2.1
        have k3 := (hW.cell (p := ⟨w.heap.size + 1, 1, none⟩) LT1).trans HK.out.2.2.2
        clear hdep
        simp only [h5] at hK
        go_simp
        exact hK _ _ rfl hW (fun _ _ h => h)
      · have h5 : x 5 = _ := hdep 5 rfl
        have h8 : x 8 = _ := hdep 8 rfl
        clear hdep
        simp only [h5, h8] at hK
        go_simp
        refine (HT2.out W).mono ?_
        rintro e W' ⟨rfl, hb⟩
        exact hK _ _ rfl (next14 hW hb) (fun _ _ h => h)
      · have h5 : x 5 = _ := hdep 5 rfl
        have h7 : x 7 = _ := hdep 7 rfl
        have h9 : x 9 = _ := hdep 9 rfl
        clear hdep
        simp only [h5, h7, h9] at hK
        go_simp
        refine (HEQ.out W (next14 HB.out hW)).mono ?_
        rintro e W' ⟨rfl, hb⟩
        exact hK _ _ rfl (next14 hW hb) (fun _ _ h => h)
      · have h5 : x 5 = _ := hdep 5 rfl
        have h10 : x 10 = _ := hdep 10 rfl
        clear hdep
        simp only [h5, h10] at hK
        go_simp
        exact hK _ _ rfl hW (fun _ _ h => h)
      · have h11 : x 11 = _ := hdep 11 rfl
        clear hdep
        simp only [h11] at hK
        go_simp
        exact hK _ _ rfl hW (fun _ _ h => h)
    case fin =>
      intro x W hW hY
      have h12 : x 12 = .bool r := hY 12 (by decide)
      have HB7 := Lib.hid (next14 HB.out hW)
      clear hY hW
      rw [h12]
      go_wp2
      go_ret
      exact ⟨rfl, HB7.out⟩
  · have hf : sam14 e1 ss e2 ts = false := by unfold sam14; rw [decide_eq_false he]; rfl
    rw [hf]
    have hd : (e1 == e2) = false := by rw [beq_eq_false_iff_ne]; exact he
    clear hf he h1 h2
    generalize ss.length = n1 at *
    generalize ts.length = n2 at *
    go_enter Try.func12, Try.ntmps12
    go_wp2
    go_quiet (fail)
    go_wp2
    go_ret
    exact ⟨rfl, drewN14 HB.out _⟩
end Go.Proofs.Ytadecmjojnhlnaa

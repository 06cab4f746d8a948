/-
  The document's table: Judge, Put, Text.
  Conditions: each theorem's own.
-/
import Derived.Test.YtadecmjojnhlnaaTabI
namespace Go.Proofs.Ytadecmjojnhlnaa
open Go.RowKit

set_option maxRecDepth 100000 in
set_option maxHeartbeats 2000000 in
theorem rJudge15_calls (T : Nat → R15) (c n : Nat) (w : World) : Calls Try.prog 22 #[.agg (tabA T), .int .u8 c, .int .u64 n] w (Says14 (.int .i64 (J15 (T c).n c n)) w) := by
  have hb := alloc14 (Below.refl _ w) (.cells (tabA T) 46)
  have HB := Lib.hid hb
  clear hb
  by_cases hc : c < 8
  case neg =>
    have e : J15 (T c).n c n = 0 := by unfold J15; rw [if_neg (fun h => hc h.1)]
    rw [e]
    have d1 : decide ((c : Int) > 7) = true := by simp; omega
    have d2 : decide (7 < c) = true := by simp; omega
    clear hc e
    go_enter Try.func22, Try.ntmps22
    go_wp2
    go_ret
    exact ⟨rfl, HB.out⟩
  have d1 : decide ((c : Int) > 7) = false := by simp; omega
  have d2 : decide (7 < c) = false := by simp; omega
  by_cases h0 : 0 < n
  case neg =>
    have e : J15 (T c).n c n = 0 := by unfold J15 cnt15; rw [if_neg (fun h => by simp at h; omega)]
    rw [e]
    have d3 : decide ((n : Int) < 1) = true := by simp; omega
    have d4 : decide (n < 1) = true := by simp; omega
    have d5 : decide (n = 0) = true := by simp; omega
    have d6 : (n : Int) < 1 := by omega
    clear e hc
    go_enter Try.func22, Try.ntmps22
    go_wp2
    go_ret
    exact ⟨rfl, HB.out⟩
  have d3 : decide ((n : Int) < 1) = false := by simp; omega
  have d4 : decide (n < 1) = false := by simp; omega
  have d5 : decide (n = 0) = false := by simp; omega
  have d6 : ¬ (n : Int) < 1 := by omega
  by_cases h1 : n ≤ 1099511627776
  case neg =>
    have e : J15 (T c).n c n = 0 := by unfold J15 cnt15; rw [if_neg (fun h => by simp at h; omega)]
    rw [e]
    have d7 : decide ((n : Int) > 1099511627776) = true := by simp; omega
    have d8 : decide (1099511627776 < n) = true := by simp; omega
    have d9 : (1099511627776 : Int) < n := by omega
    clear e hc h0
    go_enter Try.func22, Try.ntmps22
    go_wp2
    go_ret
    exact ⟨rfl, HB.out⟩
  have d7 : decide ((n : Int) > 1099511627776) = false := by simp; omega
  have d8 : decide (1099511627776 < n) = false := by simp; omega
  have d9 : ¬ (1099511627776 : Int) < n := by omega
  have hT : Tab15 (w.alloc (.cells (tabA T) 46)) w.heap.size 46 T := heap_alloc_new w _
  have c0 := hT.cell c 0 hc (by decide)
  simp only [R15.cell, Nat.add_zero] at c0
  have d10 : decide ((c : Int) < 8) = true := by simp; omega
  have d11 : (c : Int) < 8 := by omega
  have e : J15 (T c).n c n = if n < (T c).n then 1 else if n = (T c).n then 2 else 3 := by unfold J15 cnt15; rw [if_pos ⟨hc, by simp; omega⟩]
  rw [e]
  clear e hT
  generalize (T c).n = l at *
  generalize tabA T = tA at *
  by_cases h2 : n < l
  · rw [if_pos h2]
    have f1 : decide ((n : Int) < l) = true := by simp; omega
    have f2 : decide (n < l) = true := by simp; omega
    clear h0 h1 h2 hc
    go_enter Try.func22, Try.ntmps22
    go_wp2
    go_ret
    exact ⟨rfl, HB.out⟩
  · rw [if_neg h2]
    have f1 : decide ((n : Int) < l) = false := by simp; omega
    have f2 : decide (n < l) = false := by simp; omega
    by_cases h3 : n = l
    · rw [if_pos h3]
      subst h3
      have f3 : ((n : Int) == n) = true := by simp
      clear h0 h1 h2 hc
      go_enter Try.func22, Try.ntmps22
      go_wp2
      go_ret
      exact ⟨rfl, HB.out⟩
    · rw [if_neg h3]
      have f3 : ((n : Int) == l) = false := by simp; omega
      have f4 : (n == l) = false := by simp; omega
      have f5 : decide (n = l) = false := by simp; omega
      clear h0 h1 h2 h3 hc
      go_enter Try.func22, Try.ntmps22
      go_wp2
      go_ret
      exact ⟨rfl, HB.out⟩

theorem sizeDoc15 : (Try.prog.info? 46).map (·.size) = some 24 := by kernel_rfl
theorem zeroDoc15_run (w : World) : (zeroValue 46).run Try.prog w = .ok (.agg (tabA fun _ => zero15)) w := by
  obtain ⟨i0, hi, hz0, hz1, hz2⟩ := info_parts (show (Try.prog.info? 46).map (fun i => (i.zero, i.size, i.bytes)) = some (some (.agg (tabA fun _ => zero15)), 24, 320) by kernel_rfl)
  simp [zeroValue, typeInfo, hi, hz0]
/-- What is put into the document's table. -/
def dr15 (n e : Nat) (A : Option Addr) (q : Nat) (ss : List ByteArray) : R15 := if e = 0 then ⟨n, e, A, q, ss⟩ else ⟨n, e, none, 0, []⟩
theorem turns_setRow15 {S : Nat → Prop} {a w : World} (h : Turns S a w) {g : Nat} (hg : g < a.heap.size → S g) (cs : Array Value) : Turns S a (w.setRow g cs) :=
  h.next (S' := fun i => i = g) ⟨rfl, rfl, rfl, by simp, fun k _ hk => setRow_other w g k cs hk⟩ (fun i hi he => by subst he; exact hg hi)
theorem Tab15.store_run {w : World} {B : Nat} {t : TypeId} {T : Nat → R15} (h : Tab15 w B t T) (P : Program) (U : Nat → R15) : (storeCells ⟨B, 0, none⟩ (tabA U).toList).run P w = .ok () (w.setRow B (tabA U)) := by
  have := run_storeCells_from (P := P) B t (tabA U).toList 0 _ w h (by simp [tabA_size]) (fun v hv => (Array.all_eq_true_iff_forall_mem.1 (tabA_one U)) v (by simpa using hv))
  simpa using this

set_option maxRecDepth 100000 in
set_option maxHeartbeats 2000000 in
theorem rPut15_calls (T : Nat → R15) (c n e : Nat) (A : Option Addr) (q : Nat) (ss : List ByteArray) (w : World) :
    Calls Try.prog 15 #[.agg (tabA T), .int .u8 c, .int .u64 n, .agg #[.int .i64 e, .slice A ss.length q]] w fun en w' =>
      en = .returned (.tuple #[.agg (tabA (if J15 (T c).n c n = 3 then setT T c (dr15 n e A q ss) else T)), .int .i64 (errJ15 (J15 (T c).n c n))]) ∧ Below w.heap.size w w' := by
  have HJ : Hid (∀ W, Calls Try.prog 22 #[.agg (tabA T), .int .u8 c, .int .u64 n] W (Says14 (.int .i64 (J15 (T c).n c n)) W)) := fun W => rJudge15_calls T c n W
  have hz := zeroDoc15_run
  obtain ⟨m, hm⟩ : ∃ m, m = ss.length := ⟨_, rfl⟩
  rw [← hm]
  have HM := Lib.hid hm
  clear hm
  have ht0 : Tab15 (((w.alloc (.cells (tabA T) 46)).alloc (.cells #[.int .i64 e, .slice A m q] 42)).alloc (.cells (tabA fun _ => zero15) 46)) w.heap.size 46 T := by
    have h1 : Tab15 (w.alloc (.cells (tabA T) 46)) w.heap.size 46 T := heap_alloc_new w _
    exact (h1.later ((Below.refl _ _).alloc (Nat.le_refl _) _)).later ((Below.refl _ _).alloc (Nat.le_refl _) _)
  have hq0 : RqAt (((w.alloc (.cells (tabA T) 46)).alloc (.cells #[.int .i64 e, .slice A m q] 42)).alloc (.cells (tabA fun _ => zero15) 46)) (w.heap.size + 1) e (.slice A m q) := by
    have h1 : RqAt ((w.alloc (.cells (tabA T) 46)).alloc (.cells #[.int .i64 e, .slice A m q] 42)) (w.heap.size + 1) e (.slice A m q) := heap_alloc2_new w _ _
    exact h1.below ((Below.refl _ _).alloc (Nat.le_refl _) _)
  have hz0 : Tab15 (((w.alloc (.cells (tabA T) 46)).alloc (.cells #[.int .i64 e, .slice A m q] 42)).alloc (.cells (tabA fun _ => zero15) 46)) (w.heap.size + 1 + 1) 46 (fun _ => zero15) := by
    have h1 := heap_alloc_new ((w.alloc (.cells (tabA T) 46)).alloc (.cells #[.int .i64 e, .slice A m q] 42)) (.cells (tabA fun _ => zero15) 46)
    have h2 : ((w.alloc (.cells (tabA T) 46)).alloc (.cells #[.int .i64 e, .slice A m q] 42)).heap.size = w.heap.size + 1 + 1 := by simp
    rw [h2] at h1
    exact h1
  have HT0 := Lib.hid ht0
  have HX0 : Hid ((((w.alloc (.cells (tabA T) 46)).alloc (.cells #[.int .i64 e, .slice A m q] 42)).alloc (.cells (tabA fun _ => zero15) 46)).heap[w.heap.size]? = some (.cells (tabA T) 46 (0, 0))) := ht0
  have HQ0 := Lib.hid hq0
  have HZ0 := Lib.hid hz0
  have HB0 := Lib.hid (alloc14 (alloc14 (alloc14 (Below.refl _ w) (.cells (tabA T) 46)) (.cells #[.int .i64 e, .slice A m q] 42)) (.cells (tabA fun _ => zero15) 46))
  clear ht0 hq0 hz0
  by_cases h3 : J15 (T c).n c n = 3
  case neg =>
    rw [if_neg h3]
    unfold errJ15
    rw [if_neg h3]
    generalize J15 (T c).n c n = j at *
    by_cases hj : j = 0
    · subst hj
      rw [if_pos rfl]
      clear h3
      go_enter Try.func15, Try.ntmps15
      go_wp2_with (with_reducible refine wpList_load_row rfl 46 (.tmp 4) rfl w.heap.size rfl 46 (tabA T) (0, 0) _ HX0.out Try.underlying46 rfl (by rw [tabA_size]; exact sizeDoc15) ?_)
      go_wp2_with fail
      generalize ((w.alloc (.cells (tabA T) 46)).alloc (.cells #[.int .i64 e, .slice A m q] 42)).alloc (.cells (tabA fun _ => zero15) 46) = w3 at *
      with_reducible refine (HJ.out _).mono ?_
      rintro en w4 ⟨rfl, hb⟩
      have HX4 := Lib.hid ((hb.block _ HT0.out.lt).trans HX0.out)
      have hz4 : Tab15 w4 (w.heap.size + 1 + 1) 46 (fun _ => zero15) := HZ0.out.later hb
      have hst := hz4.store_run Try.prog T
      have HR4 : Hid ((w4.setRow (w.heap.size + 1 + 1) (tabA T)).heap[w.heap.size + 1 + 1]? = some (.cells (tabA T) 46 (0, 0))) := setRow_heap w4 _ _ _ _ _ hz4
      have HB4 : Hid (Below w.heap.size w (w4.setRow (w.heap.size + 1 + 1) (tabA T))) := (turns_setRow15 (Turns.of_below (next14 HB0.out hb) (fun k => w.heap.size ≤ k)) (fun hl => by omega) _).below (fun i h => h)
      clear hb hz4 HJ hz
      go_wp2_with (with_reducible refine wpList_load_row rfl 46 (.tmp 4) rfl w.heap.size rfl 46 (tabA T) (0, 0) _ HX4.out Try.underlying46 rfl (by rw [tabA_size]; exact sizeDoc15) ?_)
      exact bodyPost_ret (results_two14 Try.results15 _ _ (w.heap.size + 1 + 1) _ _ (0, 0) _ rfl HR4.out Try.underlying46 rfl (by rw [tabA_size]; exact sizeDoc15)) rfl
        ⟨rfl, HB4.out⟩
    · rw [if_neg hj]
      have d0 : ((j : Int) == 0) = false := by simp; omega
      have d1 : (j == 0) = false := by simp; omega
      have d3 : ((j : Int) != 3) = true := by simp; omega
      have d4 : (j != 3) = true := by simp; omega
      clear h3 hj
      go_enter Try.func15, Try.ntmps15
      go_wp2_with (with_reducible refine wpList_load_row rfl 46 (.tmp 4) rfl w.heap.size rfl 46 (tabA T) (0, 0) _ HX0.out Try.underlying46 rfl (by rw [tabA_size]; exact sizeDoc15) ?_)
      go_wp2_with fail
      generalize ((w.alloc (.cells (tabA T) 46)).alloc (.cells #[.int .i64 e, .slice A m q] 42)).alloc (.cells (tabA fun _ => zero15) 46) = w3 at *
      with_reducible refine (HJ.out _).mono ?_
      rintro en w4 ⟨rfl, hb⟩
      have HX4 := Lib.hid ((hb.block _ HT0.out.lt).trans HX0.out)
      have hz4 : Tab15 w4 (w.heap.size + 1 + 1) 46 (fun _ => zero15) := HZ0.out.later hb
      have hst := hz4.store_run Try.prog T
      have HR4 : Hid ((w4.setRow (w.heap.size + 1 + 1) (tabA T)).heap[w.heap.size + 1 + 1]? = some (.cells (tabA T) 46 (0, 0))) := setRow_heap w4 _ _ _ _ _ hz4
      have HB4 : Hid (Below w.heap.size w (w4.setRow (w.heap.size + 1 + 1) (tabA T))) := (turns_setRow15 (Turns.of_below (next14 HB0.out hb) (fun k => w.heap.size ≤ k)) (fun hl => by omega) _).below (fun i h => h)
      clear hb hz4 HJ hz
      go_wp2_with (with_reducible refine wpList_load_row rfl 46 (.tmp 4) rfl w.heap.size rfl 46 (tabA T) (0, 0) _ HX4.out Try.underlying46 rfl (by rw [tabA_size]; exact sizeDoc15) ?_)
      exact bodyPost_ret (results_two14 Try.results15 _ _ (w.heap.size + 1 + 1) _ _ (0, 0) _ rfl HR4.out Try.underlying46 rfl (by rw [tabA_size]; exact sizeDoc15)) rfl
        ⟨rfl, HB4.out⟩
  obtain ⟨hc, hn0, hn1, _⟩ := J15_three h3
  rw [if_pos h3]
  rw [h3] at HJ ⊢
  have d10 : decide ((c : Int) < 8) = true := by simp; omega
  have d11 : (c : Int) < 8 := by omega
  clear h3 hn0 hn1
  by_cases he : e = 0
  · rw [show dr15 n e A q ss = ⟨n, e, A, q, ss⟩ from if_pos he]
    have e0 : ((e : Int) != 0) = false := by simp; omega
    have e1 : (e != 0) = false := by simp; omega
    clear he
    go_enter Try.func15, Try.ntmps15
    go_wp2_with (with_reducible refine wpList_load_row rfl 46 (.tmp 4) rfl w.heap.size rfl 46 (tabA T) (0, 0) _ HX0.out Try.underlying46 rfl (by rw [tabA_size]; exact sizeDoc15) ?_)
    go_wp2_with fail
    generalize ((w.alloc (.cells (tabA T) 46)).alloc (.cells #[.int .i64 e, .slice A m q] 42)).alloc (.cells (tabA fun _ => zero15) 46) = w3 at *
    with_reducible refine (HJ.out _).mono ?_
    rintro en w4 ⟨rfl, hb⟩
    have ht4 : Tab15 w4 w.heap.size 46 T := HT0.out.later hb
    have hz4 : Tab15 w4 (w.heap.size + 1 + 1) 46 (fun _ => zero15) := HZ0.out.later hb
    have hq4 := HQ0.out.below hb
    have hb4 := next14 HB0.out hb
    clear hb HT0 HZ0 HQ0 HB0 HX0 HJ hz
    have hu : Hid (∀ w5 r, Tab15 w5 w.heap.size 46 T → Tab15 w5 (w.heap.size + 1 + 1) 46 (fun _ => zero15) → Below w.heap.size w w5 → ∀ w6, w6 = ((w5.setCell ⟨w.heap.size, c * 3, none⟩ (R15.cell r 0)).setCell ⟨w.heap.size, c * 3 + 1, none⟩ (R15.cell r 1)).setCell ⟨w.heap.size, c * 3 + 2, none⟩ (R15.cell r 2) →
        w6.heap[w.heap.size]? = some (.cells (tabA (setT T c r)) 46 (0, 0)) ∧ (storeCells ⟨w.heap.size + 1 + 1, 0, none⟩ (tabA (setT T c r)).toList).run Try.prog w6 = .ok () (w6.setRow (w.heap.size + 1 + 1) (tabA (setT T c r))) ∧
        (w6.setRow (w.heap.size + 1 + 1) (tabA (setT T c r))).heap[w.heap.size + 1 + 1]? = some (.cells (tabA (setT T c r)) 46 (0, 0)) ∧ Below w.heap.size w (w6.setRow (w.heap.size + 1 + 1) (tabA (setT T c r)))) := fun w5 r h1 h2 h3 w6 h4 => by
      have t1 := h1.set c hc r
      rw [← h4] at t1
      have tt : Turns (fun k => k = w.heap.size) w5 w6 := by
        rw [h4]
        exact (((Turns.refl (fun k => k = w.heap.size) w5).setCell (p := ⟨w.heap.size, c * 3, none⟩) (fun _ => rfl) _).setCell (p := ⟨w.heap.size, c * 3 + 1, none⟩) (fun _ => rfl) _).setCell (p := ⟨w.heap.size, c * 3 + 2, none⟩) (fun _ => rfl) _
      have z1 := h2.turns tt (by omega)
      have b1 : Below w.heap.size w w6 := h3.trans (tt.below_at h3.size (fun k e => by omega))
      exact ⟨t1, z1.store_run _ _, setRow_heap w6 _ _ _ _ _ z1, (turns_setRow15 (Turns.of_below b1 (fun k => w.heap.size ≤ k)) (fun hl => by omega) _).below (fun i h => h)⟩
    have x0 := hq4.c0
    have x1 := hq4.c1
    have xf := hq4.fr
    have ht5 := ht4
    obtain ⟨f1, f2, f3, f4⟩ := hu.out w4 ⟨n, e, A, q, ss⟩ ht4 hz4 hb4 _ rfl
    have t0 := ht5.cell c 0 hc (by decide)
    have t1 := ht5.cell c 1 hc (by decide)
    have t2 := ht5.cell c 2 hc (by decide)
    have tf := ht5.free
    simp only [R15.cell, Nat.add_zero, List.length_nil, ← HM.out] at t0 t1 t2 f1 f2 f3 f4
    have F1 := Lib.hid f1
    have F3 := Lib.hid f3
    have F4 := Lib.hid f4
    clear f1 f3 f4 ht4 hz4 hq4 hb4 hu ht5
    go_wp2_with (with_reducible refine wpList_load_row rfl 46 (.tmp 4) rfl w.heap.size rfl 46 (tabA (setT T c ⟨n, e, A, q, ss⟩)) (0, 0) _ F1.out Try.underlying46 rfl (by rw [tabA_size]; exact sizeDoc15) ?_)
    exact bodyPost_ret (results_two14 Try.results15 _ _ (w.heap.size + 1 + 1) _ _ (0, 0) _ rfl F3.out Try.underlying46 rfl (by rw [tabA_size]; exact sizeDoc15)) rfl
      ⟨rfl, F4.out⟩
  · rw [show dr15 n e A q ss = ⟨n, e, none, 0, []⟩ from if_neg he]
    have e0 : ((e : Int) != 0) = true := by simp; omega
    have e1 : (e != 0) = true := by simp; omega
    clear he
    go_enter Try.func15, Try.ntmps15
    go_wp2_with (with_reducible refine wpList_load_row rfl 46 (.tmp 4) rfl w.heap.size rfl 46 (tabA T) (0, 0) _ HX0.out Try.underlying46 rfl (by rw [tabA_size]; exact sizeDoc15) ?_)
    go_wp2_with fail
    generalize ((w.alloc (.cells (tabA T) 46)).alloc (.cells #[.int .i64 e, .slice A m q] 42)).alloc (.cells (tabA fun _ => zero15) 46) = w3 at *
    with_reducible refine (HJ.out _).mono ?_
    rintro en w4 ⟨rfl, hb⟩
    have ht4 : Tab15 w4 w.heap.size 46 T := HT0.out.later hb
    have hz4 : Tab15 w4 (w.heap.size + 1 + 1) 46 (fun _ => zero15) := HZ0.out.later hb
    have hq4 := HQ0.out.below hb
    have hb4 := next14 HB0.out hb
    clear hb HT0 HZ0 HQ0 HB0 HX0 HJ hz
    have hu : Hid (∀ w5 r, Tab15 w5 w.heap.size 46 T → Tab15 w5 (w.heap.size + 1 + 1) 46 (fun _ => zero15) → Below w.heap.size w w5 → ∀ w6, w6 = ((w5.setCell ⟨w.heap.size, c * 3, none⟩ (R15.cell r 0)).setCell ⟨w.heap.size, c * 3 + 1, none⟩ (R15.cell r 1)).setCell ⟨w.heap.size, c * 3 + 2, none⟩ (R15.cell r 2) →
        w6.heap[w.heap.size]? = some (.cells (tabA (setT T c r)) 46 (0, 0)) ∧ (storeCells ⟨w.heap.size + 1 + 1, 0, none⟩ (tabA (setT T c r)).toList).run Try.prog w6 = .ok () (w6.setRow (w.heap.size + 1 + 1) (tabA (setT T c r))) ∧
        (w6.setRow (w.heap.size + 1 + 1) (tabA (setT T c r))).heap[w.heap.size + 1 + 1]? = some (.cells (tabA (setT T c r)) 46 (0, 0)) ∧ Below w.heap.size w (w6.setRow (w.heap.size + 1 + 1) (tabA (setT T c r)))) := fun w5 r h1 h2 h3 w6 h4 => by
      have t1 := h1.set c hc r
      rw [← h4] at t1
      have tt : Turns (fun k => k = w.heap.size) w5 w6 := by
        rw [h4]
        exact (((Turns.refl (fun k => k = w.heap.size) w5).setCell (p := ⟨w.heap.size, c * 3, none⟩) (fun _ => rfl) _).setCell (p := ⟨w.heap.size, c * 3 + 1, none⟩) (fun _ => rfl) _).setCell (p := ⟨w.heap.size, c * 3 + 2, none⟩) (fun _ => rfl) _
      have z1 := h2.turns tt (by omega)
      have b1 : Below w.heap.size w w6 := h3.trans (tt.below_at h3.size (fun k e => by omega))
      exact ⟨t1, z1.store_run _ _, setRow_heap w6 _ _ _ _ _ z1, (turns_setRow15 (Turns.of_below b1 (fun k => w.heap.size ≤ k)) (fun hl => by omega) _).below (fun i h => h)⟩
    have x0 := hq4.c0
    have x1 := hq4.c1
    have xf := hq4.fr
    have t5 : Turns (fun k => k = w.heap.size + 1) w4 (w4.setCell ⟨w.heap.size + 1, 1, none⟩ (.slice none 0 0)) := (Turns.refl (fun k => k = w.heap.size + 1) w4).setCell (p := ⟨w.heap.size + 1, 1, none⟩) (fun _ => rfl) _
    have ht5 := ht4.turns t5 (by omega)
    have hq5 := hq4.set1 (.slice none 0 0)
    have y0 := hq5.c0
    have y1 := hq5.c1
    obtain ⟨f1, f2, f3, f4⟩ := hu.out (w4.setCell ⟨w.heap.size + 1, 1, none⟩ (.slice none 0 0)) ⟨n, e, none, 0, []⟩ ht5 (hz4.turns t5 (by omega)) (hb4.trans (t5.below_at hb4.size (fun k e => by omega))) _ rfl
    clear t5 hq5
    generalize hw5 : w4.setCell ⟨w.heap.size + 1, 1, none⟩ (.slice none 0 0) = w5 at *
    have t0 := ht5.cell c 0 hc (by decide)
    have t1 := ht5.cell c 1 hc (by decide)
    have t2 := ht5.cell c 2 hc (by decide)
    have tf := ht5.free
    simp only [R15.cell, Nat.add_zero, List.length_nil, ← HM.out] at t0 t1 t2 f1 f2 f3 f4
    have F1 := Lib.hid f1
    have F3 := Lib.hid f3
    have F4 := Lib.hid f4
    clear f1 f3 f4 ht4 hz4 hq4 hb4 hu ht5
    go_wp2_with (with_reducible refine wpList_load_row rfl 46 (.tmp 4) rfl w.heap.size rfl 46 (tabA (setT T c ⟨n, e, none, 0, []⟩)) (0, 0) _ F1.out Try.underlying46 rfl (by rw [tabA_size]; exact sizeDoc15) ?_)
    exact bodyPost_ret (results_two14 Try.results15 _ _ (w.heap.size + 1 + 1) _ _ (0, 0) _ rfl F3.out Try.underlying46 rfl (by rw [tabA_size]; exact sizeDoc15)) rfl
      ⟨rfl, F4.out⟩
end Go.Proofs.Ytadecmjojnhlnaa

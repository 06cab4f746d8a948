/-
  The document's Note.
  Conditions: each theorem's own.
-/
import Derived.Test.YtkcddihigagknaaAdvD
namespace Go.Proofs.Ytkcddihigagknaa
open Go.RowKit

/-- What the document's Note tells. -/
def RNoted16 (L : List UInt8) (nd r : Nat) (w : World) (e : Ending) (w' : World) : Prop := e = .returned (.tuple #[.agg (docA (note16 L nd r)), .int .i64 (err16 L nd r : Nat)]) ∧ Below w.heap.size w w'
set_option maxRecDepth 100000 in
set_option maxHeartbeats 4000000 in
theorem rNote16_calls (L : List UInt8) (hL : Good16 L) (nd r : Nat) (hnd : nd < 256) (hr : r < 256) (w : World) : Calls Try.prog 8 #[.agg (docA L), .int .u8 (nd : Int), .int .u8 (r : Int)] w (RNoted16 L nd r w) := by
  have hlen := hL.len
  have hz := zeroDoc16_run
  have hcv : wrap64 (nd : Int) = nd := IntWalk.wrap64_in _ (by omega)
  have HD1 : Hid (Doc16 ((w.alloc (.cells (docA L) 29)).alloc (.cells (docA []) 29)) w.heap.size L) :=
    Doc16.later (w := w.alloc (.cells (docA L) 29)) (heap_alloc_new w _) ((Below.refl _ _).alloc (Nat.le_refl _) _)
  have HX1 : Hid (((w.alloc (.cells (docA L) 29)).alloc (.cells (docA []) 29)).heap[w.heap.size]? = some (.cells (docA L) 29 (0, 0))) := HD1.out
  have HD2 : Hid (Doc16 ((w.alloc (.cells (docA L) 29)).alloc (.cells (docA []) 29)) (w.heap.size + 1) []) := by
    have h := heap_alloc_new (w.alloc (.cells (docA L) 29)) (.cells (docA []) 29)
    rw [World.size_alloc] at h
    exact h
  have HB := Lib.hid (alloc14 (alloc14 (Below.refl _ w) (.cells (docA L) 29)) (.cells (docA []) 29))
  have c0 := HD1.out.c0
  unfold RNoted16
  obtain ⟨n, hn⟩ : ∃ n, n = L.length := ⟨_, rfl⟩
  rw [← hn] at c0 hlen
  have HN := Lib.hid hn
  have hst := HD2.out.store_run Try.prog L
  have HS2 := Lib.hid (HD2.out.stored L)
  have HB2 : Hid (Below w.heap.size w (((w.alloc (.cells (docA L) 29)).alloc (.cells (docA []) 29)).setRow (w.heap.size + 1) (docA L))) :=
    ((Turns.of_below HB.out (fun i => w.heap.size ≤ i)).next (turns_setRow16 _ _ _) (fun i _ e => by have := e; omega)).below (fun i h => h)
  by_cases ht : takes16 L nd r = true
  case neg =>
    rw [show note16 L nd r = L from if_neg ht, show err16 L nd r = 1 from if_neg ht]
    unfold takes16 at ht
    rw [← hn] at ht
    by_cases hl : nd < n
    case neg =>
      have d1 : decide ((nd : Int) ≥ n) = true := by simp; omega
      have d2 : decide (n ≤ nd) = true := by simp; omega
      clear hn ht hl
      go_enter Try.func8, Try.ntmps8
      go_wp2_with (with_reducible refine wpList_load_row rfl 29 (.tmp 3) rfl w.heap.size rfl 29 (docA L) (0, 0) _ HX1.out Try.underlying29 rfl (sizeDoc16A L) ?_)
      exact bodyPost_ret (results_two16 Try.results8 _ _ (w.heap.size + 1) _ _ (0, 0) _ rfl HS2.out Try.underlying29 rfl (sizeDoc16A L)) rfl ⟨rfl, HB2.out⟩
    have d1 : decide ((nd : Int) ≥ n) = false := by simp; omega
    have d2 : decide (n ≤ nd) = false := by simp; omega
    by_cases h0 : r = 0
    case pos =>
      subst h0
      clear hn ht hl
      go_enter Try.func8, Try.ntmps8
      go_wp2_with (with_reducible refine wpList_load_row rfl 29 (.tmp 3) rfl w.heap.size rfl 29 (docA L) (0, 0) _ HX1.out Try.underlying29 rfl (sizeDoc16A L) ?_)
      exact bodyPost_ret (results_two16 Try.results8 _ _ (w.heap.size + 1) _ _ (0, 0) _ rfl HS2.out Try.underlying29 rfl (sizeDoc16A L)) rfl ⟨rfl, HB2.out⟩
    have h3 : 3 < r := by simp [hl] at ht; omega
    have z1 : decide ((r : Int) < 1) = false := by simp; omega
    have z2 : decide (r < 1) = false := by simp; omega
    have z3 : decide (r = 0) = false := by simp; omega
    have g1 : decide ((r : Int) > 3) = true := by simp; omega
    have g2 : decide (3 < r) = true := by simp; omega
    clear hn ht hl h0 h3
    go_enter Try.func8, Try.ntmps8
    go_wp2_with (with_reducible refine wpList_load_row rfl 29 (.tmp 3) rfl w.heap.size rfl 29 (docA L) (0, 0) _ HX1.out Try.underlying29 rfl (sizeDoc16A L) ?_)
    exact bodyPost_ret (results_two16 Try.results8 _ _ (w.heap.size + 1) _ _ (0, 0) _ rfl HS2.out Try.underlying29 rfl (sizeDoc16A L)) rfl ⟨rfl, HB2.out⟩
  clear hst HS2 HB2
  rw [show note16 L nd r = L.set nd (UInt8.ofNat r) from if_pos ht, show err16 L nd r = 0 from if_pos ht]
  unfold takes16 at ht
  rw [← hn] at ht
  simp at ht
  obtain ⟨hl, h0, h3⟩ := ht
  have d1 : decide ((nd : Int) ≥ n) = false := by simp; omega
  have d2 : decide (n ≤ nd) = false := by simp; omega
  have z1 : decide ((r : Int) < 1) = false := by simp; omega
  have z2 : decide (r < 1) = false := by simp; omega
  have z3 : decide (r = 0) = false := by simp; omega
  have g1 : decide ((r : Int) > 3) = false := by simp; omega
  have g2 : decide (3 < r) = false := by simp; omega
  have i1 : (0 : Int) ≤ nd ∧ (nd : Int) < 7 := by omega
  have a1 := HD1.out.at_ (i := nd) (by omega)
  have a2 := HD1.out.free
  have he : (docA L).setIfInBounds (1 + nd) (.int .u8 (r : Int)) = docA (L.set nd (UInt8.ofNat r)) := by
    rw [Nat.add_comm 1 nd]
    exact docA_set L (by omega) hr
  generalize L.set nd (UInt8.ofNat r) = L2 at *
  have hd3 : Doc16 ((w.alloc (.cells (docA L2) 29)).alloc (.cells (docA []) 29)) w.heap.size L2 :=
    Doc16.later (w := w.alloc (.cells (docA L2) 29)) (heap_alloc_new w _) ((Below.refl _ _).alloc (Nat.le_refl _) _)
  have HX3 : Hid (((w.alloc (.cells (docA L2) 29)).alloc (.cells (docA []) 29)).heap[w.heap.size]? = some (.cells (docA L2) 29 (0, 0))) := hd3
  have hd4 : Doc16 ((w.alloc (.cells (docA L2) 29)).alloc (.cells (docA []) 29)) (w.heap.size + 1) [] := by
    have h := heap_alloc_new (w.alloc (.cells (docA L2) 29)) (.cells (docA []) 29)
    rw [World.size_alloc] at h
    exact h
  have hst := hd4.store_run Try.prog L2
  have HS2 := Lib.hid (hd4.stored L2)
  have HB2 : Hid (Below w.heap.size w (((w.alloc (.cells (docA L2) 29)).alloc (.cells (docA []) 29)).setRow (w.heap.size + 1) (docA L2))) :=
    ((Turns.of_below (alloc14 (alloc14 (Below.refl _ w) (.cells (docA L2) 29)) (.cells (docA []) 29)) (fun i => w.heap.size ≤ i)).next (turns_setRow16 _ _ _) (fun i _ e => by have := e; omega)).below (fun i h => h)
  generalize of16 L nd = y at *
  clear hn hl h0 h3 hd3 hd4
  go_enter Try.func8, Try.ntmps8
  go_wp2_with (with_reducible refine wpList_load_row rfl 29 (.tmp 3) rfl w.heap.size rfl 29 (docA L2) (0, 0) _ HX3.out Try.underlying29 rfl (sizeDoc16A _) ?_)
  exact bodyPost_ret (results_two16 Try.results8 _ _ (w.heap.size + 1) _ _ (0, 0) _ rfl HS2.out Try.underlying29 rfl (sizeDoc16A _)) rfl ⟨rfl, HB2.out⟩
end Go.Proofs.Ytkcddihigagknaa

/-
  What All, Sum and Copy of a tally tell: all counts, all together, a tally apart; nothing that was there turns.
  Conditions: the tally is nobody else's (one goroutine).
-/
import Derived.Test.YtbpccjofopenoaaTallyB
import Derived.Laws.ResultCell
namespace Go.Proofs.Ytbpccjofopenoaa
open Go.RowKit

theorem infoArr : (Try.prog.info? 32).map (fun i => (i.zero, i.size, i.bytes)) = some (some (.agg (numA fun _ => 0)), 16, 128) := by kernel_rfl
theorem sizeArr : (Try.prog.info? 32).map (·.size) = some 16 := by
  obtain ⟨i0, hi, hz0, hz1, hz2⟩ := info_parts infoArr
  rw [hi]
  simp [hz1]
theorem zeroArr_run (w : World) : (zeroValue 32).run Try.prog w = .ok (.agg (numA fun _ => 0)) w := by
  obtain ⟨i0, hi, hz0, hz1, hz2⟩ := info_parts infoArr
  simp [zeroValue, typeInfo, hi, hz0]

/-- Sixteen numbers are put where sixteen stood. -/
theorem Num16.store_run {w : World} {B : Nat} {f : Nat → Int} (h : Num16 w B f) (P : Program) (g : Nat → Int) : (storeCells ⟨B, 0, none⟩ (numA g).toList).run P w = .ok () (w.setRow B (numA g)) := by
  obtain ⟨t, h⟩ := h
  have := run_storeCells_from (P := P) B t (numA g).toList 0 _ w h (by simp [numA_size]) (fun v hv => (Array.all_eq_true_iff_forall_mem.1 (numA_one g)) v (by simpa using hv))
  simpa using this
/-- The first k of them. -/
def firstF (f : Nat → Int) (k : Nat) : Nat → Int := fun j => if j < k then f j else 0
theorem firstF_snoc (f : Nat → Int) (k : Nat) : setF (firstF f k) k (f k) = firstF f (k + 1) := by
  funext j
  unfold setF firstF
  by_cases h : j = k
  · subst h; simp
  · rw [if_neg h]
    by_cases h2 : j < k
    · rw [if_pos h2, if_pos (by omega)]
    · rw [if_neg h2, if_neg (by omega)]
theorem firstF_zero (f : Nat → Int) : (fun _ => 0) = firstF f 0 := by
  funext j
  simp [firstF]
theorem Num16.congr {w : World} {B : Nat} {f g : Nat → Int} (h : Num16 w B f) (he : ∀ i, i < 16 → f i = g i) : Num16 w B g := by
  obtain ⟨t, h⟩ := h
  exact ⟨t, by rw [h, numA_congr he]⟩
theorem firstF_all (f : Nat → Int) (i : Nat) (h : i < 16) : firstF f 16 i = f i := if_pos h

/-- All counts are told. -/
def TellsAll (f : Nat → Int) (w : World) (e : Ending) (w' : World) : Prop := e = .returned (.agg (numA f)) ∧ Turns (fun _ => False) w w'

set_option maxRecDepth 100000 in
set_option maxHeartbeats 1000000 in
theorem all4_calls (B : Nat) (f : Nat → Int) (w : World) (h : Num16 w B f) : Calls Try.prog 15 #[.pointer (some ⟨B, 0, none⟩)] w (TellsAll f w) := by
  have hz := zeroArr_run
  have HB := Lib.hid h.lt
  have h0 : Num16 ((w.alloc (.cells (numA fun _ => 0) 32)).alloc (.cells (numA fun _ => 0) 32)) w.heap.size (fun _ => 0) := (Num16.new w _ _).still ((Turns.refl (fun _ => False) _).alloc _)
  have h1 : Num16 ((w.alloc (.cells (numA fun _ => 0) 32)).alloc (.cells (numA fun _ => 0) 32)) (w.heap.size + 1) (fun _ => 0) := by
    have := Num16.new (w.alloc (.cells (numA fun _ => 0) 32)) (fun _ => 0) 32
    simpa using this
  have h2 : Turns (fun _ => False) w ((w.alloc (.cells (numA fun _ => 0) 32)).alloc (.cells (numA fun _ => 0) 32)) := ((Turns.refl (fun _ => False) _).alloc _).alloc _
  have H0 := Lib.hid h0
  have H1 := Lib.hid h1
  have H2 := Lib.hid h2
  have H := Lib.hid h
  clear h h0 h1 h2
  go_enter Try.func15, Try.ntmps15
  go_wp2
  clear hz
  go_loopw [5] (fun i wr => ∃ k : Nat, k ≤ 16 ∧ i = .int .i64 k ∧ Num16 wr (w.heap.size + 1) (firstF f k) ∧ Num16 wr w.heap.size (fun _ => 0) ∧ Turns (fun _ => False) w wr) (fun i _ => 16 - (intOf i).toNat)
  case atStart => exact ⟨0, by omega, rfl, by rw [← firstF_zero]; exact H1.out, H0.out, H2.out⟩
  case round =>
    clear H0 H1 H2
    obtain ⟨k, hk, rfl, hn1, hn0, ht⟩ := hrel
    by_cases hlt : k < 16
    · have hc := (H.out.still ht).cell k hlt
      have hc1 := hn1.cell k hlt
      have hz1 := hn1.free k
      have HR : Hid (Num16 (wr.setCell ⟨w.heap.size + 1, k, none⟩ (.int .i64 (f k))) (w.heap.size + 1) (firstF f (k + 1)) ∧ Num16 (wr.setCell ⟨w.heap.size + 1, k, none⟩ (.int .i64 (f k))) w.heap.size (fun _ => 0) ∧ Turns (fun _ => False) w (wr.setCell ⟨w.heap.size + 1, k, none⟩ (.int .i64 (f k)))) := by
        refine ⟨?_, ?_, ?_⟩
        · rw [← firstF_snoc]; exact hn1.set k (f k)
        · exact hn0.turns ((Turns.refl (fun i => i = w.heap.size + 1) wr).setCell (p := ⟨w.heap.size + 1, k, none⟩) (fun _ => rfl) _) (by omega)
        · exact ht.setCell (p := ⟨w.heap.size + 1, k, none⟩) (fun hlt => by simp at hlt; omega) _
      clear hn1 hn0 ht
      generalize f k = x at *
      go_wp2_with fail
      with_reducible refine (load64_calls ⟨B, k, none⟩ x wr hc).mono ?_
      rintro e w1 ⟨rfl, rfl⟩
      go_wp2
      go_roundw
      case rel => exact ⟨k + 1, by omega, by go_num, HR.out⟩
      case measure => simp [intOf]; omega
    · obtain rfl : k = 16 := by omega
      have hn2 := hn1.congr (firstF_all f)
      obtain ⟨t1, hh1⟩ := hn2
      obtain ⟨t0, hh0⟩ := hn0
      have hr0 : (wr.setRow w.heap.size (numA f)).heap[w.heap.size]? = some (.cells (numA f) t0 (0, 0)) := setRow_heap wr _ _ _ t0 _ hh0
      have hst := Num16.store_run ⟨t0, hh0⟩ Try.prog f
      have hsz := numA_size f
      have HR0 := Lib.hid hr0
      have HT : Hid (Turns (fun _ => False) w (wr.setRow w.heap.size (numA f))) := ht.setRow (fun hl => by omega) _
      have HH1 := Lib.hid hh1
      have HH0 := Lib.hid hh0
      clear hn1 ht hh0 hh1 hr0
      go_wp2_with (with_reducible refine wpList_load_row rfl 32 (.tmp 3) rfl (w.heap.size + 1) rfl t1 (numA f) (0, 0) _ HH1.out Try.underlying32 rfl (by rw [numA_size]; exact sizeArr) ?_)
      exact bodyPost_ret (v := .agg (numA f)) (results_cell_row Try.results15 _ _ w.heap.size t0 (numA f) (0, 0) _ rfl HR0.out Try.underlying32 rfl (by rw [numA_size]; exact sizeArr)) rfl ⟨rfl, HT.out⟩

/-- All together, going round. -/
def sumF (f : Nat → Int) : Nat → Int
  | 0 => 0
  | k + 1 => wrap64 (sumF f k + f k)
theorem index_run (f : Nat → Int) (k : Nat) (hk : k < 16) (w : World) : (Instr.index 32 (.agg (numA f)) (.int .i64 (k : Int))).run Try.prog w = .ok (.int .i64 (f k)) w := by
  have hg := numA_get f k hk
  obtain ⟨i0, hi, hz0, hz1, hz2⟩ := info_parts (show (Try.prog.info? 2).map (fun i => (i.zero, i.size, i.bytes)) = some (some (.int .i64 0), 1, 8) by kernel_rfl)
  have hu := Try.underlying32
  have hu1 := Try.underlying2
  simp [Instr.index, asIntOf, run_underlying hu, part, isAgg, run_underlying hu1, sizeOf, typeInfo, hi, hz1, hg]
  intro h
  omega

set_option maxRecDepth 100000 in
set_option maxHeartbeats 1000000 in
theorem sum4_calls (B : Nat) (f : Nat → Int) (w : World) (h : Num16 w B f) : Calls Try.prog 16 #[.pointer (some ⟨B, 0, none⟩)] w fun e w' => e = .returned (.int .i64 (sumF f 16)) ∧ Turns (fun _ => False) w w' := by
  have H := Lib.hid h
  clear h
  go_enter Try.func16, Try.ntmps16
  go_wp2_with fail
  with_reducible refine (all4_calls B f w H.out).mono ?_
  rintro e w1 ⟨rfl, ht⟩
  have HT := Lib.hid ht
  clear ht
  go_wp2
  go_loop [3, 8] (fun s i => ∃ k : Nat, k ≤ 16 ∧ i = .int .i64 k ∧ s = .int .i64 (sumF f k)) (fun _ i => 16 - (intOf i).toNat)
  case atStart => exact ⟨0, by omega, rfl, rfl⟩
  case round =>
    obtain ⟨k, hk, rfl, rfl⟩ := hrel
    by_cases hlt : k < 16
    · have hi := index_run f k hlt w1
      have HN : Hid (sumF f (k + 1) = wrap64 (sumF f k + f k)) := rfl
      generalize f k = x at *
      generalize sumF f k = s at *
      go_wp2
      go_round
      case rel => exact ⟨k + 1, by omega, by go_num, by rw [HN.out]⟩
      case measure => simp [intOf]; omega
    · obtain rfl : k = 16 := by omega
      go_wp2
      go_ret
      exact ⟨rfl, HT.out⟩

/-- A tally apart, with the same counts. -/
def CopiesT (f : Nat → Int) (w : World) (e : Ending) (w' : World) : Prop := ∃ C, e = .returned (.pointer (some ⟨C, 0, none⟩)) ∧ w.heap.size ≤ C ∧ Num16 w' C f ∧ Turns (fun _ => False) w w'

set_option maxRecDepth 100000 in
set_option maxHeartbeats 1000000 in
theorem copy4_calls (B : Nat) (f : Nat → Int) (w : World) (h : Num16 w B f) : Calls Try.prog 13 #[.pointer (some ⟨B, 0, none⟩)] w (CopiesT f w) := by
  have H := Lib.hid h
  clear h
  go_enter Try.func13, Try.ntmps13
  go_wp2_with fail
  with_reducible refine (new4_calls w).mono ?_
  rintro e w1 ⟨rfl, hw1⟩
  have ht1 : Turns (fun _ => False) w w1 := by rw [hw1]; exact (Turns.refl _ _).alloc _
  have hn1 : Num16 w1 w.heap.size (fun _ => 0) := by rw [hw1]; exact Num16.new w _ _
  have H1 := Lib.hid ht1
  have HN1 := Lib.hid hn1
  have HB1 := Lib.hid (H.out.still ht1)
  clear hw1 ht1 hn1
  go_wp2_with fail
  with_reducible refine (all4_calls B f w1 HB1.out).mono ?_
  rintro e w2 ⟨rfl, ht⟩
  have HT : Hid (Turns (fun _ => False) w w2) := H1.out.next ht (fun _ _ f => f)
  have HN := Lib.hid (HN1.out.still ht)
  clear ht H1 HN1 HB1 H
  go_wp2
  go_loopw [9] (fun i wr => ∃ k : Nat, k ≤ 16 ∧ i = .int .i64 k ∧ Num16 wr w.heap.size (firstF f k) ∧ Turns (fun _ => False) w wr) (fun i _ => 16 - (intOf i).toNat)
  case atStart => exact ⟨0, by omega, rfl, by rw [← firstF_zero]; exact HN.out, HT.out⟩
  case round =>
    clear HN HT
    obtain ⟨k, hk, rfl, hn, ht⟩ := hrel
    by_cases hlt : k < 16
    · have hi := index_run f k hlt wr
      have hc := hn.cell k hlt
      have hz := hn.free k
      have HR : Hid (Num16 (wr.setCell ⟨w.heap.size, k, none⟩ (.int .i64 (f k))) w.heap.size (firstF f (k + 1)) ∧ Turns (fun _ => False) w (wr.setCell ⟨w.heap.size, k, none⟩ (.int .i64 (f k)))) :=
        ⟨by rw [← firstF_snoc]; exact hn.set k (f k), ht.setCell (p := ⟨w.heap.size, k, none⟩) (fun hlt => by simp at hlt) _⟩
      clear hn ht
      generalize f k = x at *
      generalize firstF f k k = y at *
      go_wp2_with fail
      with_reducible refine (store64_calls ⟨w.heap.size, k, none⟩ _ x wr hc hz).mono ?_
      rintro e w3 ⟨rfl, rfl⟩
      go_wp2
      go_roundw
      case rel => exact ⟨k + 1, by omega, by go_num, HR.out⟩
      case measure => simp [intOf]; omega
    · obtain rfl : k = 16 := by omega
      have HN := Lib.hid (hn.congr (firstF_all f))
      have HT := Lib.hid ht
      clear hn ht
      go_wp2
      go_ret
      exact ⟨_, rfl, Nat.le_refl _, HN.out, HT.out⟩
end Go.Proofs.Ytbpccjofopenoaa

/-
  A table's bytes: Write, and the law's bytes; tables have the same bytes just if they are the same.
  Conditions: each theorem's own.
-/
import Derived.Test.YtadecmjojnhlnaaTabW
import Derived.Test.YtadecmjojnhlnaaOpRepM
import Derived.Test.YtadecmjojnhlnaaOpRefT
namespace Go.Proofs.Ytadecmjojnhlnaa
open Go.RowKit

/-- A row's bytes; those of the first rows; a table's. -/
def rowB15 (p : P15) : List UInt8 := le p.n 8 ++ if 0 < p.n then textB (tx14 (repB14 p.e p.ss)) else []
def rowsB15 (X : Nat → P15) (k : Nat) : List UInt8 := (List.range k).flatMap fun i => rowB15 (X i)
def tabB15 (X : Nat → P15) : List UInt8 := rowsB15 X 8
theorem rowsB15_succ (X : Nat → P15) (k : Nat) : rowsB15 X (k + 1) = rowsB15 X k ++ rowB15 (X k) := by
  unfold rowsB15
  rw [List.range_succ, List.flatMap_append]
  simp
theorem rowsB15_congr {X Y : Nat → P15} {k : Nat} (h : ∀ i, i < k → X i = Y i) : rowsB15 X k = rowsB15 Y k := by
  unfold rowsB15
  have : ∀ (l : List Nat), (∀ i ∈ l, i < k) → l.flatMap (fun i => rowB15 (X i)) = l.flatMap (fun i => rowB15 (Y i)) := by
    intro l hl
    induction l with
    | nil => rfl
    | cons a r ih =>
      rw [List.flatMap_cons, List.flatMap_cons, h a (hl a (List.mem_cons_self ..)), ih (fun i hi => hl i (List.mem_cons_of_mem _ hi))]
  exact this _ (fun i hi => List.mem_range.1 hi)
theorem texts_len15 : ∀ (ls : List ByteArray), (∀ s ∈ ls, s.size ≤ 50) → (textsB ls).length ≤ 52 * ls.length
  | [], _ => Nat.le_refl _
  | t :: ls, h => by
    have h1 := texts_len15 ls (fun s hs => h s (List.mem_cons_of_mem _ hs))
    have h2 := h t (List.mem_cons_self ..)
    have e : textsB (t :: ls) = textB t ++ textsB ls := rfl
    rw [e, List.length_append, textB_length, List.length_cons]
    omega
/-- What may be a row, plain. -/
structure MayP15 (p : P15) : Prop where
  n : p.n ≤ 1099511627776
  e : p.e ≤ 18
  z : p.n = 0 → p.e = 0 ∧ p.ss = []
  t : p.e ≠ 0 → p.ss = []
  few : p.ss.length ≤ 10
  lit : ∀ s ∈ p.ss, s.size ≤ 50
theorem May15.p {r : R15} (h : May15 r) : MayP15 r.p := ⟨h.n, h.e, h.z, h.t, h.few, h.lit⟩
theorem repB_len15 {p : P15} (h : MayP15 p) : (repB14 p.e p.ss).length ≤ 523 := by
  have hl : (tls14 p.e p.ss).length ≤ 10 ∧ ∀ s ∈ tls14 p.e p.ss, s.size ≤ 50 := by
    unfold tls14
    split
    · exact ⟨h.few, h.lit⟩
    · exact ⟨Nat.zero_le _, fun s hs => by cases hs⟩
  have := texts_len15 _ hl.2
  unfold repB14 rowB
  simp only [List.length_append, le_length]
  omega
theorem rowB_len15 {p : P15} (h : MayP15 p) : (rowB15 p).length ≤ 533 := by
  have := repB_len15 h
  unfold rowB15
  rw [List.length_append, le_length]
  split
  · rw [textB_length, tx14_size]; omega
  · simp
theorem rowsB_len15 {X : Nat → P15} (h : ∀ i, i < 8 → MayP15 (X i)) : ∀ k, k ≤ 8 → (rowsB15 X k).length ≤ 533 * k
  | 0, _ => by simp [rowsB15]
  | k + 1, hk => by
    have h1 := rowsB_len15 h k (by omega)
    have h2 := rowB_len15 (h k (by omega))
    rw [rowsB15_succ, List.length_append]
    omega
theorem tls_mayP15 {p : P15} (h : MayP15 p) : tls14 p.e p.ss = p.ss := by
  unfold tls14
  by_cases he : p.e = 0
  · rw [if_pos (by omega)]
  · rw [if_neg (by omega), h.t he]

/-- Blocks of rows are left as they are. -/
def KeepR15 (w w' : World) : Prop := ∀ (k : Nat) (cs : Array Value), w.heap[k]? = some (.cells cs 63 (0, 0)) → w'.heap[k]? = some (.cells cs 63 (0, 0))
theorem Wtr.no_row15 {w : World} {B : Nat} {v : Value} {bs : List UInt8} (h : Wtr w B v bs) {k : Nat} {cs : Array Value} (hk : w.heap[k]? = some (.cells cs 63 (0, 0))) : ¬ (k = B ∨ v.ownBlock = some k) := by
  rintro (rfl | hv)
  · have h1 := h.1
    rw [hk] at h1
    injection h1 with h1
    injection h1 with _ h2
    exact absurd h2 (by decide)
  · rcases h.2.2 with ⟨rfl, _⟩ | ⟨g, cap, cur, rfl, _, hg, _⟩
    · simp [Value.ownBlock] at hv
    · have : g = k := by simpa [Value.ownBlock] using hv
      subst this
      rw [hg] at hk
      injection hk with hk
      injection hk with _ h2
      exact absurd h2 (by decide)
theorem NW14.eight {w W : World} {R : Nat} {bs : List UInt8} (x : Nat) (h : NW14 w R bs W) (hx : x < 18446744073709551616) (hr : bs.length ≤ 500000) :
    Calls Try.prog 37 #[.pointer (some ⟨R, 0, none⟩), .int .u64 x] W fun e w' => e = .returned (.pointer (some ⟨R, 0, none⟩)) ∧ NW14 w R (bs ++ le x 8) w' ∧ KeepR15 W w' := by
  obtain ⟨hB, ⟨v, hw, hv⟩, ht⟩ := h
  exact (eight_calls R v bs x W hw hx (by omega)).mono fun e w' ⟨he, hg⟩ => ⟨he, hg.nw14 hB hv ht, fun k cs hk => by
    obtain ⟨_, _, _, ht2⟩ := hg
    exact (ht2.block k (Array.getElem?_eq_some_iff.1 hk).1 (hw.no_row15 hk)).trans hk⟩

theorem sizeRows15 : (Try.prog.info? 64).map (·.size) = some 24 := by kernel_rfl
theorem index15_run (T : Nat → R15) (k : Nat) (hk : k < 8) (w : World) : (Instr.index 64 (.agg (tabA T)) (.int .i64 (k : Int))).run Try.prog w = .ok (T k).v w := by
  obtain ⟨i0, hi, hz1⟩ : ∃ i0, Try.prog.info? 63 = some i0 ∧ i0.size = 3 := by
    have := sizeRow15
    rw [Option.map_eq_some_iff] at this
    exact this
  have hex : (tabA T).extract (k * 3) (k * 3 + 3) = #[(T k).cell 0, (T k).cell 1, (T k).cell 2] := by
    apply Array.ext
    · simp [tabA_size]; omega
    · intro j h1 h2
      have hj : j < 3 := by simpa using h2
      have e1 := tabA_at T k j hk hj
      rw [Array.getElem?_eq_getElem (by rw [tabA_size]; omega)] at e1
      rw [Array.getElem_extract, Option.some.inj e1]
      match j, hj with
      | 0, _ => rfl
      | 1, _ => rfl
      | 2, _ => rfl
  have hu := Try.underlying64
  have hu1 := Try.underlying63
  simp [Instr.index, asIntOf, run_underlying hu, part, isAgg, run_underlying hu1, sizeOf, typeInfo, hi, hz1, hex, R15.v, R15.cell]
  intro h
  omega

/-- A row's block. -/
def RowAt15 (w : World) (X : Nat) (n e : Nat) (v : Value) : Prop := w.heap[X]? = some (.cells #[.int .u64 n, .int .i64 e, v] 63 (0, 0))
theorem RowAt15.cells {w : World} {X n e : Nat} {v : Value} (h : RowAt15 w X n e v) : w.cell? ⟨X, 0, none⟩ = some (.int .u64 n) ∧ w.cell? ⟨X, 1, none⟩ = some (.int .i64 e) ∧ w.cell? ⟨X, 2, none⟩ = some v := by
  refine ⟨?_, ?_, ?_⟩
  all_goals rw [cell_of_row w X _ _ _ (0, 0) h]; rfl

set_option maxRecDepth 100000 in
set_option maxHeartbeats 4000000 in
theorem Write15_calls {w W : World} {P B R : Nat} {T : Nat → R15} (h : Own15 w P B T) (hW : NW14 w R [] W) :
    Calls Try.prog 27 #[.pointer (some ⟨B, 0, none⟩), .pointer (some ⟨R, 0, none⟩)] W fun e w' => e = .returned (.tuple #[]) ∧ NW14 w R (tabB15 (fun i => (T i).p)) w' := by
  have HX : Hid (W.heap[B]? = some (.cells (tabA T) 66 (0, 0))) := (hW.2.2.block B h.at_.lt).trans h.at_
  have HT : Hid (∀ i, i < 8 → ∀ W', Below w.heap.size w W' → Txt15 W' (T i).A (T i).c (T i).ss) := fun i hi W' hb => (h.tx i hi).later hb
  have HM : Hid (∀ i, i < 8 → MayP15 (T i).p) := fun i hi => (h.may i hi).p
  have HW := Lib.hid hW
  clear h hW
  go_enter Try.func27, Try.ntmps27
  go_wp2_with (with_reducible refine wpList_load_row rfl 64 (.tmp 8) rfl B rfl 66 (tabA T) (0, 0) _ HX.out Try.underlying64 rfl (by rw [tabA_size]; exact sizeRows15) ?_)
  go_loopg [10] 8 (fun gg s10 wr => ∃ k : Nat, k ≤ 8 ∧ 8 - k ≤ gg ∧ s10 = .int .i64 k ∧ Hid (NW14 w R (rowsB15 (fun i => (T i).p) k) wr))
  case atStart => exact ⟨0, Nat.zero_le _, by omega, rfl, HW.out⟩
  case round =>
    clear HW HX
    obtain ⟨k, hk, hg, rfl, HN⟩ := hrel
    by_cases hlt : k < 8
    · have hi := fun W => index15_run T k hlt W
      have htx := HT.out k hlt
      have hm := HM.out k hlt
      have hlen := rowsB_len15 HM.out k hk
      have hNX : Hid (rowsB15 (fun i => (T i).p) (k + 1) = rowsB15 (fun i => (T i).p) k ++ (le (T k).n 8 ++ if 0 < (T k).n then textB (tx14 (repB14 (T k).e (T k).ss)) else [])) := rowsB15_succ _ k
      have hle : (T k).n < 18446744073709551616 := by have : (T k).n ≤ 1099511627776 := hm.n; omega
      have he18 : (T k).e ≤ 18 := hm.e
      have hrl : (repB14 (T k).e (T k).ss).length ≤ 523 := repB_len15 hm
      have hfew : (T k).ss.length ≤ 10 ∧ ∀ s ∈ (T k).ss, s.size ≤ 50 := ⟨hm.few, hm.lit⟩
      unfold R15.v at hi
      obtain ⟨bs, hbs⟩ : ∃ bs, bs = rowsB15 (fun i => (T i).p) k := ⟨_, rfl⟩
      obtain ⟨bn, hbn⟩ : ∃ bn, bn = rowsB15 (fun i => (T i).p) (k + 1) := ⟨_, rfl⟩
      have HBN := Lib.hid hbn
      rw [← hbs] at hNX hlen
      have HN1 : Hid (NW14 w R bs wr) := by rw [hbs]; exact HN.out
      have HBX : Hid (bn = bs ++ (le (T k).n 8 ++ if 0 < (T k).n then textB (tx14 (repB14 (T k).e (T k).ss)) else [])) := hbn.trans hNX.out
      clear hbs hbn hNX HN hm
      generalize (T k).n = n at *
      generalize (T k).e = e at *
      generalize (T k).A = A at *
      generalize (T k).c = q at *
      generalize (T k).ss = ss at *
      have HE : Hid (∀ W', NW14 w R bs W' → Calls Try.prog 37 #[.pointer (some ⟨R, 0, none⟩), .int .u64 n] W' fun e w' => e = .returned (.pointer (some ⟨R, 0, none⟩)) ∧ NW14 w R (bs ++ le n 8) w' ∧ KeepR15 W' w') := fun W' hn => hn.eight n hle (by omega)
      have HTX : Hid (∀ W', Below w.heap.size w W' → Txt15 W' A q ss) := htx
      have HPU : Hid (∀ W', Below w.heap.size w W' → Calls Try.prog 39 #[.agg #[.int .i64 e, .slice A ss.length q]] W' (Told14 W' (repB14 e ss))) := fun W' hb => by
        have ht := HTX.out W' hb
        exact Put14_calls e A q ss W' (by omega) ht.rd ⟨by omega, fun s hs => by have := hfew.2 s hs; omega⟩ ht.len ht.cap
      have HTE : Hid (∀ W', NW14 w R (bs ++ le n 8) W' → Calls Try.prog 38 #[.pointer (some ⟨R, 0, none⟩), .string (tx14 (repB14 e ss))] W' (Grows14 w W' R (bs ++ le n 8 ++ textB (tx14 (repB14 e ss))))) := fun W' hn => hn.text _ (by rw [tx14_size]; omega) (by rw [List.length_append, le_length]; omega)
      clear htx HTX hfew hle he18
      generalize repB14 e ss = rb at *
      generalize ss.length = m at *
      have hRX : RowAt15 (wr.alloc (.cells #[.int .u64 n, .int .i64 e, .slice A m q] 63)) wr.heap.size n e (.slice A m q) := heap_alloc_new wr _
      have HN2 : Hid (NW14 w R bs (wr.alloc (.cells #[.int .u64 n, .int .i64 e, .slice A m q] 63))) := HN1.out.below (alloc14 (Below.refl _ _) _)
      have c0 := hRX.cells.1
      have HRX := Lib.hid hRX
      clear hRX HN1
      go_wp2_with fail
      generalize wr.alloc (.cells #[.int .u64 n, .int .i64 e, .slice A m q] 63) = w1 at *
      with_reducible refine (HE.out _ HN2.out).mono ?_
      rintro e' w2 ⟨rfl, hn2, hk2⟩
      obtain ⟨x0, x1, x2⟩ := RowAt15.cells (hk2 _ _ HRX.out)
      have HN3 := Lib.hid hn2
      clear hn2 hk2 c0 HRX HN2 HE
      by_cases hn0 : 0 < n
      · have d1 : decide ((n : Int) > 0) = true := by simp; omega
        have d2 : decide (0 < n) = true := by simp; omega
        have HBY : Hid (bn = bs ++ le n 8 ++ textB (tx14 rb)) := by rw [HBX.out, if_pos hn0, List.append_assoc]; exact rfl
        have HBW : Hid (Below w.heap.size w w2) := by obtain ⟨_, _, h⟩ := HN3.out; exact h
        clear HBX hn0
        go_wp2_with fail
        with_reducible refine (HPU.out _ HBW.out).mono ?_
        rintro e' w3 ⟨v, rfl, ho, _, hb⟩
        obtain ⟨A3, c3, rfl⟩ := owns_shape ho
        have hcv := conv14 (Rd.of_own ho)
        have HN4 := Lib.hid (HN3.out.below hb)
        clear ho hb x0 x1 x2 HN3 HPU
        go_wp2_with fail
        with_reducible refine (HTE.out _ HN4.out).mono ?_
        rintro e' w4 ⟨rfl, hn4, _⟩
        have HN5 : Hid (NW14 w R bn w4) := by rw [HBY.out]; exact hn4
        clear hn4 hcv HN4 HTE
        go_wp2
        go_roundg (8 - (k + 1))
        case measure => omega
        case rel => exact ⟨k + 1, by omega, by omega, by go_num, HBN.out ▸ HN5.out⟩
      · have d1 : decide ((n : Int) > 0) = false := by simp; omega
        have d2 : decide (0 < n) = false := by simp; omega
        have HN5 : Hid (NW14 w R bn w2) := by rw [HBX.out, if_neg hn0, List.append_nil]; exact HN3.out
        clear HBX hn0 HPU HTE HN3
        go_wp2
        go_roundg (8 - (k + 1))
        case measure => omega
        case rel => exact ⟨k + 1, by omega, by omega, by go_num, HBN.out ▸ HN5.out⟩
    · obtain rfl : k = 8 := by omega
      go_wp2
      go_end0
      exact ⟨rfl, HN.out⟩

set_option maxRecDepth 100000 in
theorem bytes15_calls {w : World} {P B : Nat} {T : Nat → R15} (h : Own15 w P B T) :
    Calls Try.prog 14 #[.pointer (some ⟨B, 0, none⟩)] w (Says14 (.string (tx14 (tabB15 (fun i => (T i).p)))) w) := by
  have HWR : Hid (∀ W, NW14 w w.heap.size [] W → Calls Try.prog 27 #[.pointer (some ⟨B, 0, none⟩), .pointer (some ⟨w.heap.size, 0, none⟩)] W fun e w' => e = .returned (.tuple #[]) ∧ NW14 w w.heap.size (tabB15 (fun i => (T i).p)) w') := fun W hW => Write15_calls h hW
  have hl : (tabB15 (fun i => (T i).p)).length ≤ 1000000 := by
    have := rowsB_len15 (X := fun i => (T i).p) (fun i hi => (h.may i hi).p) 8 (Nat.le_refl _)
    unfold tabB15
    omega
  have HL := Lib.hid hl
  clear hl
  have HZ := Lib.hid (NW14.zero w)
  clear h
  generalize tabB15 (fun i => (T i).p) = bs at *
  go_enter Try.func14, Try.ntmps14
  go_wp2_with fail
  with_reducible refine (HWR.out _ HZ.out).mono ?_
  rintro e w1 ⟨rfl, hn⟩
  have HN := Lib.hid hn
  clear hn HWR HZ
  go_wp2_with fail
  with_reducible refine (NW14.bytes HN.out HL.out).mono ?_
  rintro e w2 ⟨v, rfl, ho, _, hb⟩
  obtain ⟨A3, c3, rfl⟩ := owns_shape ho
  have hcv := conv14 (Rd.of_own ho)
  have HB := Lib.hid hb
  clear ho hb HN
  go_wp2
  go_ret
  exact ⟨rfl, HB.out⟩
end Go.Proofs.Ytadecmjojnhlnaa

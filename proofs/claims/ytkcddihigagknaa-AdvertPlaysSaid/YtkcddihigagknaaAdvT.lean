/-
  A board in memory: New, Nodes, Note, Of, Has.
  Conditions: each theorem's own.
-/
import Derived.Test.YtkcddihigagknaaAdvM
import Derived.Test.YtkcddihigagknaaOpTab
import Derived.Test.YtkcddihigagknaaWrite
namespace Go.Proofs.Ytkcddihigagknaa
open Go.RowKit

theorem infoRel : (Try.prog.info? 36).map (fun i => (i.zero, i.size, i.bytes)) = some (some (.int .u8 0), 1, 1) := by kernel_rfl

/-- Block B is a board whose row lies at block A, with room for c. -/
structure Bd16 (w : World) (B A c : Nat) (L : List UInt8) : Prop where
  blk : w.heap[B]? = some (.cells #[.slice (some ⟨A, 0, none⟩) L.length c] 57 (0, 0))
  own : w.ownsRow 0 36 1 (.slice (some ⟨A, 0, none⟩) L.length c) L.length (cellsOf L)
  ne : A ≠ B
  good : Good16 L

section
variable {w w' : World} {B A c : Nat} {L : List UInt8}
theorem Bd16.lt (h : Bd16 w B A c L) : B < w.heap.size := (Array.getElem?_eq_some_iff.1 h.blk).1
theorem Bd16.row (h : Bd16 w B A c L) : ∃ cur : Array Value, w.heap[A]? = some (.cells cur 36 (0, 0)) ∧ L.length ≤ c ∧ c ≤ maxLen ∧ cur.size = c ∧ cur.toList.take L.length = cellsOf L := by
  rcases h.own.2 with ⟨e, _⟩ | ⟨g, cap, cur, e, _, hg, h1, h2, h3, h4⟩
  · cases e
  · injection e with e1 e2 e3
    injection e1 with e1
    injection e1 with e1
    subst e1 e3
    exact ⟨cur, hg, h1, h2, by simpa using h3, by simpa using h4⟩
theorem Bd16.ltA (h : Bd16 w B A c L) : A < w.heap.size := by
  obtain ⟨_, h, _⟩ := h.row
  exact (Array.getElem?_eq_some_iff.1 h).1
theorem Bd16.room (h : Bd16 w B A c L) : L.length ≤ c ∧ c ≤ 9223372036854775807 := by
  obtain ⟨_, _, h1, h2, _⟩ := h.row
  exact ⟨h1, by simpa [maxLen] using h2⟩
theorem Bd16.cell (h : Bd16 w B A c L) : w.cell? ⟨B, 0, none⟩ = some (.slice (some ⟨A, 0, none⟩) L.length c) := by
  rw [cell_of_row w B 0 _ _ (0, 0) h.blk]; rfl
theorem Bd16.at_ (h : Bd16 w B A c L) (i : Nat) (hi : i < L.length) : w.cell? ⟨A, i, none⟩ = some (.int .u8 (of16 L i : Nat)) := by
  have := h.own.cells (g := A) rfl i (.int .u8 (L[i].toNat : Int)) (by simp [cellsOf, List.getElem?_eq_getElem hi])
  rw [Addr.add_lit, Nat.zero_add] at this
  rw [this]
  unfold of16
  rw [List.getD_eq_getElem?_getD, List.getElem?_eq_getElem hi]
  rfl
theorem Bd16.free (h : Bd16 w B A c L) (i : Nat) : w.frozen? ⟨A, i, none⟩ = false := by
  obtain ⟨_, h, _⟩ := h.row
  simp [World.frozen?, h]
theorem Bd16.turns {S : Nat → Prop} (h : Bd16 w B A c L) (ht : Turns S w w') (hB : ¬ S B) (hA : ¬ S A) : Bd16 w' B A c L :=
  ⟨(ht.block B h.lt hB).trans h.blk, ht.owns h.own (fun k hk he => hA (by have h1 : A = k := (by simpa [Value.ownBlock] using hk); exact h1 ▸ he)), h.ne, h.good⟩
theorem Bd16.later (h : Bd16 w B A c L) (hb : Below w.heap.size w w') : Bd16 w' B A c L := h.turns (turns14 hb) (fun f => f) (fun f => f)
theorem Bd16.rd (h : Bd16 w B A c L) : Rd w (.slice (some ⟨A, 0, none⟩) L.length c) L := Rd.of_own h.own
theorem cellsOf_set16 (L : List UInt8) (i : Nat) {r : Nat} (hr : r < 256) : cellsOf (L.set i (UInt8.ofNat r)) = (cellsOf L).set i (.int .u8 (r : Int)) := by
  unfold cellsOf
  rw [List.map_set]
  have := ofNat_toNat16 hr
  rw [this]
/-- A release is stored. -/
theorem Bd16.set (h : Bd16 w B A c L) {i r : Nat} (hi : i < L.length) (hr1 : 1 ≤ r) (hr3 : r ≤ 3) : Bd16 (w.setCell ⟨A, i, none⟩ (.int .u8 (r : Int))) B A c (note16 L i r) := by
  have ht : takes16 L i r = true := by unfold takes16; simp; omega
  have e : note16 L i r = L.set i (UInt8.ofNat r) := by unfold note16; rw [if_pos ht]
  have hl : (L.set i (UInt8.ofNat r)).length = L.length := by simp
  have hg := h.good.note i (r := r) (by omega)
  rw [e] at hg ⊢
  refine ⟨?_, ?_, h.ne, hg⟩
  · rw [hl, Below.heap_setCell _ _ _ _ (fun k => h.ne k.symm)]
    exact h.blk
  · rw [hl, cellsOf_set16 L i (by omega)]
    exact (h.own.stored i _).1
theorem turns_set16 (w : World) (A i : Nat) (u : Value) : Turns (fun k => k = A) w (w.setCell ⟨A, i, none⟩ u) := (Turns.refl (fun k => k = A) w).setCell (p := ⟨A, i, none⟩) (fun _ => rfl) u
end

set_option maxRecDepth 100000 in
set_option maxHeartbeats 1000000 in
theorem mayBe16_calls (n : Int) (w : World) : Calls Try.prog 23 #[.int .i64 n] w fun e w' => e = .returned (.bool (may16 n)) ∧ w = w' := by
  unfold may16
  cases h3 : n == 3
  case true =>
    rw [Bool.true_or]
    go_enter Try.func23, Try.ntmps23
    go_wp2
    go_ret
    exact ⟨rfl, rfl⟩
  case false =>
    rw [Bool.false_or]
    cases h5 : n == 5
    case true =>
      rw [Bool.true_or]
      go_enter Try.func23, Try.ntmps23
      go_wp2
      go_ret
      exact ⟨rfl, rfl⟩
    case false =>
      rw [Bool.false_or]
      cases h7 : n == 7
      all_goals
        go_enter Try.func23, Try.ntmps23
        go_wp2
        go_ret
        exact ⟨rfl, rfl⟩

set_option maxRecDepth 100000 in
theorem Nodes16_calls {w : World} {B A c : Nat} {L : List UInt8} (h : Bd16 w B A c L) : Calls Try.prog 21 #[.pointer (some ⟨B, 0, none⟩)] w fun e w' => e = .returned (.int .i64 (L.length : Nat)) ∧ w = w' := by
  have hc := h.cell
  generalize L.length = n at *
  clear h
  go_enter Try.func21, Try.ntmps21
  go_wp2
  go_ret
  exact ⟨rfl, rfl⟩

set_option maxRecDepth 100000 in
theorem known16_calls {w : World} {B A c : Nat} {L : List UInt8} (h : Bd16 w B A c L) (node : Nat) (hnd : node < 256) : Calls Try.prog 24 #[.pointer (some ⟨B, 0, none⟩), .int .u8 (node : Int)] w fun e w' => e = .returned (.bool (decide (node < L.length))) ∧ w = w' := by
  have HN := Lib.hid (Nodes16_calls h)
  generalize L.length = n at *
  have hcv : wrap64 (node : Int) = node := IntWalk.wrap64_in _ (by omega)
  clear h
  go_enter Try.func24, Try.ntmps24
  go_wp2_with fail
  with_reducible refine HN.out.mono ?_
  rintro e w1 ⟨rfl, rfl⟩
  clear HN
  go_wp2
  go_ret
  exact ⟨rfl, rfl⟩

set_option maxRecDepth 100000 in
theorem Has16_calls (r a : Nat) (w : World) (hr : r < 256) (ha : a < 256) : Calls Try.prog 19 #[.int .u8 (r : Int), .int .u8 (a : Int)] w fun e w' => e = .returned (.bool (has16 r a)) ∧ w = w' := by
  have h1 := u8_and_nat r a hr ha
  have h2 : (((r &&& a : Nat) : Int) == (a : Int)) = has16 r a := by
    unfold has16
    by_cases h : r &&& a = a
    · rw [h]; simp
    · have h3 : ¬ ((r &&& a : Nat) : Int) = a := by omega
      rw [beq_eq_false_iff_ne.2 h, beq_eq_false_iff_ne.2 h3]
  generalize r &&& a = x at *
  generalize has16 r a = q at *
  clear hr ha
  go_enter Try.func19, Try.ntmps19
  go_wp2
  go_ret
  exact ⟨rfl, rfl⟩

set_option maxRecDepth 100000 in
theorem New16_none (n : Int) (w : World) (h : may16 n = false) : Calls Try.prog 6 #[.int .i64 n] w fun e w' => e = .returned (.pointer none) ∧ w = w' := by
  have HM := Lib.hid (mayBe16_calls n w)
  rw [h] at HM
  clear h
  go_enter Try.func6, Try.ntmps6
  go_wp2_with fail
  with_reducible refine HM.out.mono ?_
  rintro e w1 ⟨rfl, rfl⟩
  clear HM
  go_wp2
  go_ret
  exact ⟨rfl, rfl⟩

/-- A new board of n nodes. -/
def Newly16 (n : Nat) (w : World) (e : Ending) (w' : World) : Prop := ∃ B A, e = .returned (.pointer (some ⟨B, 0, none⟩)) ∧ w.heap.size ≤ A ∧ w.heap.size ≤ B ∧ Below w.heap.size w w' ∧ Bd16 w' B A n (List.replicate n 0)
set_option maxRecDepth 100000 in
theorem New16_calls (n : Nat) (w : World) (h : may16 n = true) : Calls Try.prog 6 #[.int .i64 (n : Int)] w (Newly16 n w) := by
  have HM := Lib.hid (mayBe16_calls n w)
  rw [h] at HM
  have hn : n ≤ 7 := by rcases may16_cases h with e | e | e <;> omega
  obtain ⟨i0, hi, hz0, hz1, hz2⟩ := info_parts infoRel
  obtain ⟨w1, hmk, hown, hg⟩ := run_makeSlice_full (P := Try.prog) w 0 55 36 i0 (.int .u8 0) 1 Try.underlying55 hi hz0 hz1 .i64 .i64 n (by omega) (by rw [hz2]; omega) (by simp [maxLen]; omega) (Nat.zero_le _)
  have e1 : (madeCells (Value.int .u8 0).cells (n * 1)).toList = cellsOf (List.replicate n 0) := by
    rw [show (Value.int .u8 0).cells = #[.int .u8 0] from rfl, toList_madeCells_one, Nat.mul_one, cellsOf, List.map_replicate]
    rfl
  rw [e1] at hown
  have hlr : (List.replicate n (0 : UInt8)).length = n := by simp
  have hA : w.heap.size < w1.heap.size := by
    rcases hown.2 with ⟨e, _⟩ | ⟨g, _, cur, e, _, hgg, _⟩
    · cases e
    · injection e with e _ _
      injection e with e
      injection e with e
      rw [e]
      exact (Array.getElem?_eq_some_iff.1 hgg).1
  have hb1 : Below w.heap.size w w1 := ⟨hg.os, hg.tape, hg.output, hg.size, fun k hk => hg.block k hk (fun e => by cases e)⟩
  have hbd : Bd16 (w1.alloc (.cells #[.slice (some ⟨w.heap.size, 0, none⟩) n n] 57)) w1.heap.size w.heap.size n (List.replicate n 0) := by
    refine ⟨by rw [hlr]; exact heap_alloc_new w1 _, ?_, by omega, Good16.new h⟩
    rw [hlr]
    exact ((Turns.refl (fun _ => False) w1).alloc _).owns hown (fun _ _ f => f)
  have HBD := Lib.hid hbd
  have HB := Lib.hid (alloc14 hb1 (.cells #[.slice (some ⟨w.heap.size, 0, none⟩) n n] 57))
  have HA := Lib.hid hA
  have HS := Lib.hid hb1.size
  clear h hn hi hz0 hz1 hz2 hown hg e1 hlr hA hb1 hbd
  go_enter Try.func6, Try.ntmps6
  go_wp2_with fail
  with_reducible refine HM.out.mono ?_
  rintro e w2 ⟨rfl, rfl⟩
  clear HM
  go_wp2
  go_ret
  exact ⟨_, _, rfl, Nat.le_refl _, HS.out, HB.out, HBD.out⟩

theorem of16_out {L : List UInt8} {i : Nat} (h : L.length ≤ i) : of16 L i = 0 := by
  unfold of16
  rw [List.getD_eq_getElem?_getD, List.getElem?_eq_none h]
  rfl
set_option maxRecDepth 100000 in
theorem Of16_calls {w : World} {B A c : Nat} {L : List UInt8} (h : Bd16 w B A c L) (node : Nat) (hnd : node < 256) : Calls Try.prog 22 #[.pointer (some ⟨B, 0, none⟩), .int .u8 (node : Int)] w fun e w' => e = .returned (.int .u8 (of16 L node : Nat)) ∧ w = w' := by
  have HK := Lib.hid (known16_calls h node hnd)
  have hc := h.cell
  by_cases hl : node < L.length
  · have ha := h.at_ node hl
    rw [decide_eq_true hl] at HK
    have d1 : (0 : Int) ≤ node ∧ (node : Int) < L.length := by omega
    generalize L.length = n at *
    generalize of16 L node = x at *
    clear h hnd
    go_enter Try.func22, Try.ntmps22
    go_wp2_with fail
    with_reducible refine HK.out.mono ?_
    rintro e w1 ⟨rfl, rfl⟩
    clear HK
    go_wp2
    go_ret
    exact ⟨rfl, rfl⟩
  · rw [decide_eq_false hl] at HK
    rw [of16_out (by omega)]
    generalize L.length = n at *
    clear h hnd hl
    go_enter Try.func22, Try.ntmps22
    go_wp2_with fail
    with_reducible refine HK.out.mono ?_
    rintro e w1 ⟨rfl, rfl⟩
    clear HK
    go_wp2
    go_ret
    exact ⟨rfl, rfl⟩

/-- A release is noted, or refused. -/
def Noted16 (w : World) (B A c : Nat) (L : List UInt8) (node r : Nat) (e : Ending) (w' : World) : Prop := e = .returned (.int .i64 (err16 L node r : Nat)) ∧ Bd16 w' B A c (note16 L node r) ∧ Turns (fun k => k = A) w w'
theorem Noted16.no {w : World} {B A c : Nat} {L : List UInt8} {node r : Nat} (h : Bd16 w B A c L) (ht : takes16 L node r = false) : Noted16 w B A c L node r (.returned (.int .i64 1)) w := by
  have e1 : err16 L node r = 1 := by unfold err16; rw [ht]; rfl
  have e2 : note16 L node r = L := by unfold note16; rw [ht]; rfl
  unfold Noted16
  rw [e1, e2]
  exact ⟨rfl, h, Turns.refl _ _⟩
set_option maxRecDepth 100000 in
set_option maxHeartbeats 1000000 in
theorem Note16_calls {w : World} {B A c : Nat} {L : List UInt8} (h : Bd16 w B A c L) (node r : Nat) (hnd : node < 256) : Calls Try.prog 9 #[.pointer (some ⟨B, 0, none⟩), .int .u8 (node : Int), .int .u8 (r : Int)] w (Noted16 w B A c L node r) := by
  have HK := Lib.hid (known16_calls h node hnd)
  by_cases hl : node < L.length
  case neg =>
    rw [decide_eq_false hl] at HK
    have HZ := Lib.hid (Noted16.no (node := node) (r := r) h (by unfold takes16; simp [hl]))
    clear h hnd hl
    go_enter Try.func9, Try.ntmps9
    go_wp2_with fail
    with_reducible refine HK.out.mono ?_
    rintro e w1 ⟨rfl, rfl⟩
    clear HK
    go_wp2
    go_ret
    exact HZ.out
  rw [decide_eq_true hl] at HK
  by_cases h0 : r = 0
  case pos =>
    subst h0
    have HZ := Lib.hid (Noted16.no (node := node) (r := 0) h (by unfold takes16; simp))
    clear h hnd hl
    go_enter Try.func9, Try.ntmps9
    go_wp2_with fail
    with_reducible refine HK.out.mono ?_
    rintro e w1 ⟨rfl, rfl⟩
    clear HK
    go_wp2
    go_ret
    exact HZ.out
  have z1 : ((r : Int) == 0) = false := by simp; omega
  have z2 : (r == 0) = false := by simp; omega
  by_cases h3 : r ≤ 3
  case neg =>
    have g1 : decide ((r : Int) > 3) = true := by simp; omega
    have g2 : decide (3 < r) = true := by simp; omega
    have HZ := Lib.hid (Noted16.no (node := node) (r := r) h (by unfold takes16; simp; omega))
    clear h hnd hl h0 h3
    go_enter Try.func9, Try.ntmps9
    go_wp2_with fail
    with_reducible refine HK.out.mono ?_
    rintro e w1 ⟨rfl, rfl⟩
    clear HK
    go_wp2
    go_ret
    exact HZ.out
  have g1 : decide ((r : Int) > 3) = false := by simp; omega
  have g2 : decide (3 < r) = false := by simp; omega
  have hc := h.cell
  have ha := h.at_ node hl
  have hf := h.free
  have d1 : (0 : Int) ≤ node ∧ (node : Int) < L.length := by omega
  have HZ : Hid (Noted16 w B A c L node r (.returned (.int .i64 0)) (w.setCell ⟨A, node, none⟩ (.int .u8 (r : Int)))) := by
    have ht : takes16 L node r = true := by unfold takes16; simp; omega
    refine ⟨?_, h.set hl (by omega) h3, turns_set16 _ _ _ _⟩
    unfold err16
    rw [if_pos ht]
    rfl
  generalize hn : L.length = n at *
  generalize of16 L node = x at *
  clear h hnd h0 h3 hn
  go_enter Try.func9, Try.ntmps9
  go_wp2_with fail
  with_reducible refine HK.out.mono ?_
  rintro e w1 ⟨rfl, rfl⟩
  clear HK
  go_wp2
  go_ret
  exact HZ.out
end Go.Proofs.Ytkcddihigagknaa

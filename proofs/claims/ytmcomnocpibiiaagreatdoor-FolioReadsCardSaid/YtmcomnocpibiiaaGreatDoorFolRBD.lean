/-
  The texts that the laws of this seat share, part 4: what the code and the document's own answers tell, walked function by function.
  Conditions: each theorem's own.
-/
import Derived.Laws.Tables
import Derived.ChangeOld
import Derived.SliceStrings
import Derived.Deep.Slices
import Derived.SizedLaws
import Derived.Test.YtmcomnocpibiiaaGreatDoorFolRBA
import Derived.Test.YtmcomnocpibiiaaGreatDoorFolRBB
import Derived.Test.YtmcomnocpibiiaaGreatDoorFolRBC
namespace Go.Proofs.YtmcomnocpibiiaaGreatDoor
open Go.RowKit

theorem size6R : (Tryz.prog.info? 129).map (·.size) = some 2 := by kernel_rfl
theorem size6U : (Tryz.prog.info? 37).map (·.size) = some 5 := by kernel_rfl
theorem alloc_at6 {W : World} {o : Obj} {n : Nat} (h : W.heap.size = n) : (W.alloc o).heap[n]? = some o := h ▸ heap_alloc_new W o
theorem alloc_old6 {W : World} {o x : Obj} {k : Nat} (h : W.heap[k]? = some x) : (W.alloc o).heap[k]? = some x :=
 (((Turns.refl (fun _ => False) W).alloc o).block k (Array.getElem?_eq_some_iff.1 h).1 (fun f => f)).trans h
theorem step_store6 {P : Program} {ops : Array Oper} {o : Oper} {a : Act} {w : World} {K : Act → World → Prop} {Q : Exit → Act → World → Prop} {E : Prop} (hw : Region.wanted o (yielded ops a.tmps) = true) (ty : TypeId) (x y : Operand) (ho : o.op = .store ty x y)
  (B : Nat) (hx : a.eval x = .pointer (some ⟨B, 0, none⟩)) (cs : Array Value) (hy : a.eval y = .agg cs) (t : TypeId) (old : Array Value) (hn : w.heap[B]? = some (.cells old t (0, 0))) (hi : (P.info? ty).map (·.size) = some cs.size) (hold : old.size = cs.size) (h1 : cs.all (·.oneCell') = true)
  (h : K (a.put o.dst undef) (w.setRow B cs)) : if Region.wanted o (yielded ops a.tmps) = true then Oper.wp P o a w K Q else E := by
 rw [if_pos hw]
 exact wp_store_row ty x y ho B cs hx hy t old hn hi hold h1 h

structure Rf6 (w : World) (rs qs ys : Array Value) (vs : Option (Array Value)) (W : World) : Prop where
 r : W.heap[w.heap.size]? = some (.cells rs 129 (0, 0))
 q : W.heap[w.heap.size + 1]? = some (.cells qs 129 (0, 0))
 y : W.heap[w.heap.size + 2]? = some (.cells ys 37 (0, 0))
 z : W.heap[w.heap.size + 3]? = some (.cells #[.string ⟨#[]⟩, .string ⟨#[]⟩, .string ⟨#[]⟩, .bool false, .slice none 0 0] 37 (0, 0))
 v : ∀ xs, vs = some xs → W.heap[w.heap.size + 4]? = some (.cells xs 37 (0, 0))
 t : Turns (fun _ => False) w W
def Own6 (w : World) (A : Option Addr) (gs : List ByteArray) (c : Nat) (W : World) : Prop := W.ownsRow 0 9 1 (.slice A gs.length c) gs.length (gs.map Value.string) ∧ ∀ j, Value.ownBlock (.slice A gs.length c) = some j → w.heap.size + 5 ≤ j
theorem Own6.none (w W : World) : Own6 w none [] 0 W := ⟨World.ownsRow_nil _ _ _ _, by simp [Value.ownBlock]⟩
theorem Own6.turns {w W W' : World} {A : Option Addr} {gs : List ByteArray} {c : Nat} {S : Nat → Prop} (h : Own6 w A gs c W) (ht : Turns S W W') (hS : ∀ j, S j → j < w.heap.size + 5) : Own6 w A gs c W' :=
 ⟨ht.owns h.1 (fun j hj hs => by have := h.2 j hj; have := hS j hs; omega), h.2⟩
theorem Own6.below {w W W' : World} {A : Option Addr} {gs : List ByteArray} {c : Nat} (h : Own6 w A gs c W) (hb : Below W.heap.size W W') : Own6 w A gs c W' := h.turns (Turns.of_below hb (fun _ => False)) (fun _ f => f.elim)
theorem Own6.row {w W : World} {A : Option Addr} {gs : List ByteArray} {c : Nat} (h : Own6 w A gs c W) (g : Nat) (hg : g < w.heap.size + 5) (cs : Array Value) : Own6 w A gs c (W.setRow g cs) :=
 h.turns (S := fun i => i = g) ⟨rfl, rfl, rfl, by simp, fun k _ hk => setRow_other W g k cs hk⟩ (fun j hj => by omega)

section
variable {w W W' : World} {rs qs ys : Array Value} {vs : Option (Array Value)}
theorem Rf6.still (h : Rf6 w rs qs ys vs W) (ht : Turns (fun _ => False) W W') : Rf6 w rs qs ys vs W' :=
 have k : ∀ {B : Nat} {o : Obj}, W.heap[B]? = some o → W'.heap[B]? = some o := fun hb => (ht.block _ (Array.getElem?_eq_some_iff.1 hb).1 (fun f => f)).trans hb
 ⟨k h.r, k h.q, k h.y, k h.z, fun xs e => k (h.v xs e), h.t.next ht (fun _ _ f => f)⟩
theorem Rf6.below (h : Rf6 w rs qs ys vs W) (hb : Below W.heap.size W W') : Rf6 w rs qs ys vs W' := h.still (Turns.of_below hb _)
theorem Rf6.setR (h : Rf6 w rs qs ys vs W) (cs : Array Value) : Rf6 w cs qs ys vs (W.setRow w.heap.size cs) :=
 ⟨setRow_heap W _ _ cs _ _ h.r, (setRow_other W _ _ cs (by omega)).trans h.q, (setRow_other W _ _ cs (by omega)).trans h.y, (setRow_other W _ _ cs (by omega)).trans h.z, fun xs e => (setRow_other W _ _ cs (by omega)).trans (h.v xs e), h.t.next (S' := fun i => i = w.heap.size) ⟨rfl, rfl, rfl, by simp, fun k _ hk => setRow_other W _ k cs hk⟩ (fun i hi he => by omega)⟩
theorem Rf6.setQ (h : Rf6 w rs qs ys vs W) (cs : Array Value) : Rf6 w rs cs ys vs (W.setRow (w.heap.size + 1) cs) :=
 ⟨(setRow_other W _ _ cs (by omega)).trans h.r, setRow_heap W _ _ cs _ _ h.q, (setRow_other W _ _ cs (by omega)).trans h.y, (setRow_other W _ _ cs (by omega)).trans h.z, fun xs e => (setRow_other W _ _ cs (by omega)).trans (h.v xs e), h.t.next (S' := fun i => i = w.heap.size + 1) ⟨rfl, rfl, rfl, by simp, fun k _ hk => setRow_other W _ k cs hk⟩ (fun i hi he => by omega)⟩
theorem Rf6.setY (h : Rf6 w rs qs ys vs W) (cs : Array Value) : Rf6 w rs qs cs vs (W.setRow (w.heap.size + 2) cs) :=
 ⟨(setRow_other W _ _ cs (by omega)).trans h.r, (setRow_other W _ _ cs (by omega)).trans h.q, setRow_heap W _ _ cs _ _ h.y, (setRow_other W _ _ cs (by omega)).trans h.z, fun xs e => (setRow_other W _ _ cs (by omega)).trans (h.v xs e), h.t.next (S' := fun i => i = w.heap.size + 2) ⟨rfl, rfl, rfl, by simp, fun k _ hk => setRow_other W _ k cs hk⟩ (fun i hi he => by omega)⟩
theorem Rf6.read {a b a' b' x : Value} {j : Nat} {xs xs' : Array Value} (h : Rf6 w #[a, b] qs ys (some xs) W) (hx : xs.setIfInBounds j x = xs') :
  Rf6 w #[a', b'] qs ys (some xs') (((W.setCell ⟨w.heap.size, 0, none⟩ a').setCell ⟨w.heap.size, 1, none⟩ b').setCell ⟨w.heap.size + 4, j, none⟩ x) := by
 have hr := h.r
 have hv := h.v xs rfl
 have o : ∀ {B : Nat} {o : Obj}, B ≠ w.heap.size → B ≠ w.heap.size + 4 → W.heap[B]? = some o → (((W.setCell ⟨w.heap.size, 0, none⟩ a').setCell ⟨w.heap.size, 1, none⟩ b').setCell ⟨w.heap.size + 4, j, none⟩ x).heap[B]? = some o := fun h1 h2 hb => by
  rw [Below.heap_setCell _ _ _ _ h2, Below.heap_setCell _ _ _ _ h1, Below.heap_setCell _ _ _ _ h1]
  exact hb
 refine ⟨?_, o (by omega) (by omega) h.q, o (by omega) (by omega) h.y, o (by omega) (by omega) h.z, fun ys e => ?_, ((h.t.setCell (p := ⟨w.heap.size, 0, none⟩) (fun hl => absurd hl (by simp)) _).setCell (p := ⟨w.heap.size, 1, none⟩) (fun hl => absurd hl (by simp)) _).setCell (p := ⟨w.heap.size + 4, j, none⟩) (fun hl => absurd hl (by simp)) _⟩
 ·
  rw [Below.heap_setCell _ _ _ _ (show w.heap.size ≠ w.heap.size + 4 by omega)]
  simp [World.setCell, Array.getElem?_modify, hr]
 ·
  injection e with e
  subst e
  subst hx
  have hv2 : ((W.setCell ⟨w.heap.size, 0, none⟩ a').setCell ⟨w.heap.size, 1, none⟩ b').heap[w.heap.size + 4]? = some (.cells xs 37 (0, 0)) := by
   rw [Below.heap_setCell _ _ _ _ (show w.heap.size + 4 ≠ w.heap.size by omega), Below.heap_setCell _ _ _ _ (show w.heap.size + 4 ≠ w.heap.size by omega)]
   exact hv
  generalize (W.setCell ⟨w.heap.size, 0, none⟩ a').setCell ⟨w.heap.size, 1, none⟩ b' = W2 at *
  simp [World.setCell, Array.getElem?_modify, hv2]
theorem Rf6.start (w : World) (a b : Value) : Rf6 w #[a, b] #[.string ⟨#[]⟩, .int .i64 0] #[.string ⟨#[]⟩, .string ⟨#[]⟩, .string ⟨#[]⟩, .bool false, .slice none 0 0] none ((((w.alloc (.cells #[a, b] 129)).alloc (.cells #[.string ⟨#[]⟩, .int .i64 0] 129)).alloc (.cells #[.string ⟨#[]⟩, .string ⟨#[]⟩, .string ⟨#[]⟩, .bool false, .slice none 0 0] 37)).alloc (.cells #[.string ⟨#[]⟩, .string ⟨#[]⟩, .string ⟨#[]⟩, .bool false, .slice none 0 0] 37)) :=
 ⟨alloc_old6 (alloc_old6 (alloc_old6 (alloc_at6 rfl))), alloc_old6 (alloc_old6 (alloc_at6 (by simp))), alloc_old6 (alloc_at6 (by simp)), alloc_at6 (by simp), (fun _ h => nomatch h), ((((Turns.refl _ _).alloc _).alloc _).alloc _).alloc _⟩
theorem Rf6.user (h : Rf6 w rs qs ys none W) (hs : W.heap.size = w.heap.size + 4) (xs : Array Value) : Rf6 w rs qs ys (some xs) (W.alloc (.cells xs 37)) :=
 ⟨alloc_old6 h.r, alloc_old6 h.q, alloc_old6 h.y, alloc_old6 h.z, fun ys e => by injection e with e; subst e; exact alloc_at6 hs, h.t.alloc _⟩
theorem cell6 {B : Nat} {xs : Array Value} {t : TypeId} (h : W.heap[B]? = some (.cells xs t (0, 0))) (j : Nat) : W.cell? ⟨B, j, none⟩ = xs[j]? := cell_of_row W B j _ _ (0, 0) h
theorem free6 {B : Nat} {xs : Array Value} {t : TypeId} (h : W.heap[B]? = some (.cells xs t (0, 0))) (j : Nat) : W.frozen? ⟨B, j, none⟩ = false := by simp [World.frozen?, h]
end

def YC6 (s : Int) (ra vv : Value) (ck : Int) (rb : Value) : Nat → Value → World → Prop
 | 0, v, _ => v = ra
 | 1, v, _ => v = .int .i64 s
 | 2, v, _ => v = vv
 | 3, v, _ => v = .int .i64 ck
 | 4, v, _ => v = rb
 | _, _, _ => True
theorem YC6_keep {s : Int} {ra vv : Value} {ck : Int} {rb : Value} {W W' : World} (j : Nat) (z : Value) (h : YC6 s ra vv ck rb j z W) : YC6 s ra vv ck rb j z W' := by
 match j, h with
 | 0, h => exact h
 | 1, h => exact h
 | 2, h => exact h
 | 3, h => exact h
 | 4, h => exact h
 | _ + 5, h => exact h
def GC6 (w : World) (ra rb qs ys : Array Value) (vs : Option (Array Value)) (A : Option Addr) (gs : List ByteArray) (c : Nat) (L : Nat → Bool) (W : World) : Prop :=
 Rf6 w (if L 5 = true then rb else ra) qs ys vs W ∧ Own6 w A gs c W ∧ (L 5 = true → ∀ j, j < 5 → L j = true)
section
variable {w W W' : World} {ra rb qs ys : Array Value} {vs : Option (Array Value)} {A : Option Addr} {gs : List ByteArray} {c : Nat} {L : Nat → Bool}
theorem GC6.no (h : GC6 w ra rb qs ys vs A gs c L W) (i : Nat) (hi : i < 5) (hL : L i = false) : L 5 = false := by
 cases h5 : L 5 with
 | false => rfl
 | true => rw [h.2.2 h5 i hi] at hL; cases hL
theorem GC6.ahead (h : GC6 w ra rb qs ys vs A gs c L W) (i : Nat) (hi : i < 5) (hL : L i = false) : Rf6 w ra qs ys vs W := by
 have := h.1
 rw [h.no i hi hL] at this
 exact this
theorem GC6.quiet (h : GC6 w ra rb qs ys vs A gs c L W) (i : Nat) (hi : i < 5) (hL : L i = false) (hb : Below W.heap.size W W') : GC6 w ra rb qs ys vs A gs c (updL L i) W' := by
 have h5 : updL L i 5 = false := by rw [show updL L i 5 = L 5 from if_neg (by omega)]; exact h.no i hi hL
 refine ⟨?_, h.2.1.below hb, fun e => by rw [h5] at e; cases e⟩
 rw [h5]
 exact (h.ahead i hi hL).below hb
theorem GC6.stored (h : GC6 w ra rb qs ys vs A gs c L W) (hd : ∀ j, j < 5 → L j = true) : GC6 w ra rb qs ys vs A gs c (updL L 5) (W.setRow w.heap.size rb) := by
 refine ⟨?_, h.2.1.row _ (by omega) _, fun _ j hj => by rw [show updL L 5 j = L j from if_neg (by omega)]; exact hd j hj⟩
 rw [show updL L 5 5 = true from if_pos rfl, if_pos rfl]
 exact h.1.setR rb
end
def YL6 (ra yv : Value) : Nat → Value → World → Prop
 | 0, v, _ => v = ra
 | 1, v, _ => v = yv
 | _, _, _ => True
theorem YL6_keep {ra yv : Value} {W W' : World} (j : Nat) (z : Value) (h : YL6 ra yv j z W) : YL6 ra yv j z W' := by
 match j, h with
 | 0, h => exact h
 | 1, h => exact h
 | _ + 2, h => exact h
def GL6 (w : World) (ra q0 q1 y0 y1 : Array Value) (vs : Option (Array Value)) (A : Option Addr) (gs : List ByteArray) (c : Nat) (L : Nat → Bool) (W : World) : Prop :=
 Rf6 w ra (if L 2 = true then q1 else q0) (if L 3 = true then y1 else y0) vs W ∧ Own6 w A gs c W
section
variable {w W W' : World} {ra q0 q1 y0 y1 : Array Value} {vs : Option (Array Value)} {A : Option Addr} {gs : List ByteArray} {c : Nat} {L : Nat → Bool}
theorem GL6.quiet (h : GL6 w ra q0 q1 y0 y1 vs A gs c L W) (i : Nat) (hi : i < 2) : GL6 w ra q0 q1 y0 y1 vs A gs c (updL L i) W := by
 unfold GL6
 rw [show updL L i 2 = L 2 from if_neg (by omega), show updL L i 3 = L 3 from if_neg (by omega)]
 exact h
theorem GL6.storedQ (h : GL6 w ra q0 q1 y0 y1 vs A gs c L W) : GL6 w ra q0 q1 y0 y1 vs A gs c (updL L 2) (W.setRow (w.heap.size + 1) q1) := by
 unfold GL6
 rw [show updL L 2 2 = true from if_pos rfl, if_pos rfl, show updL L 2 3 = L 3 from if_neg (by omega)]
 exact ⟨h.1.setQ q1, h.2.row _ (by omega) _⟩
theorem GL6.storedY (h : GL6 w ra q0 q1 y0 y1 vs A gs c L W) : GL6 w ra q0 q1 y0 y1 vs A gs c (updL L 3) (W.setRow (w.heap.size + 2) y1) := by
 unfold GL6
 rw [show updL L 3 3 = true from if_pos rfl, if_pos rfl, show updL L 3 2 = L 2 from if_neg (by omega)]
 exact ⟨h.1.setY y1, h.2.row _ (by omega) _⟩
end
theorem ite_block {p : Prop} [Decidable p] {a b : Array Value} {n : Nat} (ha : a.size = n) (hb : b.size = n) : (if p then a else b).size = n := by
 split <;> assumption

def RGot6 (w : World) (st : St) (u : Us) (e : Ending) (w' : World) : Prop := ∃ A c, e = .returned (.tuple #[refV st, (if st.e = 0 then ({ u with ga := A, gc := c } : Us) else zeroU).v]) ∧ w'.ownsRow 0 9 1 (.slice A u.gs.length c) u.gs.length (u.gs.map Value.string) ∧ (∀ j, Value.ownBlock (.slice A u.gs.length c) = some j → w.heap.size ≤ j) ∧ Turns (fun _ => False) w w'
def RGot61 (w : World) (st : St) (u : Us) (e : Ending) (w' : World) : Prop := e = .returned (.tuple #[refV st, (if st.e = 0 then u else zeroU).v]) ∧ Turns (fun _ => False) w w'

def YN6 (ra rb yv : Value) : Nat → Value → World → Prop
 | 0, v, _ => v = ra
 | 1, v, _ => v = rb
 | 2, v, _ => v = yv
 | _, _, _ => True
theorem YN6_keep {ra rb yv : Value} {W W' : World} (j : Nat) (z : Value) (h : YN6 ra rb yv j z W) : YN6 ra rb yv j z W' := by
 match j, h with
 | 0, h => exact h
 | 1, h => exact h
 | 2, h => exact h
 | _ + 3, h => exact h
def GN6 (w : World) (ra q0 q1 y0 : Array Value) (L : Nat → Bool) (W : World) : Prop := Rf6 w ra (if L 3 = true then q1 else q0) y0 none W
theorem GN6.quiet {w W W' : World} {ra q0 q1 y0 : Array Value} {L : Nat → Bool} (h : GN6 w ra q0 q1 y0 L W) (i : Nat) (hi : i ≠ 3) (hb : Below W.heap.size W W') : GN6 w ra q0 q1 y0 (updL L i) W' := by
 unfold GN6
 rw [show updL L i 3 = L 3 from if_neg (by omega)]
 exact Rf6.below h hb
theorem GN6.storedQ {w W : World} {ra q0 q1 y0 : Array Value} {L : Nat → Bool} (h : GN6 w ra q0 q1 y0 L W) : GN6 w ra q0 q1 y0 (updL L 3) (W.setRow (w.heap.size + 1) q1) := by
 unfold GN6
 rw [show updL L 3 3 = true from if_pos rfl, if_pos rfl]
 exact Rf6.setQ h q1
theorem GN6.storedY {w W : World} {ra q0 q1 y0 : Array Value} {L : Nat → Bool} (h : GN6 w ra q0 q1 y0 L W) : GN6 w ra q0 q1 y0 (updL L 4) (W.setRow (w.heap.size + 2) y0) := by
 unfold GN6
 rw [show updL L 4 3 = L 3 from if_neg (by omega)]
 exact Rf6.setY h y0

set_option maxRecDepth 100000 in
set_option maxHeartbeats 4000000 in
theorem rget6_none (s : Int) (st : St) (w : World) (hs : know6 s = false) :
  Calls Tryz.prog 111 #[refV st, .int .i64 s] w (RGot6 w (failS st 6) zeroU) := by
 have HFL : Hid (∀ W, Calls Tryz.prog 177 #[.agg #[.string ⟨st.bs.toArray⟩, .int .i64 st.e], .int .i64 6] W fun e w' => e = .returned (.agg #[.string ⟨(failS st 6).bs.toArray⟩, .int .i64 (failS st 6).e]) ∧ Turns (fun _ => False) W w') := fun W => reffail_calls st 6 W
 have HG0 := Lib.hid (Rf6.start w (.string ⟨st.bs.toArray⟩) (.int .i64 st.e))
 have hcase : s < 1 ∨ (¬ s < 1 ∧ 2 < s) := by
  simp only [know6, Bool.or_eq_false_iff, decide_eq_false_iff_not] at hs
  omega
 generalize failS st 6 = s1 at *
 have HP0 : Hid (∀ W, Turns (fun _ => False) w W → RGot6 w s1 zeroU (.returned (.tuple #[.agg #[.string ⟨s1.bs.toArray⟩, .int .i64 s1.e], .agg #[.string ⟨#[]⟩, .string ⟨#[]⟩, .string ⟨#[]⟩, .bool false, .slice none 0 0]])) W) := fun W ht => by
  refine ⟨none, 0, ?_, World.ownsRow_nil _ _ _ _, by simp [Value.ownBlock], ht⟩
  have e : (if s1.e = 0 then ({ zeroU with ga := none, gc := 0 } : Us) else zeroU) = zeroU := by split <;> rfl
  rw [e]
  rfl
 clear hs
 unfold refV
 rcases hcase with hlt | ⟨hlt, hgt⟩
 ·
  have hld : decide (s < 1) = true := decide_eq_true hlt
  go_enter Tryz.func111, Tryz.ntmps111
  go_wp2_with fail
  generalize (((w.alloc (.cells #[.string ⟨st.bs.toArray⟩, .int .i64 st.e] 129)).alloc (.cells #[.string ⟨#[]⟩, .int .i64 0] 129)).alloc (.cells #[.string ⟨#[]⟩, .string ⟨#[]⟩, .string ⟨#[]⟩, .bool false, .slice none 0 0] 37)).alloc (.cells #[.string ⟨#[]⟩, .string ⟨#[]⟩, .string ⟨#[]⟩, .bool false, .slice none 0 0] 37) = W0 at *
  refine wp_region_st2 (by kernel_rfl) (YN6 (.agg #[.string ⟨st.bs.toArray⟩, .int .i64 st.e]) (.agg #[.string ⟨s1.bs.toArray⟩, .int .i64 s1.e]) (.agg #[.string ⟨#[]⟩, .string ⟨#[]⟩, .string ⟨#[]⟩, .bool false, .slice none 0 0])) (GN6 w #[.string ⟨st.bs.toArray⟩, .int .i64 st.e] #[.string ⟨#[]⟩, .int .i64 0] #[.string ⟨s1.bs.toArray⟩, .int .i64 s1.e] #[.string ⟨#[]⟩, .string ⟨#[]⟩, .string ⟨#[]⟩, .bool false, .slice none 0 0]) ?F0 ?hF0 (by kernel_rfl) (by kernel_rfl) (HG0.out.still ((Turns.refl _ _).drew)) ?step0 ?fin0
  case hF0 =>
   intro x
   simp only [List.map_cons, List.map_nil, putL, Act.put, List.setIfInBounds_toArray, List.set_cons_zero, List.set_cons_succ, Nat.zero_add, Nat.reduceAdd]
   exact rfl
  case step0 =>
   refine ⟨?_, ?_, ?_, ?_, ?_, trivial⟩
   all_goals intro L x W hL hd hG hdep K hK
   ·
    have r0 : W.cell? ⟨w.heap.size, 0, none⟩ = some (.string ⟨st.bs.toArray⟩) := cell6 hG.r 0
    have r1 : W.cell? ⟨w.heap.size, 1, none⟩ = some (.int .i64 st.e) := cell6 hG.r 1
    clear hdep
    go_simp
    exact hK _ _ rfl (hG.quiet 0 (by omega) (Below.refl _ _)) (fun _ _ h => h)
   ·
    have h0 : x 0 = _ := hdep 0 rfl
    clear hdep
    simp only [h0] at hK
    go_simp
    refine (HFL.out W).mono ?_
    rintro e W' ⟨rfl, ht⟩
    exact hK _ _ rfl (hG.quiet 1 (by omega) (ht.below (fun _ f => f.elim))) (fun j _ h => YN6_keep j _ h)
   ·
    have k0 : W.cell? ⟨w.heap.size + 3, 0, none⟩ = some (.string ⟨#[]⟩) := cell6 hG.z 0
    have k1 : W.cell? ⟨w.heap.size + 3, 1, none⟩ = some (.string ⟨#[]⟩) := cell6 hG.z 1
    have k2 : W.cell? ⟨w.heap.size + 3, 2, none⟩ = some (.string ⟨#[]⟩) := cell6 hG.z 2
    have k3 : W.cell? ⟨w.heap.size + 3, 3, none⟩ = some (.bool false) := cell6 hG.z 3
    have k4 : W.cell? ⟨w.heap.size + 3, 4, none⟩ = some (.slice none 0 0) := cell6 hG.z 4
    clear hdep
    go_simp
    exact hK _ _ rfl (hG.quiet 2 (by omega) (Below.refl _ _)) (fun _ _ h => h)
   ·
    have h1 : x 1 = .agg #[.string ⟨s1.bs.toArray⟩, .int .i64 s1.e] := hdep 1 rfl
    refine step_store6 (by rfl) 129 (.tmp 4) (.tmp 16) rfl (w.heap.size + 1) rfl _ h1 _ _ hG.q size6R (ite_block rfl rfl) (by simp [Value.oneCell']) ?_
    exact hK _ _ trivial hG.storedQ (fun j _ h => YN6_keep j _ h)
   ·
    have h2 : x 2 = .agg #[.string ⟨#[]⟩, .string ⟨#[]⟩, .string ⟨#[]⟩, .bool false, .slice none 0 0] := hdep 2 rfl
    refine step_store6 (by rfl) 37 (.tmp 5) (.tmp 17) rfl (w.heap.size + 2) rfl _ h2 _ _ hG.y size6U rfl (by simp [Value.oneCell']) ?_
    exact hK _ _ trivial hG.storedY (fun j _ h => YN6_keep j _ h)
  case fin0 =>
   intro L x W hall hG hY
   have hg : Rf6 w _ _ _ _ W := hG
   rw [hall 3 (by decide), if_pos rfl] at hg
   have q0 : W.cell? ⟨w.heap.size + 1, 0, none⟩ = some (.string ⟨s1.bs.toArray⟩) := cell6 hg.q 0
   have q1 : W.cell? ⟨w.heap.size + 1, 1, none⟩ = some (.int .i64 s1.e) := cell6 hg.q 1
   have y0 : W.cell? ⟨w.heap.size + 2, 0, none⟩ = some (.string ⟨#[]⟩) := cell6 hg.y 0
   have y1 : W.cell? ⟨w.heap.size + 2, 1, none⟩ = some (.string ⟨#[]⟩) := cell6 hg.y 1
   have y2 : W.cell? ⟨w.heap.size + 2, 2, none⟩ = some (.string ⟨#[]⟩) := cell6 hg.y 2
   have y3 : W.cell? ⟨w.heap.size + 2, 3, none⟩ = some (.bool false) := cell6 hg.y 3
   have y4 : W.cell? ⟨w.heap.size + 2, 4, none⟩ = some (.slice none 0 0) := cell6 hg.y 4
   have hfin := HP0.out W hg.t
   clear hY hG hg hall
   go_wp2
   refine bodyPost_ret (v := .tuple #[.agg #[.string ⟨s1.bs.toArray⟩, .int .i64 s1.e], .agg #[.string ⟨#[]⟩, .string ⟨#[]⟩, .string ⟨#[]⟩, .bool false, .slice none 0 0]]) ?_ rfl hfin
   simp [results, Tryz.results111, go_sem, q0, q1, y0, y1, y2, y3, y4]
 ·
  have hld : decide (s < 1) = false := decide_eq_false hlt
  have hgd : decide (s > 2) = true := decide_eq_true hgt
  go_enter Tryz.func111, Tryz.ntmps111
  go_wp2_with fail
  generalize (((w.alloc (.cells #[.string ⟨st.bs.toArray⟩, .int .i64 st.e] 129)).alloc (.cells #[.string ⟨#[]⟩, .int .i64 0] 129)).alloc (.cells #[.string ⟨#[]⟩, .string ⟨#[]⟩, .string ⟨#[]⟩, .bool false, .slice none 0 0] 37)).alloc (.cells #[.string ⟨#[]⟩, .string ⟨#[]⟩, .string ⟨#[]⟩, .bool false, .slice none 0 0] 37) = W0 at *
  refine wp_region_st2 (by kernel_rfl) (YN6 (.agg #[.string ⟨st.bs.toArray⟩, .int .i64 st.e]) (.agg #[.string ⟨s1.bs.toArray⟩, .int .i64 s1.e]) (.agg #[.string ⟨#[]⟩, .string ⟨#[]⟩, .string ⟨#[]⟩, .bool false, .slice none 0 0])) (GN6 w #[.string ⟨st.bs.toArray⟩, .int .i64 st.e] #[.string ⟨#[]⟩, .int .i64 0] #[.string ⟨s1.bs.toArray⟩, .int .i64 s1.e] #[.string ⟨#[]⟩, .string ⟨#[]⟩, .string ⟨#[]⟩, .bool false, .slice none 0 0]) ?F1 ?hF1 (by kernel_rfl) (by kernel_rfl) (HG0.out.still ((Turns.refl _ _).drew)) ?step1 ?fin1
  case hF1 =>
   intro x
   simp only [List.map_cons, List.map_nil, putL, Act.put, List.setIfInBounds_toArray, List.set_cons_zero, List.set_cons_succ, Nat.zero_add, Nat.reduceAdd]
   exact rfl
  case step1 =>
   refine ⟨?_, ?_, ?_, ?_, ?_, trivial⟩
   all_goals intro L x W hL hd hG hdep K hK
   ·
    have r0 : W.cell? ⟨w.heap.size, 0, none⟩ = some (.string ⟨st.bs.toArray⟩) := cell6 hG.r 0
    have r1 : W.cell? ⟨w.heap.size, 1, none⟩ = some (.int .i64 st.e) := cell6 hG.r 1
    clear hdep
    go_simp
    exact hK _ _ rfl (hG.quiet 0 (by omega) (Below.refl _ _)) (fun _ _ h => h)
   ·
    have h0 : x 0 = _ := hdep 0 rfl
    clear hdep
    simp only [h0] at hK
    go_simp
    refine (HFL.out W).mono ?_
    rintro e W' ⟨rfl, ht⟩
    exact hK _ _ rfl (hG.quiet 1 (by omega) (ht.below (fun _ f => f.elim))) (fun j _ h => YN6_keep j _ h)
   ·
    have k0 : W.cell? ⟨w.heap.size + 3, 0, none⟩ = some (.string ⟨#[]⟩) := cell6 hG.z 0
    have k1 : W.cell? ⟨w.heap.size + 3, 1, none⟩ = some (.string ⟨#[]⟩) := cell6 hG.z 1
    have k2 : W.cell? ⟨w.heap.size + 3, 2, none⟩ = some (.string ⟨#[]⟩) := cell6 hG.z 2
    have k3 : W.cell? ⟨w.heap.size + 3, 3, none⟩ = some (.bool false) := cell6 hG.z 3
    have k4 : W.cell? ⟨w.heap.size + 3, 4, none⟩ = some (.slice none 0 0) := cell6 hG.z 4
    clear hdep
    go_simp
    exact hK _ _ rfl (hG.quiet 2 (by omega) (Below.refl _ _)) (fun _ _ h => h)
   ·
    have h1 : x 1 = .agg #[.string ⟨s1.bs.toArray⟩, .int .i64 s1.e] := hdep 1 rfl
    refine step_store6 (by rfl) 129 (.tmp 4) (.tmp 16) rfl (w.heap.size + 1) rfl _ h1 _ _ hG.q size6R (ite_block rfl rfl) (by simp [Value.oneCell']) ?_
    exact hK _ _ trivial hG.storedQ (fun j _ h => YN6_keep j _ h)
   ·
    have h2 : x 2 = .agg #[.string ⟨#[]⟩, .string ⟨#[]⟩, .string ⟨#[]⟩, .bool false, .slice none 0 0] := hdep 2 rfl
    refine step_store6 (by rfl) 37 (.tmp 5) (.tmp 17) rfl (w.heap.size + 2) rfl _ h2 _ _ hG.y size6U rfl (by simp [Value.oneCell']) ?_
    exact hK _ _ trivial hG.storedY (fun j _ h => YN6_keep j _ h)
  case fin1 =>
   intro L x W hall hG hY
   have hg : Rf6 w _ _ _ _ W := hG
   rw [hall 3 (by decide), if_pos rfl] at hg
   have q0 : W.cell? ⟨w.heap.size + 1, 0, none⟩ = some (.string ⟨s1.bs.toArray⟩) := cell6 hg.q 0
   have q1 : W.cell? ⟨w.heap.size + 1, 1, none⟩ = some (.int .i64 s1.e) := cell6 hg.q 1
   have y0 : W.cell? ⟨w.heap.size + 2, 0, none⟩ = some (.string ⟨#[]⟩) := cell6 hg.y 0
   have y1 : W.cell? ⟨w.heap.size + 2, 1, none⟩ = some (.string ⟨#[]⟩) := cell6 hg.y 1
   have y2 : W.cell? ⟨w.heap.size + 2, 2, none⟩ = some (.string ⟨#[]⟩) := cell6 hg.y 2
   have y3 : W.cell? ⟨w.heap.size + 2, 3, none⟩ = some (.bool false) := cell6 hg.y 3
   have y4 : W.cell? ⟨w.heap.size + 2, 4, none⟩ = some (.slice none 0 0) := cell6 hg.y 4
   have hfin := HP0.out W hg.t
   clear hY hG hg hall
   go_wp2
   refine bodyPost_ret (v := .tuple #[.agg #[.string ⟨s1.bs.toArray⟩, .int .i64 s1.e], .agg #[.string ⟨#[]⟩, .string ⟨#[]⟩, .string ⟨#[]⟩, .bool false, .slice none 0 0]]) ?_ rfl hfin
   simp [results, Tryz.results111, go_sem, q0, q1, y0, y1, y2, y3, y4]

set_option maxRecDepth 100000 in
set_option maxHeartbeats 8000000 in
theorem rget61_one (st : St) (w : World) (nm hs : List UInt8) (s1 s2 s3 : St) (h1 : textS st 65535 = (s1, nm)) (h2 : textS s1 65535 = (s2, hs)) (h3 : failS s2 (chk6 1 (one6 nm hs)) = s3) (o0 : Ok st) (l0 : st.bs.length ≤ 1000) (o1 : Ok s1) (l1 : s1.bs.length ≤ 1000) (hn : nm.length ≤ 1000) (hh : hs.length ≤ 1000) :
  Calls Tryz.prog 111 #[refV st, .int .i64 1] w (RGot61 w s3 (one6 nm hs)) := by
 have HT1 : Hid (∀ W, Calls Tryz.prog 174 #[.agg #[.string ⟨st.bs.toArray⟩, .int .i64 st.e], .int .i64 65535] W fun e w' => e = .returned (.tuple #[.agg #[.string ⟨s1.bs.toArray⟩, .int .i64 s1.e], .string (mk6 nm)]) ∧ Turns (fun _ => False) W w') := fun W => by
  have := gettext_calls st 65535 W o0 (by omega)
  rw [h1] at this
  exact this
 have HT2 : Hid (∀ W, Calls Tryz.prog 174 #[.agg #[.string ⟨s1.bs.toArray⟩, .int .i64 s1.e], .int .i64 65535] W fun e w' => e = .returned (.tuple #[.agg #[.string ⟨s2.bs.toArray⟩, .int .i64 s2.e], .string (mk6 hs)]) ∧ Turns (fun _ => False) W w') := fun W => by
  have := gettext_calls s1 65535 W o1 (by omega)
  rw [h2] at this
  exact this
 have HCK : Hid (∀ W, Calls Tryz.prog 159 #[.int .i64 1, .agg #[.string (mk6 nm), .string (mk6 hs), .string ⟨#[]⟩, .bool false, .slice none 0 0]] W (Errs5 (chk6 1 (one6 nm hs)) W)) := fun W => by
  have z1 : (mk6 nm).size ≤ 1000 := by show nm.toArray.size ≤ _; rw [List.size_toArray]; omega
  have z2 : (mk6 hs).size ≤ 1000 := by show hs.toArray.size ≤ _; rw [List.size_toArray]; omega
  exact rcheck6_calls 1 (one6 nm hs) W ⟨fun e => absurd rfl e, Nat.le_trans z1 (by omega), Nat.le_trans z2 (by omega), Nat.zero_le _, fun _ => rfl, Nat.zero_le _, Nat.zero_le _, fun s hs => by cases hs⟩ z1 z2 (Nat.zero_le _) (fun g hg => by cases hg)
 have HFL : Hid (∀ W, Calls Tryz.prog 177 #[.agg #[.string ⟨s2.bs.toArray⟩, .int .i64 s2.e], .int .i64 (chk6 1 (one6 nm hs))] W fun e w' => e = .returned (.agg #[.string ⟨s3.bs.toArray⟩, .int .i64 s3.e]) ∧ Turns (fun _ => False) W w') := fun W => by
  have := reffail_calls s2 (chk6 1 (one6 nm hs)) W
  rw [h3] at this
  exact this
 have HU : Hid ((one6 nm hs).v = .agg #[.string (mk6 nm), .string (mk6 hs), .string ⟨#[]⟩, .bool false, .slice none 0 0]) := rfl
 generalize chk6 1 (one6 nm hs) = ck at *
 clear h1 h2 h3 o0 l0 o1 l1 hn hh
 obtain ⟨u, hu⟩ : ∃ u, u = one6 nm hs := ⟨_, rfl⟩
 rw [← hu] at HU ⊢
 clear hu
 unfold refV
 unfold mk6 at *
 generalize (⟨nm.toArray⟩ : ByteArray) = x1 at *
 generalize (⟨hs.toArray⟩ : ByteArray) = x2 at *
 have HG0 := Lib.hid ((Rf6.start w (.string ⟨st.bs.toArray⟩) (.int .i64 st.e)).user (by simp) #[.string ⟨#[]⟩, .string ⟨#[]⟩, .string ⟨#[]⟩, .bool false, .slice none 0 0])
 have r0 : _ = some (.string ⟨st.bs.toArray⟩ : Value) := cell6 HG0.out.r 0
 have r1 : _ = some (.int .i64 st.e : Value) := cell6 HG0.out.r 1
 go_enter Tryz.func111, Tryz.ntmps111
 go_wp2_with fail
 generalize ((((w.alloc (.cells #[.string ⟨st.bs.toArray⟩, .int .i64 st.e] 129)).alloc (.cells #[.string ⟨#[]⟩, .int .i64 0] 129)).alloc (.cells #[.string ⟨#[]⟩, .string ⟨#[]⟩, .string ⟨#[]⟩, .bool false, .slice none 0 0] 37)).alloc (.cells #[.string ⟨#[]⟩, .string ⟨#[]⟩, .string ⟨#[]⟩, .bool false, .slice none 0 0] 37)).alloc (.cells #[.string ⟨#[]⟩, .string ⟨#[]⟩, .string ⟨#[]⟩, .bool false, .slice none 0 0] 37) = W0 at *
 with_reducible refine (HT1.out W0).mono ?_
 rintro e w1 ⟨rfl, ht⟩
 have hg := HG0.out.still ht
 clear r0 r1
 have p0 : _ = some (.string ⟨st.bs.toArray⟩ : Value) := cell6 hg.r 0
 have p1 : _ = some (.int .i64 st.e : Value) := cell6 hg.r 1
 have pf := free6 hg.r
 have kk : _ = some (.string ⟨#[]⟩ : Value) := cell6 (hg.v _ rfl) 0
 have kf := free6 (hg.v _ rfl)
 have hg2 := hg.read (a' := .string ⟨s1.bs.toArray⟩) (b' := .int .i64 s1.e) (j := 0) (x := .string x1) (xs' := #[.string x1, .string ⟨#[]⟩, .string ⟨#[]⟩, .bool false, .slice none 0 0]) rfl
 have HG1 := Lib.hid hg2
 have r0 : _ = some (.string ⟨s1.bs.toArray⟩ : Value) := cell6 hg2.r 0
 have r1 : _ = some (.int .i64 s1.e : Value) := cell6 hg2.r 1
 clear hg hg2 ht HG0 HT1
 go_wp2_with fail
 generalize ((w1.setCell ⟨w.heap.size, 0, none⟩ (.string ⟨s1.bs.toArray⟩)).setCell ⟨w.heap.size, 1, none⟩ (.int .i64 s1.e)).setCell ⟨w.heap.size + 4, 0, none⟩ (.string x1) = W1 at *
 clear p0 p1 pf kk kf
 with_reducible refine (HT2.out W1).mono ?_
 rintro e w2 ⟨rfl, ht⟩
 have hg := HG1.out.still ht
 clear r0 r1
 have p0 : _ = some (.string ⟨s1.bs.toArray⟩ : Value) := cell6 hg.r 0
 have p1 : _ = some (.int .i64 s1.e : Value) := cell6 hg.r 1
 have pf := free6 hg.r
 have kk : _ = some (.string ⟨#[]⟩ : Value) := cell6 (hg.v _ rfl) 1
 have kf := free6 (hg.v _ rfl)
 have hg2 := hg.read (a' := .string ⟨s2.bs.toArray⟩) (b' := .int .i64 s2.e) (j := 1) (x := .string x2) (xs' := #[.string x1, .string x2, .string ⟨#[]⟩, .bool false, .slice none 0 0]) rfl
 have HG2 := Lib.hid hg2
 have r0 : _ = some (.string ⟨s2.bs.toArray⟩ : Value) := cell6 hg2.r 0
 have r1 : _ = some (.int .i64 s2.e : Value) := cell6 hg2.r 1
 clear hg hg2 ht HG1 HT2
 go_wp2_with fail
 generalize ((w2.setCell ⟨w.heap.size, 0, none⟩ (.string ⟨s2.bs.toArray⟩)).setCell ⟨w.heap.size, 1, none⟩ (.int .i64 s2.e)).setCell ⟨w.heap.size + 4, 1, none⟩ (.string x2) = W2 at *
 clear p0 p1 pf kk kf
 clear r0 r1
 refine wp_region_st2 (by kernel_rfl) (YC6 1 (.agg #[.string ⟨s2.bs.toArray⟩, .int .i64 s2.e]) (.agg #[.string x1, .string x2, .string ⟨#[]⟩, .bool false, .slice none 0 0]) ck (.agg #[.string ⟨s3.bs.toArray⟩, .int .i64 s3.e])) (GC6 w #[.string ⟨s2.bs.toArray⟩, .int .i64 s2.e] #[.string ⟨s3.bs.toArray⟩, .int .i64 s3.e] #[.string ⟨#[]⟩, .int .i64 0] #[.string ⟨#[]⟩, .string ⟨#[]⟩, .string ⟨#[]⟩, .bool false, .slice none 0 0] (some #[.string x1, .string x2, .string ⟨#[]⟩, .bool false, .slice none 0 0]) none [] 0) ?F ?hF (by kernel_rfl) (by kernel_rfl) ⟨HG2.out.still ((Turns.refl _ _).drew), (Own6.none w W2).below (below_drew (Below.refl _ _)), fun h => by cases h⟩ ?step ?fin
 case hF =>
  intro x
  simp only [List.map_cons, List.map_nil, putL, Act.put, List.setIfInBounds_toArray, List.set_cons_zero, List.set_cons_succ, Nat.zero_add, Nat.reduceAdd]
  exact rfl
 case step =>
  refine ⟨?_, ?_, ?_, ?_, ?_, ?_, trivial⟩
  all_goals intro L x W hL hd hG hdep K hK
  ·
   have hg := hG.ahead 0 (by omega) hL
   have r0 : W.cell? ⟨w.heap.size, 0, none⟩ = some (.string ⟨s2.bs.toArray⟩) := cell6 hg.r 0
   have r1 : W.cell? ⟨w.heap.size, 1, none⟩ = some (.int .i64 s2.e) := cell6 hg.r 1
   clear hdep hg
   go_simp
   exact hK _ _ rfl (hG.quiet 0 (by omega) hL (Below.refl _ _)) (fun _ _ h => h)
  ·
   clear hdep
   go_simp
   exact hK _ _ rfl (hG.quiet 1 (by omega) hL (Below.refl _ _)) (fun _ _ h => h)
  ·
   have hg := hG.ahead 2 (by omega) hL
   have k0 : W.cell? ⟨w.heap.size + 4, 0, none⟩ = some (.string x1) := cell6 (hg.v _ rfl) 0
   have k1 : W.cell? ⟨w.heap.size + 4, 1, none⟩ = some (.string x2) := cell6 (hg.v _ rfl) 1
   have k2 : W.cell? ⟨w.heap.size + 4, 2, none⟩ = some (.string ⟨#[]⟩) := cell6 (hg.v _ rfl) 2
   have k3 : W.cell? ⟨w.heap.size + 4, 3, none⟩ = some (.bool false) := cell6 (hg.v _ rfl) 3
   have k4 : W.cell? ⟨w.heap.size + 4, 4, none⟩ = some (.slice none 0 0) := cell6 (hg.v _ rfl) 4
   clear hdep hg
   go_simp
   exact hK _ _ rfl (hG.quiet 2 (by omega) hL (Below.refl _ _)) (fun _ _ h => h)
  ·
   have h1 : x 1 = _ := hdep 1 rfl
   have h2 : x 2 = _ := hdep 2 rfl
   clear hdep
   simp only [h1, h2] at hK
   go_simp
   refine (HCK.out W).mono ?_
   rintro e W' ⟨rfl, hb⟩
   exact hK _ _ rfl (hG.quiet 3 (by omega) hL hb) (fun j _ h => YC6_keep j _ h)
  ·
   have h0 : x 0 = _ := hdep 0 rfl
   have h3 : x 3 = _ := hdep 3 rfl
   clear hdep
   simp only [h0, h3] at hK
   go_simp
   refine (HFL.out W).mono ?_
   rintro e W' ⟨rfl, ht⟩
   exact hK _ _ rfl (hG.quiet 4 (by omega) hL (ht.below (fun _ f => f.elim))) (fun j _ h => YC6_keep j _ h)
  ·
   have h4 : x 4 = .agg #[.string ⟨s3.bs.toArray⟩, .int .i64 s3.e] := hdep 4 rfl
   have hd0 : ∀ j, j < 5 → L j = true := fun j hj => hd j (by rcases j with _ | _ | _ | _ | _ | j <;> first | rfl | omega)
   refine step_store6 (by rfl) 129 (.tmp 2) (.tmp 55) rfl w.heap.size rfl _ h4 _ _ hG.1.r size6R (ite_block rfl rfl) (by simp [Value.oneCell']) ?_
   exact hK _ _ trivial (hG.stored hd0) (fun j _ h => YC6_keep j _ h)
 case fin =>
  intro L x W8 hall hG hY
  have hg := hG.1
  rw [hall 5 (by decide), if_pos rfl] at hg
  have HG8 := Lib.hid hg
  have HO8 := Lib.hid hG.2.1
  have r1 : _ = some (.int .i64 s3.e : Value) := cell6 hg.r 1
  clear hY hG hg hall HCK HFL HG2
  by_cases h0 : s3.e = 0
  ·
   have h0d : (s3.e != 0) = false := by simpa using h0
   have HP1 : Hid (∀ W, Own6 w none [] 0 W → Turns (fun _ => False) w W → RGot61 w s3 u (.returned (.tuple #[.agg #[.string ⟨s3.bs.toArray⟩, .int .i64 s3.e], .agg #[.string x1, .string x2, .string ⟨#[]⟩, .bool false, .slice none 0 0]])) W) := fun W ho ht => by
    exact ⟨by rw [if_pos h0, HU.out]; rfl, ht⟩
   clear HU
   go_wp2_with fail
   clear r1 h0 h0d
   refine wp_region_st2 (by kernel_rfl) (YL6 (.agg #[.string ⟨s3.bs.toArray⟩, .int .i64 s3.e]) (.agg #[.string x1, .string x2, .string ⟨#[]⟩, .bool false, .slice none 0 0])) (GL6 w #[.string ⟨s3.bs.toArray⟩, .int .i64 s3.e] #[.string ⟨#[]⟩, .int .i64 0] #[.string ⟨s3.bs.toArray⟩, .int .i64 s3.e] #[.string ⟨#[]⟩, .string ⟨#[]⟩, .string ⟨#[]⟩, .bool false, .slice none 0 0] #[.string x1, .string x2, .string ⟨#[]⟩, .bool false, .slice none 0 0] (some #[.string x1, .string x2, .string ⟨#[]⟩, .bool false, .slice none 0 0]) none [] 0) ?F1 ?hF1 (by kernel_rfl) (by kernel_rfl) ⟨HG8.out.still ((Turns.refl _ _).drew), HO8.out.below (below_drew (Below.refl _ _))⟩ ?step1 ?fin1
   case hF1 =>
    intro x
    simp only [List.map_cons, List.map_nil, putL, Act.put, List.setIfInBounds_toArray, List.set_cons_zero, List.set_cons_succ, Nat.zero_add]
    exact rfl
   case step1 =>
    refine ⟨?_, ?_, ?_, ?_, trivial⟩
    all_goals intro L x W hL hd hG hdep K hK
    ·
     have hg := hG.1
     have r0 : W.cell? ⟨w.heap.size, 0, none⟩ = some (.string ⟨s3.bs.toArray⟩) := cell6 hg.r 0
     have r1 : W.cell? ⟨w.heap.size, 1, none⟩ = some (.int .i64 s3.e) := cell6 hg.r 1
     clear hdep hg
     go_simp
     exact hK _ _ rfl (hG.quiet 0 (by omega)) (fun _ _ h => h)
    ·
     have hg := hG.1
     have k0 : W.cell? ⟨w.heap.size + 4, 0, none⟩ = some (.string x1) := cell6 (hg.v _ rfl) 0
     have k1 : W.cell? ⟨w.heap.size + 4, 1, none⟩ = some (.string x2) := cell6 (hg.v _ rfl) 1
     have k2 : W.cell? ⟨w.heap.size + 4, 2, none⟩ = some (.string ⟨#[]⟩) := cell6 (hg.v _ rfl) 2
     have k3 : W.cell? ⟨w.heap.size + 4, 3, none⟩ = some (.bool false) := cell6 (hg.v _ rfl) 3
     have k4 : W.cell? ⟨w.heap.size + 4, 4, none⟩ = some (.slice none 0 0) := cell6 (hg.v _ rfl) 4
     clear hdep hg
     go_simp
     exact hK _ _ rfl (hG.quiet 1 (by omega)) (fun _ _ h => h)
    ·
     have h0 : x 0 = .agg #[.string ⟨s3.bs.toArray⟩, .int .i64 s3.e] := hdep 0 rfl
     refine step_store6 (by rfl) 129 (.tmp 4) (.tmp 61) rfl (w.heap.size + 1) rfl _ h0 _ _ hG.1.q size6R (ite_block rfl rfl) (by simp [Value.oneCell']) ?_
     exact hK _ _ trivial hG.storedQ (fun j _ h => YL6_keep j _ h)
    ·
     have h1 : x 1 = .agg #[.string x1, .string x2, .string ⟨#[]⟩, .bool false, .slice none 0 0] := hdep 1 rfl
     refine step_store6 (by rfl) 37 (.tmp 5) (.tmp 62) rfl (w.heap.size + 2) rfl _ h1 _ _ hG.1.y size6U (ite_block rfl rfl) (by simp [Value.oneCell']) ?_
     exact hK _ _ trivial hG.storedY (fun j _ h => YL6_keep j _ h)
   case fin1 =>
    intro L x W hall hG hY
    have hg := hG.1
    rw [hall 2 (by decide), hall 3 (by decide), if_pos rfl, if_pos rfl] at hg
    have q0 : W.cell? ⟨w.heap.size + 1, 0, none⟩ = some (.string ⟨s3.bs.toArray⟩) := cell6 hg.q 0
    have q1 : W.cell? ⟨w.heap.size + 1, 1, none⟩ = some (.int .i64 s3.e) := cell6 hg.q 1
    have y0 : W.cell? ⟨w.heap.size + 2, 0, none⟩ = some (.string x1) := cell6 hg.y 0
    have y1 : W.cell? ⟨w.heap.size + 2, 1, none⟩ = some (.string x2) := cell6 hg.y 1
    have y2 : W.cell? ⟨w.heap.size + 2, 2, none⟩ = some (.string ⟨#[]⟩) := cell6 hg.y 2
    have y3 : W.cell? ⟨w.heap.size + 2, 3, none⟩ = some (.bool false) := cell6 hg.y 3
    have y4 : W.cell? ⟨w.heap.size + 2, 4, none⟩ = some (.slice none 0 0) := cell6 hg.y 4
    have hfin := HP1.out W hG.2 hg.t
    clear hY hG hg hall
    go_wp2
    refine bodyPost_ret (v := .tuple #[.agg #[.string ⟨s3.bs.toArray⟩, .int .i64 s3.e], .agg #[.string x1, .string x2, .string ⟨#[]⟩, .bool false, .slice none 0 0]]) ?_ rfl hfin
    simp [results, Tryz.results111, go_sem, q0, q1, y0, y1, y2, y3, y4]
  ·
   have h0d : (s3.e != 0) = true := by simpa using h0
   have HP2 : Hid (∀ W, Own6 w none [] 0 W → Turns (fun _ => False) w W → RGot61 w s3 u (.returned (.tuple #[.agg #[.string ⟨s3.bs.toArray⟩, .int .i64 s3.e], .agg #[.string ⟨#[]⟩, .string ⟨#[]⟩, .string ⟨#[]⟩, .bool false, .slice none 0 0]])) W) := fun W ho ht => by
    exact ⟨by rw [if_neg h0]; rfl, ht⟩
   clear HU
   go_wp2_with fail
   clear r1 h0 h0d
   refine wp_region_st2 (by kernel_rfl) (YL6 (.agg #[.string ⟨s3.bs.toArray⟩, .int .i64 s3.e]) (.agg #[.string ⟨#[]⟩, .string ⟨#[]⟩, .string ⟨#[]⟩, .bool false, .slice none 0 0])) (GL6 w #[.string ⟨s3.bs.toArray⟩, .int .i64 s3.e] #[.string ⟨#[]⟩, .int .i64 0] #[.string ⟨s3.bs.toArray⟩, .int .i64 s3.e] #[.string ⟨#[]⟩, .string ⟨#[]⟩, .string ⟨#[]⟩, .bool false, .slice none 0 0] #[.string ⟨#[]⟩, .string ⟨#[]⟩, .string ⟨#[]⟩, .bool false, .slice none 0 0] (some #[.string x1, .string x2, .string ⟨#[]⟩, .bool false, .slice none 0 0]) none [] 0) ?F2 ?hF2 (by kernel_rfl) (by kernel_rfl) ⟨HG8.out.still ((Turns.refl _ _).drew), HO8.out.below (below_drew (Below.refl _ _))⟩ ?step2 ?fin2
   case hF2 =>
    intro x
    simp only [List.map_cons, List.map_nil, putL, Act.put, List.setIfInBounds_toArray, List.set_cons_zero, List.set_cons_succ, Nat.zero_add]
    exact rfl
   case step2 =>
    refine ⟨?_, ?_, ?_, ?_, trivial⟩
    all_goals intro L x W hL hd hG hdep K hK
    ·
     have hg := hG.1
     have r0 : W.cell? ⟨w.heap.size, 0, none⟩ = some (.string ⟨s3.bs.toArray⟩) := cell6 hg.r 0
     have r1 : W.cell? ⟨w.heap.size, 1, none⟩ = some (.int .i64 s3.e) := cell6 hg.r 1
     clear hdep hg
     go_simp
     exact hK _ _ rfl (hG.quiet 0 (by omega)) (fun _ _ h => h)
    ·
     have hg := hG.1
     have k0 : W.cell? ⟨w.heap.size + 3, 0, none⟩ = some (.string ⟨#[]⟩) := cell6 hg.z 0
     have k1 : W.cell? ⟨w.heap.size + 3, 1, none⟩ = some (.string ⟨#[]⟩) := cell6 hg.z 1
     have k2 : W.cell? ⟨w.heap.size + 3, 2, none⟩ = some (.string ⟨#[]⟩) := cell6 hg.z 2
     have k3 : W.cell? ⟨w.heap.size + 3, 3, none⟩ = some (.bool false) := cell6 hg.z 3
     have k4 : W.cell? ⟨w.heap.size + 3, 4, none⟩ = some (.slice none 0 0) := cell6 hg.z 4
     clear hdep hg
     go_simp
     exact hK _ _ rfl (hG.quiet 1 (by omega)) (fun _ _ h => h)
    ·
     have h0 : x 0 = .agg #[.string ⟨s3.bs.toArray⟩, .int .i64 s3.e] := hdep 0 rfl
     refine step_store6 (by rfl) 129 (.tmp 4) (.tmp 59) rfl (w.heap.size + 1) rfl _ h0 _ _ hG.1.q size6R (ite_block rfl rfl) (by simp [Value.oneCell']) ?_
     exact hK _ _ trivial hG.storedQ (fun j _ h => YL6_keep j _ h)
    ·
     have h1 : x 1 = .agg #[.string ⟨#[]⟩, .string ⟨#[]⟩, .string ⟨#[]⟩, .bool false, .slice none 0 0] := hdep 1 rfl
     refine step_store6 (by rfl) 37 (.tmp 5) (.tmp 60) rfl (w.heap.size + 2) rfl _ h1 _ _ hG.1.y size6U (ite_block rfl rfl) (by simp [Value.oneCell']) ?_
     exact hK _ _ trivial hG.storedY (fun j _ h => YL6_keep j _ h)
   case fin2 =>
    intro L x W hall hG hY
    have hg := hG.1
    rw [hall 2 (by decide), hall 3 (by decide), if_pos rfl, if_pos rfl] at hg
    have q0 : W.cell? ⟨w.heap.size + 1, 0, none⟩ = some (.string ⟨s3.bs.toArray⟩) := cell6 hg.q 0
    have q1 : W.cell? ⟨w.heap.size + 1, 1, none⟩ = some (.int .i64 s3.e) := cell6 hg.q 1
    have y0 : W.cell? ⟨w.heap.size + 2, 0, none⟩ = some (.string ⟨#[]⟩) := cell6 hg.y 0
    have y1 : W.cell? ⟨w.heap.size + 2, 1, none⟩ = some (.string ⟨#[]⟩) := cell6 hg.y 1
    have y2 : W.cell? ⟨w.heap.size + 2, 2, none⟩ = some (.string ⟨#[]⟩) := cell6 hg.y 2
    have y3 : W.cell? ⟨w.heap.size + 2, 3, none⟩ = some (.bool false) := cell6 hg.y 3
    have y4 : W.cell? ⟨w.heap.size + 2, 4, none⟩ = some (.slice none 0 0) := cell6 hg.y 4
    have hfin := HP2.out W hG.2 hg.t
    clear hY hG hg hall
    go_wp2
    refine bodyPost_ret (v := .tuple #[.agg #[.string ⟨s3.bs.toArray⟩, .int .i64 s3.e], .agg #[.string ⟨#[]⟩, .string ⟨#[]⟩, .string ⟨#[]⟩, .bool false, .slice none 0 0]]) ?_ rfl hfin
    simp [results, Tryz.results111, go_sem, q0, q1, y0, y1, y2, y3, y4]
theorem rget6_one (st : St) (w : World) (nm hs : List UInt8) (s1 s2 s3 : St) (h1 : textS st 65535 = (s1, nm)) (h2 : textS s1 65535 = (s2, hs)) (h3 : failS s2 (chk6 1 (one6 nm hs)) = s3) (o0 : Ok st) (l0 : st.bs.length ≤ 1000) (o1 : Ok s1) (l1 : s1.bs.length ≤ 1000) (hn : nm.length ≤ 1000) (hh : hs.length ≤ 1000) :
  Calls Tryz.prog 111 #[refV st, .int .i64 1] w (RGot6 w s3 (one6 nm hs)) :=
 (rget61_one st w nm hs s1 s2 s3 h1 h2 h3 o0 l0 o1 l1 hn hh).mono fun e w' ⟨he, ht⟩ => ⟨none, 0, he, World.ownsRow_nil _ _ _ _, by simp [Value.ownBlock], ht⟩

set_option maxRecDepth 100000 in
set_option maxHeartbeats 8000000 in
theorem rget6_two (st : St) (w : World) (nm hs ml : List UInt8) (dis : Bool) (gs : List ByteArray) (s1 s2 s3 s4 s5 s6 : St) (h1 : textS st 65535 = (s1, nm)) (h2 : textS s1 65535 = (s2, hs)) (h3 : textS s2 65535 = (s3, ml)) (h4 : truthS s3 = (s4, dis)) (h5 : rowS s4 65535 65535 = (s5, gs)) (h6 : failS s5 (chk6 2 (two6 nm hs ml dis gs)) = s6) (o0 : Ok st) (l0 : st.bs.length ≤ 1000) (o1 : Ok s1) (l1 : s1.bs.length ≤ 1000) (o2 : Ok s2) (l2 : s2.bs.length ≤ 1000) (o3 : Ok s3) (l3 : s3.bs.length ≤ 1000) (o4 : Ok s4) (l4 : s4.bs.length ≤ 1000) (hn : nm.length ≤ 1000) (hh : hs.length ≤ 1000) (hml : ml.length ≤ 1000) (hgs : ∀ s ∈ gs, s.size ≤ 1000) :
  Calls Tryz.prog 111 #[refV st, .int .i64 2] w (RGot6 w s6 (two6 nm hs ml dis gs)) := by
 have HT1 : Hid (∀ W, Calls Tryz.prog 174 #[.agg #[.string ⟨st.bs.toArray⟩, .int .i64 st.e], .int .i64 65535] W fun e w' => e = .returned (.tuple #[.agg #[.string ⟨s1.bs.toArray⟩, .int .i64 s1.e], .string (mk6 nm)]) ∧ Turns (fun _ => False) W w') := fun W => by
  have := gettext_calls st 65535 W o0 (by omega)
  rw [h1] at this
  exact this
 have HT2 : Hid (∀ W, Calls Tryz.prog 174 #[.agg #[.string ⟨s1.bs.toArray⟩, .int .i64 s1.e], .int .i64 65535] W fun e w' => e = .returned (.tuple #[.agg #[.string ⟨s2.bs.toArray⟩, .int .i64 s2.e], .string (mk6 hs)]) ∧ Turns (fun _ => False) W w') := fun W => by
  have := gettext_calls s1 65535 W o1 (by omega)
  rw [h2] at this
  exact this
 have HT3 : Hid (∀ W, Calls Tryz.prog 174 #[.agg #[.string ⟨s2.bs.toArray⟩, .int .i64 s2.e], .int .i64 65535] W fun e w' => e = .returned (.tuple #[.agg #[.string ⟨s3.bs.toArray⟩, .int .i64 s3.e], .string (mk6 ml)]) ∧ Turns (fun _ => False) W w') := fun W => by
  have := gettext_calls s2 65535 W o2 (by omega)
  rw [h3] at this
  exact this
 have HT4 : Hid (∀ W, Calls Tryz.prog 178 #[.agg #[.string ⟨s3.bs.toArray⟩, .int .i64 s3.e]] W fun e w' => e = .returned (.tuple #[.agg #[.string ⟨s4.bs.toArray⟩, .int .i64 s4.e], .bool dis]) ∧ Turns (fun _ => False) W w') := fun W => by
  have := gettruth_calls s3 W o3 (by omega)
  rw [h4] at this
  exact this
 have HT5 : Hid (∀ W, Calls Tryz.prog 109 #[.agg #[.string ⟨s4.bs.toArray⟩, .int .i64 s4.e], .int .i64 65535, .int .i64 65535] W (RefW6 s5 gs W)) := fun W => by
  have := getrow6_calls s4 65535 65535 W o4 (by omega)
  rw [h5] at this
  exact this
 have HCK : Hid (∀ W A c, Own6 w A gs c W → Calls Tryz.prog 159 #[.int .i64 2, .agg #[.string (mk6 nm), .string (mk6 hs), .string (mk6 ml), .bool dis, .slice A gs.length c]] W (Errs5 (chk6 2 (two6 nm hs ml dis gs)) W)) := fun W A c ho => by
  obtain ⟨f1, f2, f3, f4⟩ := owns_facts6 ho.1 rfl
  have z1 : (mk6 nm).size ≤ 1000 := by show nm.toArray.size ≤ _; rw [List.size_toArray]; omega
  have z2 : (mk6 hs).size ≤ 1000 := by show hs.toArray.size ≤ _; rw [List.size_toArray]; omega
  have z3 : (mk6 ml).size ≤ 1000 := by show ml.toArray.size ≤ _; rw [List.size_toArray]; omega
  exact rcheck6_calls 2 ⟨mk6 nm, mk6 hs, mk6 ml, dis, A, gs, c⟩ W ⟨f1, Nat.le_trans z1 (by omega), Nat.le_trans z2 (by omega), Nat.le_trans z3 (by omega), f2, f3, f4, fun s hs => Nat.le_trans (hgs s hs) (by omega)⟩ z1 z2 z3 hgs
 have HFL : Hid (∀ W, Calls Tryz.prog 177 #[.agg #[.string ⟨s5.bs.toArray⟩, .int .i64 s5.e], .int .i64 (chk6 2 (two6 nm hs ml dis gs))] W fun e w' => e = .returned (.agg #[.string ⟨s6.bs.toArray⟩, .int .i64 s6.e]) ∧ Turns (fun _ => False) W w') := fun W => by
  have := reffail_calls s5 (chk6 2 (two6 nm hs ml dis gs)) W
  rw [h6] at this
  exact this
 have HU : Hid (∀ A c, ({ two6 nm hs ml dis gs with ga := A, gc := c } : Us).v = .agg #[.string (mk6 nm), .string (mk6 hs), .string (mk6 ml), .bool dis, .slice A (two6 nm hs ml dis gs).gs.length c]) := fun _ _ => rfl
 have HGS : Hid ((two6 nm hs ml dis gs).gs = gs) := rfl
 generalize chk6 2 (two6 nm hs ml dis gs) = ck at *
 clear h1 h2 h3 h4 h5 h6 o0 l0 o1 l1 o2 l2 o3 l3 o4 l4 hn hh hml hgs
 obtain ⟨u, hu⟩ : ∃ u, u = two6 nm hs ml dis gs := ⟨_, rfl⟩
 rw [← hu] at HU HGS ⊢
 clear hu
 unfold refV
 unfold mk6 at *
 generalize (⟨nm.toArray⟩ : ByteArray) = x1 at *
 generalize (⟨hs.toArray⟩ : ByteArray) = x2 at *
 generalize (⟨ml.toArray⟩ : ByteArray) = x3 at *
 have HG0 := Lib.hid ((Rf6.start w (.string ⟨st.bs.toArray⟩) (.int .i64 st.e)).user (by simp) #[.string ⟨#[]⟩, .string ⟨#[]⟩, .string ⟨#[]⟩, .bool false, .slice none 0 0])
 have r0 : _ = some (.string ⟨st.bs.toArray⟩ : Value) := cell6 HG0.out.r 0
 have r1 : _ = some (.int .i64 st.e : Value) := cell6 HG0.out.r 1
 go_enter Tryz.func111, Tryz.ntmps111
 go_wp2_with fail
 generalize ((((w.alloc (.cells #[.string ⟨st.bs.toArray⟩, .int .i64 st.e] 129)).alloc (.cells #[.string ⟨#[]⟩, .int .i64 0] 129)).alloc (.cells #[.string ⟨#[]⟩, .string ⟨#[]⟩, .string ⟨#[]⟩, .bool false, .slice none 0 0] 37)).alloc (.cells #[.string ⟨#[]⟩, .string ⟨#[]⟩, .string ⟨#[]⟩, .bool false, .slice none 0 0] 37)).alloc (.cells #[.string ⟨#[]⟩, .string ⟨#[]⟩, .string ⟨#[]⟩, .bool false, .slice none 0 0] 37) = W0 at *
 with_reducible refine (HT1.out W0).mono ?_
 rintro e w1 ⟨rfl, ht⟩
 have hg := HG0.out.still ht
 clear r0 r1
 have p0 : _ = some (.string ⟨st.bs.toArray⟩ : Value) := cell6 hg.r 0
 have p1 : _ = some (.int .i64 st.e : Value) := cell6 hg.r 1
 have pf := free6 hg.r
 have kk : _ = some (.string ⟨#[]⟩ : Value) := cell6 (hg.v _ rfl) 0
 have kf := free6 (hg.v _ rfl)
 have hg2 := hg.read (a' := .string ⟨s1.bs.toArray⟩) (b' := .int .i64 s1.e) (j := 0) (x := .string x1) (xs' := #[.string x1, .string ⟨#[]⟩, .string ⟨#[]⟩, .bool false, .slice none 0 0]) rfl
 have HG1 := Lib.hid hg2
 have r0 : _ = some (.string ⟨s1.bs.toArray⟩ : Value) := cell6 hg2.r 0
 have r1 : _ = some (.int .i64 s1.e : Value) := cell6 hg2.r 1
 clear hg hg2 ht HG0 HT1
 go_wp2_with fail
 generalize ((w1.setCell ⟨w.heap.size, 0, none⟩ (.string ⟨s1.bs.toArray⟩)).setCell ⟨w.heap.size, 1, none⟩ (.int .i64 s1.e)).setCell ⟨w.heap.size + 4, 0, none⟩ (.string x1) = W1 at *
 clear p0 p1 pf kk kf
 with_reducible refine (HT2.out W1).mono ?_
 rintro e w2 ⟨rfl, ht⟩
 have hg := HG1.out.still ht
 clear r0 r1
 have p0 : _ = some (.string ⟨s1.bs.toArray⟩ : Value) := cell6 hg.r 0
 have p1 : _ = some (.int .i64 s1.e : Value) := cell6 hg.r 1
 have pf := free6 hg.r
 have kk : _ = some (.string ⟨#[]⟩ : Value) := cell6 (hg.v _ rfl) 1
 have kf := free6 (hg.v _ rfl)
 have hg2 := hg.read (a' := .string ⟨s2.bs.toArray⟩) (b' := .int .i64 s2.e) (j := 1) (x := .string x2) (xs' := #[.string x1, .string x2, .string ⟨#[]⟩, .bool false, .slice none 0 0]) rfl
 have HG2 := Lib.hid hg2
 have r0 : _ = some (.string ⟨s2.bs.toArray⟩ : Value) := cell6 hg2.r 0
 have r1 : _ = some (.int .i64 s2.e : Value) := cell6 hg2.r 1
 clear hg hg2 ht HG1 HT2
 go_wp2_with fail
 generalize ((w2.setCell ⟨w.heap.size, 0, none⟩ (.string ⟨s2.bs.toArray⟩)).setCell ⟨w.heap.size, 1, none⟩ (.int .i64 s2.e)).setCell ⟨w.heap.size + 4, 1, none⟩ (.string x2) = W2 at *
 clear p0 p1 pf kk kf
 with_reducible refine (HT3.out W2).mono ?_
 rintro e w3 ⟨rfl, ht⟩
 have hg := HG2.out.still ht
 clear r0 r1
 have p0 : _ = some (.string ⟨s2.bs.toArray⟩ : Value) := cell6 hg.r 0
 have p1 : _ = some (.int .i64 s2.e : Value) := cell6 hg.r 1
 have pf := free6 hg.r
 have kk : _ = some (.string ⟨#[]⟩ : Value) := cell6 (hg.v _ rfl) 2
 have kf := free6 (hg.v _ rfl)
 have hg2 := hg.read (a' := .string ⟨s3.bs.toArray⟩) (b' := .int .i64 s3.e) (j := 2) (x := .string x3) (xs' := #[.string x1, .string x2, .string x3, .bool false, .slice none 0 0]) rfl
 have HG3 := Lib.hid hg2
 have r0 : _ = some (.string ⟨s3.bs.toArray⟩ : Value) := cell6 hg2.r 0
 have r1 : _ = some (.int .i64 s3.e : Value) := cell6 hg2.r 1
 clear hg hg2 ht HG2 HT3
 go_wp2_with fail
 generalize ((w3.setCell ⟨w.heap.size, 0, none⟩ (.string ⟨s3.bs.toArray⟩)).setCell ⟨w.heap.size, 1, none⟩ (.int .i64 s3.e)).setCell ⟨w.heap.size + 4, 2, none⟩ (.string x3) = W3 at *
 clear p0 p1 pf kk kf
 with_reducible refine (HT4.out W3).mono ?_
 rintro e w4 ⟨rfl, ht⟩
 have hg := HG3.out.still ht
 clear r0 r1
 have p0 : _ = some (.string ⟨s3.bs.toArray⟩ : Value) := cell6 hg.r 0
 have p1 : _ = some (.int .i64 s3.e : Value) := cell6 hg.r 1
 have pf := free6 hg.r
 have kk : _ = some (.bool false : Value) := cell6 (hg.v _ rfl) 3
 have kf := free6 (hg.v _ rfl)
 have hg2 := hg.read (a' := .string ⟨s4.bs.toArray⟩) (b' := .int .i64 s4.e) (j := 3) (x := .bool dis) (xs' := #[.string x1, .string x2, .string x3, .bool dis, .slice none 0 0]) rfl
 have HG4 := Lib.hid hg2
 have r0 : _ = some (.string ⟨s4.bs.toArray⟩ : Value) := cell6 hg2.r 0
 have r1 : _ = some (.int .i64 s4.e : Value) := cell6 hg2.r 1
 clear hg hg2 ht HG3 HT4
 go_wp2_with fail
 generalize ((w4.setCell ⟨w.heap.size, 0, none⟩ (.string ⟨s4.bs.toArray⟩)).setCell ⟨w.heap.size, 1, none⟩ (.int .i64 s4.e)).setCell ⟨w.heap.size + 4, 3, none⟩ (.bool dis) = W4 at *
 clear p0 p1 pf kk kf
 with_reducible refine (HT5.out W4).mono ?_
 rintro e w5 ⟨A, c, rfl, ho, hnw, ht⟩
 unfold refV
 have hsz : w.heap.size + 4 < W4.heap.size := (Array.getElem?_eq_some_iff.1 (HG4.out.v _ rfl)).1
 have hg := HG4.out.still ht
 clear r0 r1
 have p0 : _ = some (.string ⟨s4.bs.toArray⟩ : Value) := cell6 hg.r 0
 have p1 : _ = some (.int .i64 s4.e : Value) := cell6 hg.r 1
 have pf := free6 hg.r
 have kk : _ = some (.slice none 0 0 : Value) := cell6 (hg.v _ rfl) 4
 have kf := free6 (hg.v _ rfl)
 have hg2 := hg.read (a' := .string ⟨s5.bs.toArray⟩) (b' := .int .i64 s5.e) (j := 4) (x := .slice A gs.length c) (xs' := #[.string x1, .string x2, .string x3, .bool dis, .slice A gs.length c]) rfl
 have HG5 := Lib.hid hg2
 have r0 : _ = some (.string ⟨s5.bs.toArray⟩ : Value) := cell6 hg2.r 0
 have r1 : _ = some (.int .i64 s5.e : Value) := cell6 hg2.r 1
 have HO5 : Hid (Own6 w A gs c (((w5.setCell ⟨w.heap.size, 0, none⟩ (.string ⟨s5.bs.toArray⟩)).setCell ⟨w.heap.size, 1, none⟩ (.int .i64 s5.e)).setCell ⟨w.heap.size + 4, 4, none⟩ (.slice A gs.length c))) := Own6.turns (S := fun i => i = w.heap.size ∨ i = w.heap.size + 4) (W := w5) ⟨ho, fun j hj => by have := hnw j hj; omega⟩
  ((((Turns.refl _ _).setCell (p := ⟨w.heap.size, 0, none⟩) (fun _ => .inl rfl) _).setCell (p := ⟨w.heap.size, 1, none⟩) (fun _ => .inl rfl) _).setCell (p := ⟨w.heap.size + 4, 4, none⟩) (fun _ => .inr rfl) _) (fun j hj => by omega)
 clear ho hnw hsz
 clear hg hg2 ht HG4 HT5
 go_wp2_with fail
 generalize ((w5.setCell ⟨w.heap.size, 0, none⟩ (.string ⟨s5.bs.toArray⟩)).setCell ⟨w.heap.size, 1, none⟩ (.int .i64 s5.e)).setCell ⟨w.heap.size + 4, 4, none⟩ (.slice A gs.length c) = W5 at *
 clear p0 p1 pf kk kf
 clear r0 r1
 refine wp_region_st2 (by kernel_rfl) (YC6 2 (.agg #[.string ⟨s5.bs.toArray⟩, .int .i64 s5.e]) (.agg #[.string x1, .string x2, .string x3, .bool dis, .slice A gs.length c]) ck (.agg #[.string ⟨s6.bs.toArray⟩, .int .i64 s6.e])) (GC6 w #[.string ⟨s5.bs.toArray⟩, .int .i64 s5.e] #[.string ⟨s6.bs.toArray⟩, .int .i64 s6.e] #[.string ⟨#[]⟩, .int .i64 0] #[.string ⟨#[]⟩, .string ⟨#[]⟩, .string ⟨#[]⟩, .bool false, .slice none 0 0] (some #[.string x1, .string x2, .string x3, .bool dis, .slice A gs.length c]) A gs c) ?F ?hF (by kernel_rfl) (by kernel_rfl) ⟨HG5.out.still ((Turns.refl _ _).drew), HO5.out.below (below_drew (Below.refl _ _)), fun h => by cases h⟩ ?step ?fin
 case hF =>
  intro x
  simp only [List.map_cons, List.map_nil, putL, Act.put, List.setIfInBounds_toArray, List.set_cons_zero, List.set_cons_succ, Nat.zero_add, Nat.reduceAdd]
  exact rfl
 case step =>
  refine ⟨?_, ?_, ?_, ?_, ?_, ?_, trivial⟩
  all_goals intro L x W hL hd hG hdep K hK
  ·
   have hg := hG.ahead 0 (by omega) hL
   have r0 : W.cell? ⟨w.heap.size, 0, none⟩ = some (.string ⟨s5.bs.toArray⟩) := cell6 hg.r 0
   have r1 : W.cell? ⟨w.heap.size, 1, none⟩ = some (.int .i64 s5.e) := cell6 hg.r 1
   clear hdep hg
   go_simp
   exact hK _ _ rfl (hG.quiet 0 (by omega) hL (Below.refl _ _)) (fun _ _ h => h)
  ·
   clear hdep
   go_simp
   exact hK _ _ rfl (hG.quiet 1 (by omega) hL (Below.refl _ _)) (fun _ _ h => h)
  ·
   have hg := hG.ahead 2 (by omega) hL
   have k0 : W.cell? ⟨w.heap.size + 4, 0, none⟩ = some (.string x1) := cell6 (hg.v _ rfl) 0
   have k1 : W.cell? ⟨w.heap.size + 4, 1, none⟩ = some (.string x2) := cell6 (hg.v _ rfl) 1
   have k2 : W.cell? ⟨w.heap.size + 4, 2, none⟩ = some (.string x3) := cell6 (hg.v _ rfl) 2
   have k3 : W.cell? ⟨w.heap.size + 4, 3, none⟩ = some (.bool dis) := cell6 (hg.v _ rfl) 3
   have k4 : W.cell? ⟨w.heap.size + 4, 4, none⟩ = some (.slice A gs.length c) := cell6 (hg.v _ rfl) 4
   clear hdep hg
   go_simp
   exact hK _ _ rfl (hG.quiet 2 (by omega) hL (Below.refl _ _)) (fun _ _ h => h)
  ·
   have h1 : x 1 = _ := hdep 1 rfl
   have h2 : x 2 = _ := hdep 2 rfl
   clear hdep
   simp only [h1, h2] at hK
   go_simp
   refine (HCK.out W A c hG.2.1).mono ?_
   rintro e W' ⟨rfl, hb⟩
   exact hK _ _ rfl (hG.quiet 3 (by omega) hL hb) (fun j _ h => YC6_keep j _ h)
  ·
   have h0 : x 0 = _ := hdep 0 rfl
   have h3 : x 3 = _ := hdep 3 rfl
   clear hdep
   simp only [h0, h3] at hK
   go_simp
   refine (HFL.out W).mono ?_
   rintro e W' ⟨rfl, ht⟩
   exact hK _ _ rfl (hG.quiet 4 (by omega) hL (ht.below (fun _ f => f.elim))) (fun j _ h => YC6_keep j _ h)
  ·
   have h4 : x 4 = .agg #[.string ⟨s6.bs.toArray⟩, .int .i64 s6.e] := hdep 4 rfl
   have hd0 : ∀ j, j < 5 → L j = true := fun j hj => hd j (by rcases j with _ | _ | _ | _ | _ | j <;> first | rfl | omega)
   refine step_store6 (by rfl) 129 (.tmp 2) (.tmp 55) rfl w.heap.size rfl _ h4 _ _ hG.1.r size6R (ite_block rfl rfl) (by simp [Value.oneCell']) ?_
   exact hK _ _ trivial (hG.stored hd0) (fun j _ h => YC6_keep j _ h)
 case fin =>
  intro L x W8 hall hG hY
  have hg := hG.1
  rw [hall 5 (by decide), if_pos rfl] at hg
  have HG8 := Lib.hid hg
  have HO8 := Lib.hid hG.2.1
  have r1 : _ = some (.int .i64 s6.e : Value) := cell6 hg.r 1
  clear hY hG hg hall HCK HFL HG5 HO5
  by_cases h0 : s6.e = 0
  ·
   have h0d : (s6.e != 0) = false := by simpa using h0
   have HP1 : Hid (∀ W, Own6 w A gs c W → Turns (fun _ => False) w W → RGot6 w s6 u (.returned (.tuple #[.agg #[.string ⟨s6.bs.toArray⟩, .int .i64 s6.e], .agg #[.string x1, .string x2, .string x3, .bool dis, .slice A gs.length c]])) W) := fun W ho ht => by
    refine ⟨A, c, by rw [if_pos h0, HU.out, HGS.out]; rfl, ?_, ?_, ht⟩
    ·
     rw [HGS.out]; exact ho.1
    ·
     rw [HGS.out]; exact fun j hj => by have := ho.2 j hj; omega
   clear HU
   go_wp2_with fail
   clear r1 h0 h0d
   refine wp_region_st2 (by kernel_rfl) (YL6 (.agg #[.string ⟨s6.bs.toArray⟩, .int .i64 s6.e]) (.agg #[.string x1, .string x2, .string x3, .bool dis, .slice A gs.length c])) (GL6 w #[.string ⟨s6.bs.toArray⟩, .int .i64 s6.e] #[.string ⟨#[]⟩, .int .i64 0] #[.string ⟨s6.bs.toArray⟩, .int .i64 s6.e] #[.string ⟨#[]⟩, .string ⟨#[]⟩, .string ⟨#[]⟩, .bool false, .slice none 0 0] #[.string x1, .string x2, .string x3, .bool dis, .slice A gs.length c] (some #[.string x1, .string x2, .string x3, .bool dis, .slice A gs.length c]) A gs c) ?F1 ?hF1 (by kernel_rfl) (by kernel_rfl) ⟨HG8.out.still ((Turns.refl _ _).drew), HO8.out.below (below_drew (Below.refl _ _))⟩ ?step1 ?fin1
   case hF1 =>
    intro x
    simp only [List.map_cons, List.map_nil, putL, Act.put, List.setIfInBounds_toArray, List.set_cons_zero, List.set_cons_succ, Nat.zero_add]
    exact rfl
   case step1 =>
    refine ⟨?_, ?_, ?_, ?_, trivial⟩
    all_goals intro L x W hL hd hG hdep K hK
    ·
     have hg := hG.1
     have r0 : W.cell? ⟨w.heap.size, 0, none⟩ = some (.string ⟨s6.bs.toArray⟩) := cell6 hg.r 0
     have r1 : W.cell? ⟨w.heap.size, 1, none⟩ = some (.int .i64 s6.e) := cell6 hg.r 1
     clear hdep hg
     go_simp
     exact hK _ _ rfl (hG.quiet 0 (by omega)) (fun _ _ h => h)
    ·
     have hg := hG.1
     have k0 : W.cell? ⟨w.heap.size + 4, 0, none⟩ = some (.string x1) := cell6 (hg.v _ rfl) 0
     have k1 : W.cell? ⟨w.heap.size + 4, 1, none⟩ = some (.string x2) := cell6 (hg.v _ rfl) 1
     have k2 : W.cell? ⟨w.heap.size + 4, 2, none⟩ = some (.string x3) := cell6 (hg.v _ rfl) 2
     have k3 : W.cell? ⟨w.heap.size + 4, 3, none⟩ = some (.bool dis) := cell6 (hg.v _ rfl) 3
     have k4 : W.cell? ⟨w.heap.size + 4, 4, none⟩ = some (.slice A gs.length c) := cell6 (hg.v _ rfl) 4
     clear hdep hg
     go_simp
     exact hK _ _ rfl (hG.quiet 1 (by omega)) (fun _ _ h => h)
    ·
     have h0 : x 0 = .agg #[.string ⟨s6.bs.toArray⟩, .int .i64 s6.e] := hdep 0 rfl
     refine step_store6 (by rfl) 129 (.tmp 4) (.tmp 61) rfl (w.heap.size + 1) rfl _ h0 _ _ hG.1.q size6R (ite_block rfl rfl) (by simp [Value.oneCell']) ?_
     exact hK _ _ trivial hG.storedQ (fun j _ h => YL6_keep j _ h)
    ·
     have h1 : x 1 = .agg #[.string x1, .string x2, .string x3, .bool dis, .slice A gs.length c] := hdep 1 rfl
     refine step_store6 (by rfl) 37 (.tmp 5) (.tmp 62) rfl (w.heap.size + 2) rfl _ h1 _ _ hG.1.y size6U (ite_block rfl rfl) (by simp [Value.oneCell']) ?_
     exact hK _ _ trivial hG.storedY (fun j _ h => YL6_keep j _ h)
   case fin1 =>
    intro L x W hall hG hY
    have hg := hG.1
    rw [hall 2 (by decide), hall 3 (by decide), if_pos rfl, if_pos rfl] at hg
    have q0 : W.cell? ⟨w.heap.size + 1, 0, none⟩ = some (.string ⟨s6.bs.toArray⟩) := cell6 hg.q 0
    have q1 : W.cell? ⟨w.heap.size + 1, 1, none⟩ = some (.int .i64 s6.e) := cell6 hg.q 1
    have y0 : W.cell? ⟨w.heap.size + 2, 0, none⟩ = some (.string x1) := cell6 hg.y 0
    have y1 : W.cell? ⟨w.heap.size + 2, 1, none⟩ = some (.string x2) := cell6 hg.y 1
    have y2 : W.cell? ⟨w.heap.size + 2, 2, none⟩ = some (.string x3) := cell6 hg.y 2
    have y3 : W.cell? ⟨w.heap.size + 2, 3, none⟩ = some (.bool dis) := cell6 hg.y 3
    have y4 : W.cell? ⟨w.heap.size + 2, 4, none⟩ = some (.slice A gs.length c) := cell6 hg.y 4
    have hfin := HP1.out W hG.2 hg.t
    clear hY hG hg hall
    go_wp2
    refine bodyPost_ret (v := .tuple #[.agg #[.string ⟨s6.bs.toArray⟩, .int .i64 s6.e], .agg #[.string x1, .string x2, .string x3, .bool dis, .slice A gs.length c]]) ?_ rfl hfin
    simp [results, Tryz.results111, go_sem, q0, q1, y0, y1, y2, y3, y4]
  ·
   have h0d : (s6.e != 0) = true := by simpa using h0
   have HP2 : Hid (∀ W, Own6 w A gs c W → Turns (fun _ => False) w W → RGot6 w s6 u (.returned (.tuple #[.agg #[.string ⟨s6.bs.toArray⟩, .int .i64 s6.e], .agg #[.string ⟨#[]⟩, .string ⟨#[]⟩, .string ⟨#[]⟩, .bool false, .slice none 0 0]])) W) := fun W ho ht => by
    refine ⟨A, c, by rw [if_neg h0]; rfl, ?_, ?_, ht⟩
    ·
     rw [HGS.out]; exact ho.1
    ·
     rw [HGS.out]; exact fun j hj => by have := ho.2 j hj; omega
   clear HU
   go_wp2_with fail
   clear r1 h0 h0d
   refine wp_region_st2 (by kernel_rfl) (YL6 (.agg #[.string ⟨s6.bs.toArray⟩, .int .i64 s6.e]) (.agg #[.string ⟨#[]⟩, .string ⟨#[]⟩, .string ⟨#[]⟩, .bool false, .slice none 0 0])) (GL6 w #[.string ⟨s6.bs.toArray⟩, .int .i64 s6.e] #[.string ⟨#[]⟩, .int .i64 0] #[.string ⟨s6.bs.toArray⟩, .int .i64 s6.e] #[.string ⟨#[]⟩, .string ⟨#[]⟩, .string ⟨#[]⟩, .bool false, .slice none 0 0] #[.string ⟨#[]⟩, .string ⟨#[]⟩, .string ⟨#[]⟩, .bool false, .slice none 0 0] (some #[.string x1, .string x2, .string x3, .bool dis, .slice A gs.length c]) A gs c) ?F2 ?hF2 (by kernel_rfl) (by kernel_rfl) ⟨HG8.out.still ((Turns.refl _ _).drew), HO8.out.below (below_drew (Below.refl _ _))⟩ ?step2 ?fin2
   case hF2 =>
    intro x
    simp only [List.map_cons, List.map_nil, putL, Act.put, List.setIfInBounds_toArray, List.set_cons_zero, List.set_cons_succ, Nat.zero_add]
    exact rfl
   case step2 =>
    refine ⟨?_, ?_, ?_, ?_, trivial⟩
    all_goals intro L x W hL hd hG hdep K hK
    ·
     have hg := hG.1
     have r0 : W.cell? ⟨w.heap.size, 0, none⟩ = some (.string ⟨s6.bs.toArray⟩) := cell6 hg.r 0
     have r1 : W.cell? ⟨w.heap.size, 1, none⟩ = some (.int .i64 s6.e) := cell6 hg.r 1
     clear hdep hg
     go_simp
     exact hK _ _ rfl (hG.quiet 0 (by omega)) (fun _ _ h => h)
    ·
     have hg := hG.1
     have k0 : W.cell? ⟨w.heap.size + 3, 0, none⟩ = some (.string ⟨#[]⟩) := cell6 hg.z 0
     have k1 : W.cell? ⟨w.heap.size + 3, 1, none⟩ = some (.string ⟨#[]⟩) := cell6 hg.z 1
     have k2 : W.cell? ⟨w.heap.size + 3, 2, none⟩ = some (.string ⟨#[]⟩) := cell6 hg.z 2
     have k3 : W.cell? ⟨w.heap.size + 3, 3, none⟩ = some (.bool false) := cell6 hg.z 3
     have k4 : W.cell? ⟨w.heap.size + 3, 4, none⟩ = some (.slice none 0 0) := cell6 hg.z 4
     clear hdep hg
     go_simp
     exact hK _ _ rfl (hG.quiet 1 (by omega)) (fun _ _ h => h)
    ·
     have h0 : x 0 = .agg #[.string ⟨s6.bs.toArray⟩, .int .i64 s6.e] := hdep 0 rfl
     refine step_store6 (by rfl) 129 (.tmp 4) (.tmp 59) rfl (w.heap.size + 1) rfl _ h0 _ _ hG.1.q size6R (ite_block rfl rfl) (by simp [Value.oneCell']) ?_
     exact hK _ _ trivial hG.storedQ (fun j _ h => YL6_keep j _ h)
    ·
     have h1 : x 1 = .agg #[.string ⟨#[]⟩, .string ⟨#[]⟩, .string ⟨#[]⟩, .bool false, .slice none 0 0] := hdep 1 rfl
     refine step_store6 (by rfl) 37 (.tmp 5) (.tmp 60) rfl (w.heap.size + 2) rfl _ h1 _ _ hG.1.y size6U (ite_block rfl rfl) (by simp [Value.oneCell']) ?_
     exact hK _ _ trivial hG.storedY (fun j _ h => YL6_keep j _ h)
   case fin2 =>
    intro L x W hall hG hY
    have hg := hG.1
    rw [hall 2 (by decide), hall 3 (by decide), if_pos rfl, if_pos rfl] at hg
    have q0 : W.cell? ⟨w.heap.size + 1, 0, none⟩ = some (.string ⟨s6.bs.toArray⟩) := cell6 hg.q 0
    have q1 : W.cell? ⟨w.heap.size + 1, 1, none⟩ = some (.int .i64 s6.e) := cell6 hg.q 1
    have y0 : W.cell? ⟨w.heap.size + 2, 0, none⟩ = some (.string ⟨#[]⟩) := cell6 hg.y 0
    have y1 : W.cell? ⟨w.heap.size + 2, 1, none⟩ = some (.string ⟨#[]⟩) := cell6 hg.y 1
    have y2 : W.cell? ⟨w.heap.size + 2, 2, none⟩ = some (.string ⟨#[]⟩) := cell6 hg.y 2
    have y3 : W.cell? ⟨w.heap.size + 2, 3, none⟩ = some (.bool false) := cell6 hg.y 3
    have y4 : W.cell? ⟨w.heap.size + 2, 4, none⟩ = some (.slice none 0 0) := cell6 hg.y 4
    have hfin := HP2.out W hG.2 hg.t
    clear hY hG hg hall
    go_wp2
    refine bodyPost_ret (v := .tuple #[.agg #[.string ⟨s6.bs.toArray⟩, .int .i64 s6.e], .agg #[.string ⟨#[]⟩, .string ⟨#[]⟩, .string ⟨#[]⟩, .bool false, .slice none 0 0]]) ?_ rfl hfin
    simp [results, Tryz.results111, go_sem, q0, q1, y0, y1, y2, y3, y4]
end Go.Proofs.YtmcomnocpibiiaaGreatDoor


namespace Go.Proofs.YtmcomnocpibiiaaGreatDoor
open Go.RowKit

theorem takeS_few6 (st : St) (n : Nat) : (takeS st n).2.length ≤ st.bs.length := by
 unfold takeS
 split
 ·
  simp
 ·
  simp only [List.length_take]; omega
theorem textS_few6 (st : St) (m : Int) : (textS st m).2.length ≤ st.bs.length := Nat.le_trans (takeS_few6 _ _) (lengthS_left st m)
theorem truthS_left6 (st : St) : (truthS st).1.bs.length ≤ st.bs.length := by
 unfold truthS
 split
 ·
  exact Nat.le_trans (failS_length _ _) (numS_left st 1)
 ·
  exact numS_left st 1
theorem mk6_size (l : List UInt8) : (mk6 l).size = l.length := by
 show l.toArray.size = _
 rw [List.size_toArray]
theorem rowGo_sizes6 (long : Int) (n : Nat) : ∀ (k : Nat) (st : St) (acc : List ByteArray), st.bs.length ≤ n → (∀ s ∈ acc, s.size ≤ n) → ∀ s ∈ (rowGo long k st acc).2, s.size ≤ n
 | 0, _, _, _, h => h
 | k + 1, st, acc, hl, h => by
  unfold rowGo
  split
  ·
   intro s hs; cases hs
  ·
   refine rowGo_sizes6 long n k _ _ (Nat.le_trans (textS_left st long) hl) (fun s hs => ?_)
   rcases List.mem_append.1 hs with hs | hs
   ·
    exact h s hs
   ·
    rw [List.mem_singleton.1 hs]
    have h1 := mk6_size (textS st long).2
    have h2 := textS_few6 st long
    unfold mk6 at h1
    omega
theorem rowS_sizes6 (st : St) (m l : Int) : ∀ s ∈ (rowS st m l).2, s.size ≤ st.bs.length :=
 rowGo_sizes6 l _ _ _ _ (lengthS_left st m) (fun s hs => by cases hs)

def one6S (st : St) : St × Us := ((textS (textS st 65535).1 65535).1, one6 (textS st 65535).2 (textS (textS st 65535).1 65535).2)
def two6S (st : St) (nm hs : List UInt8) : St × Us :=
 ((rowS (truthS (textS st 65535).1).1 65535 65535).1, two6 nm hs (textS st 65535).2 (truthS (textS st 65535).1).2 (rowS (truthS (textS st 65535).1).1 65535 65535).2)
def getS (s : Int) (st : St) : St × Us :=
 if s = 1 then (failS (one6S st).1 (chk6 1 (one6S st).2), (one6S st).2)
 else if s = 2 then (failS (two6S (one6S st).1 (textS st 65535).2 (textS (textS st 65535).1 65535).2).1 (chk6 2 (two6S (one6S st).1 (textS st 65535).2 (textS (textS st 65535).1 65535).2).2), (two6S (one6S st).1 (textS st 65535).2 (textS (textS st 65535).1 65535).2).2)
 else (failS st 6, zeroU)
theorem getS_none {s : Int} (h : know6 s = false) (st : St) : getS s st = (failS st 6, zeroU) := by
 simp only [know6, Bool.or_eq_false_iff, decide_eq_false_iff_not] at h
 unfold getS
 rw [if_neg h.1, if_neg h.2]

theorem getS_one {st s1 s2 : St} {nm hs : List UInt8} (h1 : textS st 65535 = (s1, nm)) (h2 : textS s1 65535 = (s2, hs)) : getS 1 st = (failS s2 (chk6 1 (one6 nm hs)), one6 nm hs) := by
 unfold getS one6S
 rw [if_pos rfl]
 simp only [h1, h2]
theorem getS_two {st s1 s2 s3 s4 s5 : St} {nm hs ml : List UInt8} {dis : Bool} {gs : List ByteArray} (h1 : textS st 65535 = (s1, nm)) (h2 : textS s1 65535 = (s2, hs)) (h3 : textS s2 65535 = (s3, ml)) (h4 : truthS s3 = (s4, dis)) (h5 : rowS s4 65535 65535 = (s5, gs)) :
  getS 2 st = (failS s5 (chk6 2 (two6 nm hs ml dis gs)), two6 nm hs ml dis gs) := by
 unfold getS one6S two6S
 rw [if_neg (by decide), if_pos rfl]
 simp only [h1, h2, h3, h4, h5]
structure Parts6 (st s1 s2 s3 s4 s5 : St) (nm hs ml : List UInt8) (dis : Bool) (gs : List ByteArray) : Prop where
 h1 : textS st 65535 = (s1, nm)
 h2 : textS s1 65535 = (s2, hs)
 h3 : textS s2 65535 = (s3, ml)
 h4 : truthS s3 = (s4, dis)
 h5 : rowS s4 65535 65535 = (s5, gs)
 l1 : s1.bs.length ≤ 1000
 l2 : s2.bs.length ≤ 1000
 l3 : s3.bs.length ≤ 1000
 l4 : s4.bs.length ≤ 1000
 f1 : nm.length ≤ 1000
 f2 : hs.length ≤ 1000
 f3 : ml.length ≤ 1000
 f5 : ∀ s ∈ gs, s.size ≤ 1000
theorem parts6 (st : St) (hl : st.bs.length ≤ 1000) : ∃ s1 s2 s3 s4 s5 nm hs ml dis gs, Parts6 st s1 s2 s3 s4 s5 nm hs ml dis gs := by
 have l1 := textS_left st 65535
 have f1 := textS_few6 st 65535
 rcases h1 : textS st 65535 with ⟨s1, nm⟩
 rw [h1] at l1 f1
 have l2 := textS_left s1 65535
 have f2 := textS_few6 s1 65535
 rcases h2 : textS s1 65535 with ⟨s2, hs⟩
 rw [h2] at l2 f2
 have l3 := textS_left s2 65535
 have f3 := textS_few6 s2 65535
 rcases h3 : textS s2 65535 with ⟨s3, ml⟩
 rw [h3] at l3 f3
 have l4 := truthS_left6 s3
 rcases h4 : truthS s3 with ⟨s4, dis⟩
 rw [h4] at l4
 have f5 := rowS_sizes6 s4 65535 65535
 rcases h5 : rowS s4 65535 65535 with ⟨s5, gs⟩
 rw [h5] at f5
 dsimp only at l1 l2 l3 l4 f1 f2 f3 f5
 exact ⟨s1, s2, s3, s4, s5, nm, hs, ml, dis, gs, h1, h2, h3, h4, h5, by omega, by omega, by omega, by omega, by omega, by omega, by omega, fun s hs => by have := f5 s hs; omega⟩


theorem rget6_all (s : Int) (st : St) (w : World) (hok : Ok st) (hl : st.bs.length ≤ 1000) :
  Calls Tryz.prog 111 #[refV st, .int .i64 s] w (RGot6 w (getS s st).1 (getS s st).2) := by
 cases hk : know6 s with
 | false =>
  rw [getS_none hk]
  exact rget6_none s st w hk
 | true =>
  obtain ⟨s1, s2, s3, s4, s5, nm, hs, ml, dis, gs, p⟩ := parts6 st hl
  obtain ⟨h1, h2, h3, h4, h5, l1, l2, l3, l4, f1, f2, f3, f5⟩ := p
  have o1 : Ok s1 := by have := hok.text 65535; rw [h1] at this; exact this
  have o2 : Ok s2 := by have := o1.text 65535; rw [h2] at this; exact this
  have hs : s = 1 ∨ s = 2 := by simpa [know6] using hk
  rcases hs with rfl | rfl
  ·
   rw [getS_one h1 h2]
   exact rget6_one st w _ _ _ _ _ h1 h2 rfl hok hl o1 l1 f1 f2
  ·
   have o3 : Ok s3 := by have := o2.text 65535; rw [h3] at this; exact this
   have o4 : Ok s4 := by have := o3.truth; rw [h4] at this; exact this
   rw [getS_two h1 h2 h3 h4 h5]
   exact rget6_two st w _ _ _ _ _ _ _ _ _ _ _ h1 h2 h3 h4 h5 rfl hok hl o1 l1 o2 l2 o3 l3 o4 l4 f1 f2 f3 f5

structure Us.Short (u : Us) : Prop where
 nm : u.nm.size ≤ 1000
 hs : u.hs.size ≤ 1000
 ml : u.ml.size ≤ 1000
 all : ∀ s ∈ u.gs, s.size ≤ 1000
theorem getS_short (s : Int) (st : St) (hl : st.bs.length ≤ 1000) : (getS s st).2.Short := by
 cases hk : know6 s with
 | false =>
  rw [getS_none hk]
  exact ⟨Nat.zero_le _, Nat.zero_le _, Nat.zero_le _, fun s hs => by cases hs⟩
 | true =>
  obtain ⟨s1, s2, s3, s4, s5, nm, hs, ml, dis, gs, p⟩ := parts6 st hl
  obtain ⟨h1, h2, h3, h4, h5, l1, l2, l3, l4, f1, f2, f3, f5⟩ := p
  rw [← mk6_size] at f1 f2 f3
  have hs : s = 1 ∨ s = 2 := by simpa [know6] using hk
  rcases hs with rfl | rfl
  ·
   rw [getS_one h1 h2]
   exact ⟨f1, f2, Nat.zero_le _, fun s hs => by cases hs⟩
  ·
   rw [getS_two h1 h2 h3 h4 h5]
   exact ⟨f1, f2, f3, f5⟩

end Go.Proofs.YtmcomnocpibiiaaGreatDoor


namespace Go.Proofs.YtmcomnocpibiiaaGreatDoor
open Go.RowKit



end Go.Proofs.YtmcomnocpibiiaaGreatDoor


namespace Go.Proofs.YtmcomnocpibiiaaGreatDoor
open Go.ChangeShapes Go.WideShapes Go.ChangeAt Go.RowKit Go.Deep



section
variable {H : Type} {enc : TypeId × Value → H} {W : World} {base b0 : Nat} {sp : Nat → Bool} {hd : Bool} {fuel : Nat}


end
end Go.Proofs.YtmcomnocpibiiaaGreatDoor


namespace Go.Proofs.YtmcomnocpibiiaaGreatDoor
open Go.RowKit

set_option maxRecDepth 100000 in
set_option maxHeartbeats 2000000 in
theorem rsame6_calls (a b : Us) (w : World) (ha : a.Ok w) (hb : b.Ok w) : Calls Tryz.prog 71 #[a.v, b.v] w (Tells5 (sameU a b) w) := by
 have HB0 := Lib.hid (below_alloc (below_alloc (Below.refl w.heap.size w) (.cells a.cells 37)) (.cells b.cells 37))
 have HUA : Hid (UsAt ((w.alloc (.cells a.cells 37)).alloc (.cells b.cells 37)) w.heap.size a) := (UsAt.new w a _).below (below_alloc (Below.refl _ _) _)
 have HUB : Hid (UsAt ((w.alloc (.cells a.cells 37)).alloc (.cells b.cells 37)) (w.heap.size + 1) b) := by
  have h := UsAt.new (w.alloc (.cells a.cells 37)) b 37
  rw [show (w.alloc (.cells a.cells 37)).heap.size = w.heap.size + 1 by simp] at h
  exact Lib.hid h
 have HRA := Lib.hid (ha.rd.below HB0.out)
 have HRB := Lib.hid (hb.rd.below HB0.out)
 have hla := Nat.le_trans ha.len ha.cap
 have hlb := Nat.le_trans hb.len hb.cap
 clear ha hb
 unfold sameU Us.v
 unfold Us.cells at *
 obtain ⟨nm, hs, ml, dis, A, gs, c⟩ := a
 obtain ⟨nm', hs', ml', dis', A', gs', c'⟩ := b
 dsimp only at *
 obtain ⟨n, hn⟩ : ∃ n, n = gs.length := ⟨_, rfl⟩
 obtain ⟨m, hm⟩ : ∃ m, m = gs'.length := ⟨_, rfl⟩
 have HN := Lib.hid hn
 have HM := Lib.hid hm
 have hu4 : _ = some (.slice A gs.length c : Value) := HUA.out.c4
 have hv4 : _ = some (.slice A' gs'.length c' : Value) := HUB.out.c4
 rw [← hn] at HB0 HRA HRB hla hu4 hv4 ⊢
 rw [← hm] at HB0 HRA HRB hlb hu4 hv4 ⊢
 clear hn hm HUA HUB
 obtain ⟨r, hr⟩ : ∃ r, r = (decide (nm = nm') && decide (hs = hs') && decide (ml = ml') && decide (dis = dis') && decide (gs = gs')) := ⟨_, rfl⟩
 rw [← hr]
 have HR := Lib.hid hr
 clear hr
 by_cases h1 : nm = nm'
 ·
  by_cases h2 : hs = hs'
  ·
   by_cases h3 : ml = ml'
   ·
    by_cases h4 : dis = dis'
    ·
     have HR2 : Hid (r = decide (gs = gs')) := by rw [HR.out]; simp [h1, h2, h3, h4, Hid]
     subst h1; subst h2; subst h3; subst h4
     clear HR
     have h4d : (dis != dis) = false := by simp
     by_cases hnm : n = m
     ·
      subst hnm
      have hnn : ((n : Int) != (n : Int)) = false := by simp
      go_enter Tryz.func71, Tryz.ntmps71
      go_wp2
      generalize (w.alloc (.cells #[.string nm, .string hs, .string ml, .bool dis, .slice A n c] 37)).alloc (.cells #[.string nm, .string hs, .string ml, .bool dis, .slice A' n c'] 37) = w1 at *
      go_loopg [5, 44] n (fun gg _ s44 wr => ∃ k : Nat, k ≤ n ∧ n - k ≤ gg ∧ s44 = .int .i64 k ∧ (∃ q, wr = w1.drewN q) ∧ Hid (gs.take k = gs'.take k))
      case atStart => exact ⟨0, Nat.zero_le _, by omega, rfl, ⟨0, rfl⟩, rfl⟩
      case round =>
       obtain ⟨k, hk, hg, rfl, ⟨q, hq⟩, HT⟩ := hrel
       have HQ := Lib.hid hq
       have HW : Hid (RdS wr A gs ∧ RdS wr A' gs') := by
        rw [hq]
        exact ⟨HRA.out.below (below_drewN (Below.refl _ _) q), HRB.out.below (below_drewN (Below.refl _ _) q)⟩
       have x4 : ∀ i, (wr.drewN i).cell? ⟨w.heap.size, 4, none⟩ = some (.slice A n c) := fun i => by rw [hq]; exact hu4
       have y4 : ∀ i, (wr.drewN i).cell? ⟨w.heap.size + 1, 4, none⟩ = some (.slice A' n c') := fun i => by rw [hq]; exact hv4
       clear hq
       by_cases hlt : k < n
       ·
        have hltz : (k : Int) < (n : Int) := by omega
        have hk1 : k < gs.length := by have := HN.out; omega
        have hk2 : k < gs'.length := by have := HM.out; omega
        obtain ⟨b1, o1, rfl, hc1⟩ := HW.out.1.at6 k hk1
        obtain ⟨b2, o2, rfl, hc2⟩ := HW.out.2.at6 k hk2
        have hd1 : ∀ i, (wr.drewN i).cell? ⟨b1, o1 + k, none⟩ = some (.string gs[k]) := fun i => hc1
        have hd2 : ∀ i, (wr.drewN i).cell? ⟨b2, o2 + k, none⟩ = some (.string gs'[k]) := fun i => hc2
        have HX : Hid (gs[k] = gs'[k] → gs.take (k + 1) = gs'.take (k + 1)) := fun e => by
         rw [List.take_succ_eq_append_getElem hk1, List.take_succ_eq_append_getElem hk2, HT.out, e]
        have HF : Hid (gs[k] ≠ gs'[k] → r = false) := fun e => by
         rw [HR2.out, decide_eq_false_iff_not]
         intro e2
         subst e2
         exact e rfl
        clear hc1 hc2 HT HW
        generalize gs[k] = x at *
        generalize gs'[k] = y at *
        by_cases hxy : x = y
        ·
         have HX2 := Lib.hid (HX.out hxy)
         clear HX HF
         subst hxy
         go_wp2_with fail
         go_quiet (fail)
         go_wp2
         go_roundg (n - (k + 1))
         case measure => omega
         case rel => exact ⟨k + 1, by omega, by omega, by go_num, ⟨q + nq, by rw [HQ.out, World.drewN_drewN]⟩, HX2⟩
        ·
         have hr : r = false := HF.out hxy
         subst hr
         have hne := toList_ne6 hxy
         have hne2 : (x.toList != y.toList) = true := by simpa using hne
         have hne3 : (x.toList == y.toList) = false := by simpa using hne
         have hne4 : ¬ x.toList = y.toList := hne
         have hne5 : decide (x.toList = y.toList) = false := decide_eq_false hne
         clear HX HF HR2
         go_wp2_with fail
         go_quiet (fail)
         go_wp2
         go_ret
         exact ⟨rfl, by rw [HQ.out, World.drewN_drewN]; exact below_drewN HB0.out _⟩
       ·
        have hltz : ¬ (k : Int) < (n : Int) := by omega
        obtain rfl : k = n := by omega
        have hr : r = true := by
         rw [HR2.out, decide_eq_true_eq]
         have h1 := HT.out
         rw [HN.out, List.take_length] at h1
         have h2 : gs'.take gs.length = gs' := List.take_of_length_le (by have := HN.out; have := HM.out; omega)
         rw [h2] at h1
         exact h1
        subst hr
        clear HT HR2 HW
        go_wp2
        go_ret
        exact ⟨rfl, by rw [HQ.out]; exact below_drewN HB0.out _⟩
     ·
      have hr : r = false := by
       rw [HR2.out, decide_eq_false_iff_not]
       intro e
       exact hnm (by rw [HN.out, HM.out, e])
      subst hr
      have hnn : ((n : Int) != (m : Int)) = true := by simp; omega
      clear HR2
      go_enter Tryz.func71, Tryz.ntmps71
      go_wp2
      go_ret
      exact ⟨rfl, HB0.out⟩
    ·
     have hr : r = false := by rw [HR.out]; simp [h4]
     subst hr
     subst h1; subst h2; subst h3
     clear HR
     have h4d : (dis != dis') = true := by simpa using h4
     go_enter Tryz.func71, Tryz.ntmps71
     go_wp2
     go_ret
     exact ⟨rfl, HB0.out⟩
   ·
    have hr : r = false := by rw [HR.out]; simp [h3]
    subst hr
    subst h1; subst h2
    have hne := toList_ne6 h3
    have hne2 : (ml.toList != ml'.toList) = true := by simpa using hne
    clear HR h3
    go_enter Tryz.func71, Tryz.ntmps71
    go_wp2
    go_ret
    exact ⟨rfl, HB0.out⟩
  ·
   have hr : r = false := by rw [HR.out]; simp [h2]
   subst hr
   subst h1
   have hne := toList_ne6 h2
   have hne2 : (hs.toList != hs'.toList) = true := by simpa using hne
   clear HR h2
   go_enter Tryz.func71, Tryz.ntmps71
   go_wp2
   go_ret
   exact ⟨rfl, HB0.out⟩
 ·
  have hr : r = false := by rw [HR.out]; simp [h1]
  subst hr
  have hne := toList_ne6 h1
  have hne2 : (nm.toList != nm'.toList) = true := by simpa using hne
  clear HR h1
  go_enter Tryz.func71, Tryz.ntmps71
  go_wp2
  go_ret
  exact ⟨rfl, HB0.out⟩
end Go.Proofs.YtmcomnocpibiiaaGreatDoor


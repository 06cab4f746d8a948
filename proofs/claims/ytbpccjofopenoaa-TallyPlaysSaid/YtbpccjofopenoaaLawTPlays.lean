/-
  The law TallyPlays tells true of any acts, and turns nothing that was there.
  Conditions: none.
-/
import Derived.Test.YtbpccjofopenoaaLives4
import Derived.Test.YtbpccjofopenoaaRefAdd4
import Derived.Test.YtbpccjofopenoaaOpenA
import Derived.Test.YtbpccjofopenoaaNeq4
import Derived.Deep.CutBlock
namespace Go.Proofs.Ytbpccjofopenoaa
open Go.RowKit

set_option maxRecDepth 100000 in
theorem tplays_few (A : Option Addr) (c n : Nat) (at_ : Int) (w : World) (hm : n ≤ 9223372036854775807) (h : 60 < n) :
    Calls Try.prog 3 #[.slice A n c, .int .i64 at_] w (Told2 true w) := by
  have hnot : ∀ (x : Bool) (w : World), (Op.unary .not (.bool x)).run Try.prog w = .ok (.bool (!x)) w := fun _ _ => rfl
  go_enter Try.func3, Try.ntmps3
  go_wp2_with fail
  with_reducible refine (lives4_calls w).mono ?_
  rintro e w1 ⟨rfl, ht1⟩
  have H1 := Lib.hid ht1
  clear ht1
  go_wp2_with fail
  with_reducible refine (lives4_calls w1).mono ?_
  rintro e w2 ⟨rfl, ht2⟩
  have H2 : Hid (Turns (fun _ => False) w w2) := H1.out.next ht2 (fun _ _ f => f)
  clear ht2
  go_wp2
  go_ret
  exact ⟨rfl, H2.out⟩

/-- Both tallies, apart and of this call's own, have the same counts. -/
structure Both4 (w : World) (T V : Nat) (f : Nat → Int) (W : World) : Prop where
  mine : Num16 W T f
  docs : Num16 W V f
  turns : Turns (fun _ => False) w W
  loT : w.heap.size ≤ T
  loV : w.heap.size ≤ V
  ne : T ≠ V
section
variable {w W W' : World} {T V C : Nat} {f : Nat → Int}
theorem Both4.still (h : Both4 w T V f W) (ht : Turns (fun _ => False) W W') : Both4 w T V f W' :=
  ⟨h.mine.still ht, h.docs.still ht, h.turns.next ht (fun _ _ f => f), h.loT, h.loV, h.ne⟩
/-- Both have turned, alike. -/
theorem Both4.next {g : Nat → Int} (h : Both4 w T V f W) (h1 : Num16 W' T g) (h2 : Num16 W' V g) (ht : Turns (fun i => i = T ∨ i = V) W W') : Both4 w T V g W' :=
  ⟨h1, h2, h.turns.next ht (fun i hi e => by have := h.loT; have := h.loV; omega), h.loT, h.loV, h.ne⟩
end
/-- An act in a block of its own. -/
structure ActAt (W : World) (C : Nat) (q : Nat) (ia x y : Int) : Prop where
  c0 : W.cell? ⟨C, 0, none⟩ = some (.int .u8 (q : Int))
  c1 : W.cell? ⟨C, 1, none⟩ = some (.int .i64 ia)
  c2 : W.cell? ⟨C, 2, none⟩ = some (.int .i64 x)
  c3 : W.cell? ⟨C, 3, none⟩ = some (.int .i64 y)
  lt : C < W.heap.size
theorem ActAt.turns {S : Nat → Prop} {W W' : World} {C q : Nat} {ia x y : Int} (h : ActAt W C q ia x y) (ht : Turns S W W') (hn : ¬ S C) : ActAt W' C q ia x y :=
  ⟨(ht.cell (p := ⟨C, 0, none⟩) h.lt hn).trans h.c0, (ht.cell (p := ⟨C, 1, none⟩) h.lt hn).trans h.c1, (ht.cell (p := ⟨C, 2, none⟩) h.lt hn).trans h.c2, (ht.cell (p := ⟨C, 3, none⟩) h.lt hn).trans h.c3, Nat.lt_of_lt_of_le h.lt ht.size⟩
theorem ActAt.new (W : World) (q : Nat) (ia x y : Int) (t : TypeId) : ActAt (W.alloc (.cells #[.int .u8 (q : Int), .int .i64 ia, .int .i64 x, .int .i64 y] t)) W.heap.size q ia x y :=
  ⟨cell_of_row _ _ 0 _ t (0, 0) (heap_alloc_new W _), cell_of_row _ _ 1 _ t (0, 0) (heap_alloc_new W _), cell_of_row _ _ 2 _ t (0, 0) (heap_alloc_new W _), cell_of_row _ _ 3 _ t (0, 0) (heap_alloc_new W _), by simp⟩

/-- What each operation makes. -/
def Y34 (g : Nat → Int) (s u ia : Int) : Nat → Value → Prop
  | 0, v => v = .agg (numA g)
  | 1, v => v = .agg (numA g)
  | 2, v => v = .bool false
  | 3, v => v = .bool false
  | 4, v => v = .int .i64 s
  | 5, v => v = .int .i64 s
  | 6, v => v = .bool false
  | 7, v => v = .bool false
  | 8, v => v = .bool false
  | 9, v => v = .int .i64 ia
  | 10, v => v = .int .i64 u
  | 11, v => v = .agg (numA g)
  | 12, v => v = .int .i64 ia
  | 13, v => v = .int .i64 u
  | 14, v => v = .bool false
  | _, v => v = .bool false
/-- What is known while the document's row is set: both tallies and the act stay; what each operation made; the new row. -/
structure R19 (w : World) (T V C q : Nat) (ia x y : Int) (f g : Nat → Int) (n0 : Nat) (Y : Nat → Value → Prop) (L : Nat → Bool) (X : Nat → Value) (W : World) : Prop where
  both : Both4 w T V f W
  act : ActAt W C q ia x y
  lo : n0 ≤ W.heap.size
  base : T < n0 ∧ V < n0 ∧ C < n0 ∧ w.heap.size ≤ n0
  ord : L 17 = true → L 16 = true
  ys : ∀ j, L j = true → Y j (X j)
  new : L 16 = true → ∃ b, X 16 = .pointer (some ⟨b, 0, none⟩) ∧ n0 ≤ b ∧ Num16 W b (if L 17 then g else fun _ => 0)
section
variable {w W W' : World} {T V C q n0 : Nat} {ia x y : Int} {f g : Nat → Int} {Y : Nat → Value → Prop} {L : Nat → Bool} {X : Nat → Value}
theorem R19.ys_next (h : R19 w T V C q ia x y f g n0 Y L X W) (i : Nat) (v : Value) (hy : Y i v) : ∀ j, updL L i j = true → Y j (upd X i v j) := by
  intro j hj
  by_cases e : j = i
  · subst e
    rw [show upd X j v j = v from if_pos rfl]
    exact hy
  · rw [show upd X i v j = X j from if_neg e]
    rw [show updL L i j = L j from if_neg e] at hj
    exact h.ys j hj
theorem R19.keep (h : R19 w T V C q ia x y f g n0 Y L X W) (ht : Turns (fun _ => False) W W') (i : Nat) (h16 : 16 ≠ i) (h17 : 17 ≠ i) (v : Value) (hy : Y i v) : R19 w T V C q ia x y f g n0 Y (updL L i) (upd X i v) W' := by
  have e16 : updL L i 16 = L 16 := if_neg h16
  have e17 : updL L i 17 = L 17 := if_neg h17
  refine ⟨h.both.still ht, h.act.turns ht (fun f => f), Nat.le_trans h.lo ht.size, h.base, by rw [e16, e17]; exact h.ord, h.ys_next i v hy, ?_⟩
  rw [e16, e17, show upd X i v 16 = X 16 from if_neg h16]
  intro hl
  obtain ⟨b, hb, hn, hm⟩ := h.new hl
  exact ⟨b, hb, hn, hm.still ht⟩
theorem R19.alloc (h : R19 w T V C q ia x y f g n0 Y L X W) (hL : L 16 = false) (t : TypeId) (hy : Y 16 (.pointer (some ⟨W.heap.size, 0, none⟩))) : R19 w T V C q ia x y f g n0 Y (updL L 16) (upd X 16 (.pointer (some ⟨W.heap.size, 0, none⟩))) (W.alloc (.cells (numA fun _ => 0) t)) := by
  have ht : Turns (fun _ => False) W (W.alloc (.cells (numA fun _ => 0) t)) := (Turns.refl _ _).alloc _
  have e16 : updL L 16 16 = true := if_pos rfl
  have e17 : updL L 16 17 = L 17 := if_neg (by omega)
  have h17 : L 17 = false := by
    cases h' : L 17 with
    | false => rfl
    | true => have := h.ord h'; rw [hL] at this; cases this
  refine ⟨h.both.still ht, h.act.turns ht (fun f => f), Nat.le_trans h.lo ht.size, h.base, fun _ => e16, h.ys_next 16 _ hy, fun _ => ⟨W.heap.size, if_pos rfl, h.lo, ?_⟩⟩
  rw [e17, h17, if_neg (by simp)]
  exact Num16.new W _ t
theorem R19.store (h : R19 w T V C q ia x y f g n0 Y L X W) (hL : L 16 = true) (b : Nat) (hb : X 16 = .pointer (some ⟨b, 0, none⟩)) (hn : n0 ≤ b) (hy : Y 17 undef) (f' : Nat → Int) (hf : Num16 W b f') : R19 w T V C q ia x y f g n0 Y (updL L 17) (upd X 17 undef) (W.setRow b (numA g)) := by
  have ht : Turns (fun i => i = b) W (W.setRow b (numA g)) := (Turns.refl (fun i => i = b) W).setRow (fun _ => rfl) _
  have e16 : updL L 17 16 = L 16 := if_neg (by omega)
  have e17 : updL L 17 17 = true := if_pos rfl
  obtain ⟨hT, hV, hC, hw⟩ := h.base
  refine ⟨⟨h.both.mine.turns ht (by omega), h.both.docs.turns ht (by omega), h.both.turns.setRow (fun hl => by omega) _, h.both.loT, h.both.loV, h.both.ne⟩, h.act.turns ht (by omega), Nat.le_trans h.lo ht.size, h.base, fun _ => by rw [e16]; exact hL, h.ys_next 17 _ hy, fun _ => ⟨b, ?_, hn, ?_⟩⟩
  · rw [show upd X 17 undef 16 = X 16 from if_neg (by omega)]
    exact hb
  · rw [e17, if_pos rfl]
    exact hf.setRow g
end
/-- What each operation makes. -/
def Y19 (f g : Nat → Int) (C : Nat) (ia x _y u : Int) (m ok : Bool) : Nat → Value → Prop
  | 0, v => v = .agg (numA f)
  | 1, v => v = .pointer (some ⟨C, 1, none⟩)
  | 2, v => v = .int .i64 ia
  | 3, v => v = .pointer (some ⟨C, 2, none⟩)
  | 4, v => v = .int .i64 x
  | 5, v => v = .agg (numA f)
  | 6, v => v = .pointer (some ⟨C, 1, none⟩)
  | 7, v => v = .int .i64 ia
  | 8, v => v = .int .i64 u
  | 9, v => v = .pointer (some ⟨C, 2, none⟩)
  | 10, v => v = .int .i64 x
  | 11, v => v = .bool m
  | 12, v => v = .tuple #[.agg (numA g), .bool ok]
  | 13, v => v = .tuple #[.agg (numA g), .bool ok]
  | 14, v => v = .agg (numA g)
  | 15, v => v = .bool ok
  | 16, _ => True
  | 17, _ => True
  | _, v => v = .bool ok
/-- What each operation makes. -/
def Y24 (f g : Nat → Int) (C : Nat) (ia x y u : Int) (m ok : Bool) : Nat → Value → Prop
  | 0, v => v = .agg (numA f)
  | 1, v => v = .pointer (some ⟨C, 1, none⟩)
  | 2, v => v = .int .i64 ia
  | 3, v => v = .pointer (some ⟨C, 3, none⟩)
  | 4, v => v = .int .i64 y
  | 5, v => v = .agg (numA f)
  | 6, v => v = .pointer (some ⟨C, 1, none⟩)
  | 7, v => v = .int .i64 ia
  | 8, v => v = .int .i64 u
  | 9, v => v = .pointer (some ⟨C, 2, none⟩)
  | 10, v => v = .int .i64 x
  | 11, v => v = .bool m
  | 12, v => v = .tuple #[.agg (numA g), .bool ok]
  | 13, v => v = .tuple #[.agg (numA g), .bool ok]
  | 14, v => v = .agg (numA g)
  | 15, v => v = .bool ok
  | 16, _ => True
  | 17, _ => True
  | _, v => v = .bool ok
/-- What is known while the copy is held against the document's row. -/
structure R11 (w : World) (T V C D q : Nat) (ia x y : Int) (f h : Nat → Int) (W : World) : Prop where
  both : Both4 w T V f W
  act : ActAt W C q ia x y
  copy : Num16 W D h
theorem R11.still {w W W' : World} {T V C D q : Nat} {ia x y : Int} {f h : Nat → Int} (r : R11 w T V C D q ia x y f h W) (ht : Turns (fun _ => False) W W') : R11 w T V C D q ia x y f h W' :=
  ⟨r.both.still ht, r.act.turns ht (fun f => f), r.copy.still ht⟩
/-- What each operation makes. -/
def Y11A (f : Nat → Int) (C D : Nat) (ia u1 u u2 : Int) : Nat → Value → Prop
  | 0, v => v = .pointer (some ⟨D, 0, none⟩)
  | 1, v => v = .pointer (some ⟨C, 1, none⟩)
  | 2, v => v = .int .i64 ia
  | 3, v => v = .int .i64 u1
  | 4, v => v = .agg (numA f)
  | 5, v => v = .pointer (some ⟨C, 1, none⟩)
  | 6, v => v = .int .i64 ia
  | 7, v => v = .int .i64 u
  | 8, v => v = .int .i64 u2
  | 9, v => v = .bool false
  | 10, v => v = .bool false
  | 11, _ => True
  | 12, _ => True
  | 13, _ => True
  | 14, v => v = .bool false
  | 15, v => v = .bool false
  | 16, _ => True
  | 17, _ => True
  | 18, _ => True
  | _, v => v = .bool false
/-- What each operation makes. -/
def Y11B (f : Nat → Int) (C D : Nat) (ia u1 u u2 : Int) : Nat → Value → Prop
  | 0, v => v = .pointer (some ⟨D, 0, none⟩)
  | 1, v => v = .pointer (some ⟨C, 1, none⟩)
  | 2, v => v = .int .i64 ia
  | 3, v => v = .int .i64 u1
  | 4, v => v = .agg (numA f)
  | 5, v => v = .pointer (some ⟨C, 1, none⟩)
  | 6, v => v = .int .i64 ia
  | 7, v => v = .int .i64 u
  | 8, v => v = .int .i64 u2
  | 9, v => v = .bool true
  | 10, v => v = .bool true
  | 11, v => v = .pointer (some ⟨C, 1, none⟩)
  | 12, v => v = .int .i64 ia
  | 13, v => v = .bool false
  | 14, v => v = .bool false
  | 15, v => v = .bool false
  | 16, _ => True
  | 17, _ => True
  | 18, _ => True
  | _, v => v = .bool false
/-- What each operation makes. -/
def Y11C (f : Nat → Int) (C D : Nat) (ia u1 u u2 : Int) : Nat → Value → Prop
  | 0, v => v = .pointer (some ⟨D, 0, none⟩)
  | 1, v => v = .pointer (some ⟨C, 1, none⟩)
  | 2, v => v = .int .i64 ia
  | 3, v => v = .int .i64 u1
  | 4, v => v = .agg (numA f)
  | 5, v => v = .pointer (some ⟨C, 1, none⟩)
  | 6, v => v = .int .i64 ia
  | 7, v => v = .int .i64 u
  | 8, v => v = .int .i64 u2
  | 9, v => v = .bool true
  | 10, v => v = .bool true
  | 11, v => v = .pointer (some ⟨C, 1, none⟩)
  | 12, v => v = .int .i64 ia
  | 13, v => v = .bool true
  | 14, v => v = .bool true
  | 15, v => v = .bool true
  | 16, v => v = .pointer (some ⟨C, 1, none⟩)
  | 17, v => v = .int .i64 ia
  | 18, v => v = .bool false
  | _, v => v = .bool false

set_option maxRecDepth 100000 in
set_option maxHeartbeats 40000000 in
theorem tplays_many (A : Option Addr) (c : Nat) (l : List Act4) (at_ : Int) (w : World) (hr : RdA4 w A l) (hw : ∀ t ∈ l, t.kd < 256) (hn : l.length ≤ 60) :
    Calls Try.prog 3 #[.slice A l.length c, .int .i64 at_] w (Told2 true w) := by
  have hnot : ∀ (x : Bool) (w : World), (Op.unary .not (.bool x)).run Try.prog w = .ok (.bool (!x)) w := fun _ _ => rfl
  have HR := Lib.hid hr
  have HW := Lib.hid hw
  have hdec : decide (60 < (l.length : Int)) = false := by simp; omega
  have hzT := zeroTal_run
  have hzV := zeroRow_run
  clear hr hw
  go_enter Try.func3, Try.ntmps3
  go_wp2_with fail
  with_reducible refine (lives4_calls w).mono ?_
  rintro e w1 ⟨rfl, ht1⟩
  have hB1 : Both4 w w1.heap.size (w1.heap.size + 1) (fun _ => 0) ((w1.alloc (.cells (numA fun _ => 0) 31)).alloc (.cells (numA fun _ => 0) 33)) := by
    obtain ⟨b0, b1, bt⟩ := boxes16 w1 (fun _ => 0) (fun _ => 0) 31 33
    exact ⟨b0, b1, ht1.next bt (fun _ _ f => f), ht1.size, Nat.le_succ_of_le ht1.size, by omega⟩
  have HB1 := Lib.hid hB1
  clear ht1 hB1
  go_wp2
  clear hzT
  generalize (w1.alloc (.cells (numA fun _ => 0) 31)).alloc (.cells (numA fun _ => 0) 33) = w2 at *
  obtain ⟨V, hV⟩ : ∃ V, w1.heap.size + 1 = V := ⟨_, rfl⟩
  rw [hV] at HB1 ⊢
  clear hV
  generalize w1.heap.size = T at *
  go_loopw [29] (fun i wr => ∃ k : Nat, k ≤ l.length ∧ i = .int .i64 k ∧ ∃ f : Nat → Int, Both4 w T V f wr) (fun i _ => l.length - (intOf i).toNat)
  case atStart => exact ⟨0, Nat.zero_le _, rfl, _, HB1.out⟩
  case round =>
    clear HB1
    obtain ⟨k, hk, rfl, f, hB⟩ := hrel
    have HB := Lib.hid hB
    clear hB
    by_cases hlt : k < l.length
    · obtain ⟨b, off, rfl, hb, hc⟩ := HR.out.still HB.out.turns (by intro e; subst e; simp at hlt)
      have HQ := Lib.hid (HW.out l[k] (List.getElem_mem hlt))
      have hc0 : wr.cell? ⟨b, off + k * 4, none⟩ = some (.int .u8 (l[k].kd : Int)) := hc k hlt 0 _ rfl
      have hc1 : wr.cell? ⟨b, off + k * 4 + 1, none⟩ = some (.int .i64 l[k].ia) := hc k hlt 1 _ rfl
      have hc2 : wr.cell? ⟨b, off + k * 4 + 2, none⟩ = some (.int .i64 l[k].x) := hc k hlt 2 _ rfl
      have hc3 : wr.cell? ⟨b, off + k * 4 + 3, none⟩ = some (.int .i64 l[k].y) := hc k hlt 3 _ rfl
      clear hc
      generalize l[k] = t at *
      obtain ⟨q, ia, x, y⟩ := t
      dsimp only at hc0 hc1 hc2 hc3 HQ
      go_upto_region 8 with fail
      clear hc0 hc1 hc2 hc3
      have HA := Lib.hid (ActAt.new wr q ia x y 35)
      have HB1 : Hid (Both4 w T V f (wr.alloc (.cells #[.int .u8 (q : Int), .int .i64 ia, .int .i64 x, .int .i64 y] 35))) := HB.out.still ((Turns.refl _ _).alloc _)
      have hCT : T < wr.heap.size := HB.out.mine.lt
      have hCV : V < wr.heap.size := HB.out.docs.lt
      generalize wr.alloc (.cells #[.int .u8 (q : Int), .int .i64 ia, .int .i64 x, .int .i64 y] 35) = W1 at *
      clear HB
      generalize wr.heap.size = C at *
      have hA0 := HA.out.c0
      go_upto_block 2 with fail
      clear hA0
      go_cut [35] (fun _ wx => ∃ g : Nat → Int, Both4 w T V g wx)
      case first =>
        have hq4 : (q : Int) % 4 = 0 ∨ (q : Int) % 4 = 1 ∨ (q : Int) % 4 = 2 ∨ (q : Int) % 4 = 3 := by omega
        rcases hq4 with hq | hq | hq | hq
        · rw [hq]
          clear hq
          obtain ⟨g, hg⟩ : ∃ g, addF f ia x = g := ⟨_, rfl⟩
          obtain ⟨n, hnn⟩ : ∃ n, addN f ia x = n := ⟨_, rfl⟩
          have HDO : Hid (∀ W, Num16 W T f → Calls Try.prog 8 #[.pointer (some ⟨T, 0, none⟩), .int .i64 ia, .int .i64 x] W (AddsN T g n W)) := fun W h => by
            have := add4_calls T ia x f W h
            rw [hg, hnn] at this
            exact this
          have HREF : Hid (∀ W, Calls Try.prog 7 #[.agg (numA f), .int .i64 ia, .int .i64 x] W (TellsRow g (.int .i64 n) W)) := fun W => by
            have := refadd4_calls f ia x W
            rw [hg, hnn] at this
            exact this
          clear hg hnn
          have hA1 := HA.out.c1
          have hA2 := HA.out.c2
          obtain ⟨tv, hhv⟩ := HB1.out.docs
          have HHV := Lib.hid hhv
          clear hhv
          go_wp2_with (with_reducible refine wpList_load_row rfl 33 (.tmp 6) rfl V rfl tv (numA f) (0, 0) _ HHV.out Try.underlying33 rfl (by rw [numA_size]; exact sizeRow) ?_)
          with_reducible refine (HREF.out W1).mono ?_
          rintro e w3 ⟨rfl, ht3⟩
          clear hA1 hA2 HHV
          have HB3 := Lib.hid (HB1.out.still ht3)
          have HA3' := Lib.hid (HA.out.turns ht3 (fun f => f))
          clear ht3
          have hst9 := (Num16.new w3 (fun _ => 0) 33).store_run Try.prog g
          have hsz := numA_size
          go_upto_region 15 with fail
          have ht4 : Turns (fun i => i = w3.heap.size) w3 ((w3.alloc (.cells (numA fun _ => 0) 33)).setRow w3.heap.size (numA g)) := ((Turns.refl (fun i => i = w3.heap.size) w3).alloc _).setRow (fun _ => rfl) _
          have h3T := HB3.out.mine.lt
          have h3V := HB3.out.docs.lt
          have h3C := HA3'.out.lt
          have h3w := HB3.out.turns.size
          have HM3 := Lib.hid ((Num16.new w3 (fun _ => 0) 33).setRow g)
          have HI3 : Hid (Both4 w T V f ((w3.alloc (.cells (numA fun _ => 0) 33)).setRow w3.heap.size (numA g))) := ⟨HB3.out.mine.turns ht4 (by omega), HB3.out.docs.turns ht4 (by omega), HB3.out.turns.next ht4 (fun i hi e => by omega), HB3.out.loT, HB3.out.loV, HB3.out.ne⟩
          have HA3 := Lib.hid (HA3'.out.turns ht4 (by omega))
          clear ht4 hst9 h3T h3V h3C h3w HB3 HA3' HB1 HA HREF
          generalize (w3.alloc (.cells (numA fun _ => 0) 33)).setRow w3.heap.size (numA g) = W at *
          obtain ⟨b9, hb9⟩ : ∃ b9, w3.heap.size = b9 := ⟨_, rfl⟩
          rw [hb9] at HM3 ⊢
          clear hb9
          obtain ⟨tb, hhb⟩ := HM3.out
          have HHB := Lib.hid hhb
          have hstV := HI3.out.docs.store_run Try.prog g
          have hsz := numA_size
          clear hhb
          go_upto_region 16 with (with_reducible refine wpList_load_row rfl 33 (.tmp 9) rfl b9 rfl tb (numA g) (0, 0) _ HHB.out Try.underlying33 rfl (by rw [numA_size]; exact sizeRow) ?_)
          have htV : Turns (fun i => i = V) W (W.setRow V (numA g)) := (Turns.refl (fun i => i = V) W).setRow (fun _ => rfl) _
          have HV5 := Lib.hid (HI3.out.docs.setRow g)
          have HT5 := Lib.hid (HI3.out.mine.turns htV HI3.out.ne)
          have HA5 := Lib.hid (HA3.out.turns htV (by omega))
          have HU5 := Lib.hid (HI3.out.turns.setRow (g := V) (fun hl => by have := HI3.out.loV; omega) (numA g))
          have hlo := HI3.out.loT
          have hlv := HI3.out.loV
          have hne := HI3.out.ne
          clear htV hstV HHB HM3 HA3 HI3
          generalize W.setRow V (numA g) = w5 at *
          have hA1 := HA5.out.c1
          have hA2 := HA5.out.c2
          have hA3 := HA5.out.c3
          go_wp2_with fail
          with_reducible refine (HDO.out w5 HT5.out).mono ?_
          rintro e w6 ⟨rfl, hn6, ht6⟩
          have HB6 : Hid (Both4 w T V g w6) := ⟨hn6, HV5.out.turns ht6 (fun e => hne e.symm), HU5.out.own4 hlo ht6, hlo, hlv, hne⟩
          clear hn6 ht6 hA1 hA2 hA3 HV5 HT5 HA5 HU5
          go_wp2
          go_meet
          exact ⟨g, HB6.out⟩
        · rw [hq]
          clear hq
          obtain ⟨g, hg⟩ : ∃ g, toF f ia x (decide (getF f ia < x)) = g := ⟨_, rfl⟩
          obtain ⟨ok, hok⟩ : ∃ ok, (inK ia && (decide (getF f ia < x))) = ok := ⟨_, rfl⟩
          have HDO : Hid (∀ W, Num16 W T f → Calls Try.prog 11 #[.pointer (some ⟨T, 0, none⟩), .int .i64 ia, .int .i64 x] W (MovesN T g ok W)) := fun W h => by
            have := raise4_calls T ia x f W h
            rw [hg, hok] at this
            exact this
          have HSET : Hid (∀ W, Calls Try.prog 9 #[.agg (numA f), .int .i64 ia, .int .i64 x, .bool (decide (getF f ia < x))] W (TellsRow g (.bool ok) W)) := fun W => by
            have := refset4_calls f ia x (decide (getF f ia < x)) W
            rw [hg, hok] at this
            exact this
          have HREF : Hid (∀ W, Calls Try.prog 10 #[.agg (numA f), .int .i64 ia] W fun e w' => e = .returned (.int .i64 (getF f ia)) ∧ Turns (fun _ => False) W w') := fun W => refget4_calls f ia W
          clear hg hok
          generalize getF f ia = u at *
          obtain ⟨m, hmm⟩ : ∃ m, (decide (u < x)) = m := ⟨_, rfl⟩
          have HMM := Lib.hid hmm
          rw [hmm] at HSET
          clear hmm
          go_upto_region 19 with fail
          refine wp_region_gen (by kernel_rfl) (R19 w T V C q ia x y f g W1.heap.size (Y19 f g C ia x y u m ok)) ?F1 ?hF1 (by kernel_rfl) (by kernel_rfl) (fun _ => ⟨HB1.out.still (Turns.refl _ _).drew, HA.out.turns (Turns.refl (fun _ => False) W1).drew (fun f => f), Nat.le_refl _, ⟨HB1.out.mine.lt, HB1.out.docs.lt, HA.out.lt, HB1.out.turns.size⟩, (fun h => by cases h), (fun _ h => by cases h), (fun h => by cases h)⟩) ?step1 ?fin1
          case hF1 =>
            intro X
            simp only [List.map_cons, List.map_nil, putL, Act.put, List.setIfInBounds_toArray, List.set_cons_zero, List.set_cons_succ, Nat.zero_add, Nat.reduceAdd]
            exact rfl
          case step1 =>
            refine ⟨?_, ?_, ?_, ?_, ?_, ?_, ?_, ?_, ?_, ?_, ?_, ?_, ?_, ?_, ?_, ?_, ?_, ?_, ?_, trivial⟩
            all_goals intro L X W hL hdep hI K hK
            · refine step_load_num (by rfl) 33 (.tmp 6) rfl V rfl f hI.both.docs _ Try.underlying33 sizeRow ?_
              exact hK _ _ (hI.keep (Turns.refl _ _) 0 (by omega) (by omega) _ rfl)
            · have HI := Lib.hid hI
              clear hI hdep hL
              go_simp
              exact hK _ _ (HI.out.keep (Turns.refl _ _) 1 (by omega) (by omega) _ rfl)
            · have h1 : X 1 = _ := hI.ys 1 (hdep 1 rfl)
              have hc := hI.act.c1
              have HI := Lib.hid hI
              clear hI hdep hL
              simp only [h1] at hK
              go_simp
              exact hK _ _ (HI.out.keep (Turns.refl _ _) 2 (by omega) (by omega) _ rfl)
            · have HI := Lib.hid hI
              clear hI hdep hL
              go_simp
              exact hK _ _ (HI.out.keep (Turns.refl _ _) 3 (by omega) (by omega) _ rfl)
            · have h3 : X 3 = _ := hI.ys 3 (hdep 3 rfl)
              have hc := hI.act.c2
              have HI := Lib.hid hI
              clear hI hdep hL
              simp only [h3] at hK
              go_simp
              exact hK _ _ (HI.out.keep (Turns.refl _ _) 4 (by omega) (by omega) _ rfl)
            · refine step_load_num (by rfl) 33 (.tmp 6) rfl V rfl f hI.both.docs _ Try.underlying33 sizeRow ?_
              exact hK _ _ (hI.keep (Turns.refl _ _) 5 (by omega) (by omega) _ rfl)
            · have HI := Lib.hid hI
              clear hI hdep hL
              go_simp
              exact hK _ _ (HI.out.keep (Turns.refl _ _) 6 (by omega) (by omega) _ rfl)
            · have h6 : X 6 = _ := hI.ys 6 (hdep 6 rfl)
              have hc := hI.act.c1
              have HI := Lib.hid hI
              clear hI hdep hL
              simp only [h6] at hK
              go_simp
              exact hK _ _ (HI.out.keep (Turns.refl _ _) 7 (by omega) (by omega) _ rfl)
            · have h5 : X 5 = _ := hI.ys 5 (hdep 5 rfl)
              have h7 : X 7 = _ := hI.ys 7 (hdep 7 rfl)
              have HI := Lib.hid hI
              clear hI hdep hL
              simp only [h5, h7] at hK
              go_simp
              refine (HREF.out W).mono ?_
              rintro e W' ⟨rfl, ht⟩
              exact hK _ _ (HI.out.keep ht 8 (by omega) (by omega) _ rfl)
            · have HI := Lib.hid hI
              clear hI hdep hL
              go_simp
              exact hK _ _ (HI.out.keep (Turns.refl _ _) 9 (by omega) (by omega) _ rfl)
            · have h9 : X 9 = _ := hI.ys 9 (hdep 9 rfl)
              have hc := hI.act.c2
              have HI := Lib.hid hI
              clear hI hdep hL
              simp only [h9] at hK
              go_simp
              exact hK _ _ (HI.out.keep (Turns.refl _ _) 10 (by omega) (by omega) _ rfl)
            · have h8 : X 8 = _ := hI.ys 8 (hdep 8 rfl)
              have h10 : X 10 = _ := hI.ys 10 (hdep 10 rfl)
              have hmm := HMM.out
              have HI := Lib.hid hI
              clear hI hdep hL
              simp only [h8, h10] at hK
              go_simp
              exact hK _ _ (HI.out.keep (Turns.refl _ _) 11 (by omega) (by omega) _ rfl)
            · have h0 : X 0 = _ := hI.ys 0 (hdep 0 rfl)
              have h2 : X 2 = _ := hI.ys 2 (hdep 2 rfl)
              have h4 : X 4 = _ := hI.ys 4 (hdep 4 rfl)
              have h11 : X 11 = _ := hI.ys 11 (hdep 11 rfl)
              have HI := Lib.hid hI
              clear hI hdep hL
              simp only [h0, h2, h4, h11] at hK
              go_simp
              refine (HSET.out W).mono ?_
              rintro e W' ⟨rfl, ht⟩
              exact hK _ _ (HI.out.keep ht 12 (by omega) (by omega) _ rfl)
            · have h12 : X 12 = _ := hI.ys 12 (hdep 12 rfl)
              have HI := Lib.hid hI
              clear hI hdep hL
              simp only [h12] at hK
              go_simp
              exact hK _ _ (HI.out.keep (Turns.refl _ _) 13 (by omega) (by omega) _ rfl)
            · have h13 : X 13 = _ := hI.ys 13 (hdep 13 rfl)
              have HI := Lib.hid hI
              clear hI hdep hL
              simp only [h13] at hK
              go_simp
              exact hK _ _ (HI.out.keep (Turns.refl _ _) 14 (by omega) (by omega) _ rfl)
            · have h13 : X 13 = _ := hI.ys 13 (hdep 13 rfl)
              have HI := Lib.hid hI
              clear hI hdep hL
              simp only [h13] at hK
              go_simp
              exact hK _ _ (HI.out.keep (Turns.refl _ _) 15 (by omega) (by omega) _ rfl)
            · have HI := Lib.hid hI
              have HL := Lib.hid hL
              clear hI hdep hL
              go_simp
              exact hK _ _ (HI.out.alloc HL.out 33 trivial)
            · have h14 : X 14 = _ := hI.ys 14 (hdep 14 rfl)
              have hl16 := hdep 16 rfl
              obtain ⟨b, hb, hnb, hmb⟩ := hI.new hl16
              refine step_store_num (by rfl) 33 (.tmp 11) (.tmp 96) rfl b hb g h14 _ hmb sizeRow ?_
              exact hK _ _ (hI.store hl16 b hb hnb trivial _ hmb)
            · have h15 : X 15 = _ := hI.ys 15 (hdep 15 rfl)
              have HI := Lib.hid hI
              clear hI hdep hL
              simp only [h15] at hK
              go_simp
              exact hK _ _ (HI.out.keep (Turns.refl _ _) 18 (by omega) (by omega) _ rfl)
          case fin1 =>
            intro L X W hall hI
            have h18 : X 18 = .bool ok := hI.ys 18 (hall 18 (by simp))
            obtain ⟨b, hb, hnb, hmb⟩ := hI.new (hall 16 (by simp))
            rw [hall 17 (by simp), if_pos rfl] at hmb
            rw [h18, hb]
            have HI3 := Lib.hid hI.both
            have HA3 := Lib.hid hI.act
            have HM3 := Lib.hid hmb
            have HNB : Hid (b ≠ T ∧ b ≠ V ∧ b ≠ C ∧ w.heap.size ≤ b) := by
              obtain ⟨h1, h2, h3, h4⟩ := hI.base
              exact ⟨by omega, by omega, by omega, by omega⟩
            clear hI hall hmb hb h18 hnb HREF HSET HB1 HA
            obtain ⟨tb, hhb⟩ := HM3.out
            have HHB := Lib.hid hhb
            have hstV := HI3.out.docs.store_run Try.prog g
            have hsz := numA_size
            clear hhb
            go_upto_region 21 with (with_reducible refine wpList_load_row rfl 33 (.tmp 11) rfl b rfl tb (numA g) (0, 0) _ HHB.out Try.underlying33 rfl (by rw [numA_size]; exact sizeRow) ?_)
            have htV : Turns (fun i => i = V) W (W.setRow V (numA g)) := (Turns.refl (fun i => i = V) W).setRow (fun _ => rfl) _
            have HV5 := Lib.hid (HI3.out.docs.setRow g)
            have HT5 := Lib.hid (HI3.out.mine.turns htV HI3.out.ne)
            have HA5 := Lib.hid (HA3.out.turns htV (by omega))
            have HU5 := Lib.hid (HI3.out.turns.setRow (g := V) (fun hl => by have := HI3.out.loV; omega) (numA g))
            have hlo := HI3.out.loT
            have hlv := HI3.out.loV
            have hne := HI3.out.ne
            clear htV hstV HHB HM3 HA3 HI3
            generalize W.setRow V (numA g) = w5 at *
            have hA1 := HA5.out.c1
            have hA2 := HA5.out.c2
            have hA3 := HA5.out.c3
            go_wp2_with fail
            with_reducible refine (HDO.out w5 HT5.out).mono ?_
            rintro e w6 ⟨rfl, hn6, ht6⟩
            have HB6 : Hid (Both4 w T V g w6) := ⟨hn6, HV5.out.turns ht6 (fun e => hne e.symm), HU5.out.own4 hlo ht6, hlo, hlv, hne⟩
            clear hn6 ht6 hA1 hA2 hA3 HV5 HT5 HA5 HU5
            go_wp2
            go_meet
            exact ⟨g, HB6.out⟩
        · rw [hq]
          clear hq
          obtain ⟨g, hg⟩ : ∃ g, toF f ia y (getF f ia == x) = g := ⟨_, rfl⟩
          obtain ⟨ok, hok⟩ : ∃ ok, (inK ia && (getF f ia == x)) = ok := ⟨_, rfl⟩
          have HDO : Hid (∀ W, Num16 W T f → Calls Try.prog 12 #[.pointer (some ⟨T, 0, none⟩), .int .i64 ia, .int .i64 x, .int .i64 y] W (MovesN T g ok W)) := fun W h => by
            have := swap4_calls T ia x y f W h
            rw [hg, hok] at this
            exact this
          have HSET : Hid (∀ W, Calls Try.prog 9 #[.agg (numA f), .int .i64 ia, .int .i64 y, .bool (getF f ia == x)] W (TellsRow g (.bool ok) W)) := fun W => by
            have := refset4_calls f ia y (getF f ia == x) W
            rw [hg, hok] at this
            exact this
          have HREF : Hid (∀ W, Calls Try.prog 10 #[.agg (numA f), .int .i64 ia] W fun e w' => e = .returned (.int .i64 (getF f ia)) ∧ Turns (fun _ => False) W w') := fun W => refget4_calls f ia W
          clear hg hok
          generalize getF f ia = u at *
          obtain ⟨m, hmm⟩ : ∃ m, (u == x) = m := ⟨_, rfl⟩
          have HMM := Lib.hid hmm
          rw [hmm] at HSET
          clear hmm
          go_upto_region 24 with fail
          refine wp_region_gen (by kernel_rfl) (R19 w T V C q ia x y f g W1.heap.size (Y24 f g C ia x y u m ok)) ?F2 ?hF2 (by kernel_rfl) (by kernel_rfl) (fun _ => ⟨HB1.out.still (Turns.refl _ _).drew, HA.out.turns (Turns.refl (fun _ => False) W1).drew (fun f => f), Nat.le_refl _, ⟨HB1.out.mine.lt, HB1.out.docs.lt, HA.out.lt, HB1.out.turns.size⟩, (fun h => by cases h), (fun _ h => by cases h), (fun h => by cases h)⟩) ?step2 ?fin2
          case hF2 =>
            intro X
            simp only [List.map_cons, List.map_nil, putL, Act.put, List.setIfInBounds_toArray, List.set_cons_zero, List.set_cons_succ, Nat.zero_add, Nat.reduceAdd]
            exact rfl
          case step2 =>
            refine ⟨?_, ?_, ?_, ?_, ?_, ?_, ?_, ?_, ?_, ?_, ?_, ?_, ?_, ?_, ?_, ?_, ?_, ?_, ?_, trivial⟩
            all_goals intro L X W hL hdep hI K hK
            · refine step_load_num (by rfl) 33 (.tmp 6) rfl V rfl f hI.both.docs _ Try.underlying33 sizeRow ?_
              exact hK _ _ (hI.keep (Turns.refl _ _) 0 (by omega) (by omega) _ rfl)
            · have HI := Lib.hid hI
              clear hI hdep hL
              go_simp
              exact hK _ _ (HI.out.keep (Turns.refl _ _) 1 (by omega) (by omega) _ rfl)
            · have h1 : X 1 = _ := hI.ys 1 (hdep 1 rfl)
              have hc := hI.act.c1
              have HI := Lib.hid hI
              clear hI hdep hL
              simp only [h1] at hK
              go_simp
              exact hK _ _ (HI.out.keep (Turns.refl _ _) 2 (by omega) (by omega) _ rfl)
            · have HI := Lib.hid hI
              clear hI hdep hL
              go_simp
              exact hK _ _ (HI.out.keep (Turns.refl _ _) 3 (by omega) (by omega) _ rfl)
            · have h3 : X 3 = _ := hI.ys 3 (hdep 3 rfl)
              have hc := hI.act.c3
              have HI := Lib.hid hI
              clear hI hdep hL
              simp only [h3] at hK
              go_simp
              exact hK _ _ (HI.out.keep (Turns.refl _ _) 4 (by omega) (by omega) _ rfl)
            · refine step_load_num (by rfl) 33 (.tmp 6) rfl V rfl f hI.both.docs _ Try.underlying33 sizeRow ?_
              exact hK _ _ (hI.keep (Turns.refl _ _) 5 (by omega) (by omega) _ rfl)
            · have HI := Lib.hid hI
              clear hI hdep hL
              go_simp
              exact hK _ _ (HI.out.keep (Turns.refl _ _) 6 (by omega) (by omega) _ rfl)
            · have h6 : X 6 = _ := hI.ys 6 (hdep 6 rfl)
              have hc := hI.act.c1
              have HI := Lib.hid hI
              clear hI hdep hL
              simp only [h6] at hK
              go_simp
              exact hK _ _ (HI.out.keep (Turns.refl _ _) 7 (by omega) (by omega) _ rfl)
            · have h5 : X 5 = _ := hI.ys 5 (hdep 5 rfl)
              have h7 : X 7 = _ := hI.ys 7 (hdep 7 rfl)
              have HI := Lib.hid hI
              clear hI hdep hL
              simp only [h5, h7] at hK
              go_simp
              refine (HREF.out W).mono ?_
              rintro e W' ⟨rfl, ht⟩
              exact hK _ _ (HI.out.keep ht 8 (by omega) (by omega) _ rfl)
            · have HI := Lib.hid hI
              clear hI hdep hL
              go_simp
              exact hK _ _ (HI.out.keep (Turns.refl _ _) 9 (by omega) (by omega) _ rfl)
            · have h9 : X 9 = _ := hI.ys 9 (hdep 9 rfl)
              have hc := hI.act.c2
              have HI := Lib.hid hI
              clear hI hdep hL
              simp only [h9] at hK
              go_simp
              exact hK _ _ (HI.out.keep (Turns.refl _ _) 10 (by omega) (by omega) _ rfl)
            · have h8 : X 8 = _ := hI.ys 8 (hdep 8 rfl)
              have h10 : X 10 = _ := hI.ys 10 (hdep 10 rfl)
              have hmm := HMM.out
              have HI := Lib.hid hI
              clear hI hdep hL
              simp only [h8, h10] at hK
              go_simp
              exact hK _ _ (HI.out.keep (Turns.refl _ _) 11 (by omega) (by omega) _ rfl)
            · have h0 : X 0 = _ := hI.ys 0 (hdep 0 rfl)
              have h2 : X 2 = _ := hI.ys 2 (hdep 2 rfl)
              have h4 : X 4 = _ := hI.ys 4 (hdep 4 rfl)
              have h11 : X 11 = _ := hI.ys 11 (hdep 11 rfl)
              have HI := Lib.hid hI
              clear hI hdep hL
              simp only [h0, h2, h4, h11] at hK
              go_simp
              refine (HSET.out W).mono ?_
              rintro e W' ⟨rfl, ht⟩
              exact hK _ _ (HI.out.keep ht 12 (by omega) (by omega) _ rfl)
            · have h12 : X 12 = _ := hI.ys 12 (hdep 12 rfl)
              have HI := Lib.hid hI
              clear hI hdep hL
              simp only [h12] at hK
              go_simp
              exact hK _ _ (HI.out.keep (Turns.refl _ _) 13 (by omega) (by omega) _ rfl)
            · have h13 : X 13 = _ := hI.ys 13 (hdep 13 rfl)
              have HI := Lib.hid hI
              clear hI hdep hL
              simp only [h13] at hK
              go_simp
              exact hK _ _ (HI.out.keep (Turns.refl _ _) 14 (by omega) (by omega) _ rfl)
            · have h13 : X 13 = _ := hI.ys 13 (hdep 13 rfl)
              have HI := Lib.hid hI
              clear hI hdep hL
              simp only [h13] at hK
              go_simp
              exact hK _ _ (HI.out.keep (Turns.refl _ _) 15 (by omega) (by omega) _ rfl)
            · have HI := Lib.hid hI
              have HL := Lib.hid hL
              clear hI hdep hL
              go_simp
              exact hK _ _ (HI.out.alloc HL.out 33 trivial)
            · have h14 : X 14 = _ := hI.ys 14 (hdep 14 rfl)
              have hl16 := hdep 16 rfl
              obtain ⟨b, hb, hnb, hmb⟩ := hI.new hl16
              refine step_store_num (by rfl) 33 (.tmp 13) (.tmp 122) rfl b hb g h14 _ hmb sizeRow ?_
              exact hK _ _ (hI.store hl16 b hb hnb trivial _ hmb)
            · have h15 : X 15 = _ := hI.ys 15 (hdep 15 rfl)
              have HI := Lib.hid hI
              clear hI hdep hL
              simp only [h15] at hK
              go_simp
              exact hK _ _ (HI.out.keep (Turns.refl _ _) 18 (by omega) (by omega) _ rfl)
          case fin2 =>
            intro L X W hall hI
            have h18 : X 18 = .bool ok := hI.ys 18 (hall 18 (by simp))
            obtain ⟨b, hb, hnb, hmb⟩ := hI.new (hall 16 (by simp))
            rw [hall 17 (by simp), if_pos rfl] at hmb
            rw [h18, hb]
            have HI3 := Lib.hid hI.both
            have HA3 := Lib.hid hI.act
            have HM3 := Lib.hid hmb
            have HNB : Hid (b ≠ T ∧ b ≠ V ∧ b ≠ C ∧ w.heap.size ≤ b) := by
              obtain ⟨h1, h2, h3, h4⟩ := hI.base
              exact ⟨by omega, by omega, by omega, by omega⟩
            clear hI hall hmb hb h18 hnb HREF HSET HB1 HA
            obtain ⟨tb, hhb⟩ := HM3.out
            have HHB := Lib.hid hhb
            have hstV := HI3.out.docs.store_run Try.prog g
            have hsz := numA_size
            clear hhb
            go_upto_region 26 with (with_reducible refine wpList_load_row rfl 33 (.tmp 13) rfl b rfl tb (numA g) (0, 0) _ HHB.out Try.underlying33 rfl (by rw [numA_size]; exact sizeRow) ?_)
            have htV : Turns (fun i => i = V) W (W.setRow V (numA g)) := (Turns.refl (fun i => i = V) W).setRow (fun _ => rfl) _
            have HV5 := Lib.hid (HI3.out.docs.setRow g)
            have HT5 := Lib.hid (HI3.out.mine.turns htV HI3.out.ne)
            have HA5 := Lib.hid (HA3.out.turns htV (by omega))
            have HU5 := Lib.hid (HI3.out.turns.setRow (g := V) (fun hl => by have := HI3.out.loV; omega) (numA g))
            have hlo := HI3.out.loT
            have hlv := HI3.out.loV
            have hne := HI3.out.ne
            clear htV hstV HHB HM3 HA3 HI3
            generalize W.setRow V (numA g) = w5 at *
            have hA1 := HA5.out.c1
            have hA2 := HA5.out.c2
            have hA3 := HA5.out.c3
            go_wp2_with fail
            with_reducible refine (HDO.out w5 HT5.out).mono ?_
            rintro e w6 ⟨rfl, hn6, ht6⟩
            have HB6 : Hid (Both4 w T V g w6) := ⟨hn6, HV5.out.turns ht6 (fun e => hne e.symm), HU5.out.own4 hlo ht6, hlo, hlv, hne⟩
            clear hn6 ht6 hA1 hA2 hA3 HV5 HT5 HA5 HU5
            go_wp2
            go_meet
            exact ⟨g, HB6.out⟩
        · rw [hq]
          clear hq
          go_wp2_with fail
          with_reducible refine (copy4_calls T f W1 HB1.out.mine).mono ?_
          rintro e w3 ⟨D, rfl, hD, hn3, ht3⟩
          have HB3 := Lib.hid (HB1.out.still ht3)
          have HA3 := Lib.hid (HA.out.turns ht3 (fun f => f))
          have HN3 := Lib.hid hn3
          have hDT : T < W1.heap.size := HB1.out.mine.lt
          have hDV : V < W1.heap.size := HB1.out.docs.lt
          have hDC : C < W1.heap.size := HA.out.lt
          have hDw : w.heap.size ≤ W1.heap.size := HB1.out.turns.size
          have hA1 := HA3.out.c1
          clear hn3 ht3 HB1 HA
          go_wp2_with fail
          with_reducible refine (add4_calls D ia 1 f w3 HN3.out).mono ?_
          rintro e w4 ⟨rfl, hn4, ht4⟩
          have HR11 : Hid (R11 w T V C D q ia x y f (addF f ia 1) w4.drew) := ⟨⟨(HB3.out.mine.turns ht4 (by omega)).drew, (HB3.out.docs.turns ht4 (by omega)).drew, (HB3.out.turns.next ht4 (fun i hi e => by omega)).drew, HB3.out.loT, HB3.out.loV, HB3.out.ne⟩, (HA3.out.turns ht4 (by omega)).turns (Turns.refl (fun _ => False) w4).drew (fun f => f), hn4.drew⟩
          have hcs : (inK ia = true ∧ getF (addF f ia 1) ia = wrap64 (getF f ia + 1)) ∨ (ia < 0 ∧ getF (addF f ia 1) ia = 0 ∧ getF f ia = 0) ∨ (0 ≤ ia ∧ 16 ≤ ia ∧ getF (addF f ia 1) ia = 0 ∧ getF f ia = 0) := by
            rcases inK_cases ia with ⟨k', hk', rfl, hin⟩ | ⟨hin, ho⟩
            · refine .inl ⟨hin, ?_⟩
              rw [getF_in _ hin, getF_in _ hin, addF, toF_in _ hin, Int.toNat_natCast, setF_same]
            · rw [getF_out _ hin, getF_out _ hin]
              rcases ho with ho | ⟨h0, ho⟩
              · exact .inr (.inl ⟨ho, rfl, rfl⟩)
              · exact .inr (.inr ⟨h0, ho, rfl, rfl⟩)
          have HGET : Hid (∀ W, R11 w T V C D q ia x y f (addF f ia 1) W → Calls Try.prog 14 #[.pointer (some ⟨D, 0, none⟩), .int .i64 ia] W fun e w' => e = .returned (.int .i64 (getF (addF f ia 1) ia)) ∧ W = w') := fun W h => get4_calls D ia _ W h.copy
          have HREF : Hid (∀ W, Calls Try.prog 10 #[.agg (numA f), .int .i64 ia] W fun e w' => e = .returned (.int .i64 (getF f ia)) ∧ Turns (fun _ => False) W w') := fun W => refget4_calls f ia W
          have HCS := Lib.hid hcs
          clear hn4 ht4 HB3 HA3 HN3 hA1 hcs hD hDT hDV hDC hDw
          generalize getF (addF f ia 1) ia = u1 at *
          generalize getF f ia = u at *
          generalize addF f ia 1 = h at *
          go_upto_region 11 with fail
          obtain ⟨u2, hu2⟩ : ∃ u2, wrap64 (u + 1) = u2 := ⟨_, rfl⟩
          have HF1 := Lib.hid ((IntWalk.i64_left (u + 1)).trans hu2)
          have hcs := HCS.out
          rw [hu2] at hcs
          rcases hcs with ⟨hin, h1⟩ | ⟨hi, h1, h2⟩ | ⟨hi0, hi, h1, h2⟩
          · have HF2 : Hid ((u1 != u2) = false) := by show (u1 != u2) = false; rw [h1]; simp
            clear hin h1 hu2 HCS
            refine wp_region_inv (by kernel_rfl) (R11 w T V C D q ia x y f h) (fun j v _ => Y11A f C D ia u1 u u2 j v) ?F3 ?hF3 (by kernel_rfl) (by kernel_rfl) HR11.out ?step3 ?fin3
            case hF3 =>
              intro x
              simp only [List.map_cons, List.map_nil, putL, Act.put, List.setIfInBounds_toArray, List.set_cons_zero, List.set_cons_succ, Nat.zero_add, Nat.reduceAdd]
              exact rfl
            case step3 =>
              refine ⟨?_, ?_, ?_, ?_, ?_, ?_, ?_, ?_, ?_, ?_, ?_, ?_, ?_, ?_, ?_, ?_, ?_, ?_, ?_, ?_, trivial⟩
              all_goals intro x W hW hdep K hK
              · clear hdep
                have HW := Lib.hid hW
                clear hW
                go_simp
                exact hK _ _ rfl HW.out (fun _ _ h => h)
              · clear hdep
                have HW := Lib.hid hW
                clear hW
                go_simp
                exact hK _ _ rfl HW.out (fun _ _ h => h)
              · have h1 : x 1 = _ := hdep 1 rfl
                have hc := hW.act.c1
                clear hdep
                simp only [h1] at hK
                have HW := Lib.hid hW
                clear hW
                go_simp
                exact hK _ _ rfl HW.out (fun _ _ h => h)
              · have h0 : x 0 = _ := hdep 0 rfl
                have h2 : x 2 = _ := hdep 2 rfl
                clear hdep
                simp only [h0, h2] at hK
                have HW := Lib.hid hW
                clear hW
                go_simp
                refine (HGET.out W HW.out).mono ?_
                rintro e W' ⟨rfl, rfl⟩
                exact hK _ _ rfl (HW.out) (fun _ _ h => h)
              · refine step_load_num (by rfl) 33 (.tmp 6) rfl V rfl f hW.both.docs _ Try.underlying33 sizeRow ?_
                exact hK _ _ rfl hW (fun _ _ h => h)
              · clear hdep
                have HW := Lib.hid hW
                clear hW
                go_simp
                exact hK _ _ rfl HW.out (fun _ _ h => h)
              · have h5 : x 5 = _ := hdep 5 rfl
                have hc := hW.act.c1
                clear hdep
                simp only [h5] at hK
                have HW := Lib.hid hW
                clear hW
                go_simp
                exact hK _ _ rfl HW.out (fun _ _ h => h)
              · have h4 : x 4 = _ := hdep 4 rfl
                have h6 : x 6 = _ := hdep 6 rfl
                clear hdep
                simp only [h4, h6] at hK
                have HW := Lib.hid hW
                clear hW
                go_simp
                refine (HREF.out W).mono ?_
                rintro e W' ⟨rfl, ht⟩
                exact hK _ _ rfl (HW.out.still ht) (fun _ _ h => h)
              · have h7 : x 7 = _ := hdep 7 rfl
                have hf := HF1.out
                clear hdep
                simp only [h7] at hK
                have HW := Lib.hid hW
                clear hW
                go_simp
                exact hK _ _ rfl HW.out (fun _ _ h => h)
              · have h3 : x 3 = _ := hdep 3 rfl
                have h8 : x 8 = _ := hdep 8 rfl
                have hf := HF2.out
                clear hdep
                simp only [h3, h8] at hK
                have HW := Lib.hid hW
                clear hW
                go_simp
                exact hK _ _ rfl HW.out (fun _ _ h => h)
              · have h9 : x 9 = _ := hdep 9 rfl
                clear hdep
                simp only [h9] at hK
                have HW := Lib.hid hW
                clear hW
                go_simp
                exact hK _ _ rfl HW.out (fun _ _ h => h)
              · have h10 : x 10 = _ := hdep 10 rfl
                clear hdep
                simp only [h10] at hK
                have HW := Lib.hid hW
                clear hW
                go_simp
                exact hK _ _ trivial HW.out (fun _ _ h => h)
              · have h10 : x 10 = _ := hdep 10 rfl
                clear hdep
                simp only [h10] at hK
                have HW := Lib.hid hW
                clear hW
                go_simp
                exact hK _ _ trivial HW.out (fun _ _ h => h)
              · have h10 : x 10 = _ := hdep 10 rfl
                clear hdep
                simp only [h10] at hK
                have HW := Lib.hid hW
                clear hW
                go_simp
                exact hK _ _ trivial HW.out (fun _ _ h => h)
              · have h10 : x 10 = _ := hdep 10 rfl
                clear hdep
                simp only [h10] at hK
                have HW := Lib.hid hW
                clear hW
                go_simp
                exact hK _ _ rfl HW.out (fun _ _ h => h)
              · have h14 : x 14 = _ := hdep 14 rfl
                clear hdep
                simp only [h14] at hK
                have HW := Lib.hid hW
                clear hW
                go_simp
                exact hK _ _ rfl HW.out (fun _ _ h => h)
              · have h15 : x 15 = _ := hdep 15 rfl
                clear hdep
                simp only [h15] at hK
                have HW := Lib.hid hW
                clear hW
                go_simp
                exact hK _ _ trivial HW.out (fun _ _ h => h)
              · have h15 : x 15 = _ := hdep 15 rfl
                clear hdep
                simp only [h15] at hK
                have HW := Lib.hid hW
                clear hW
                go_simp
                exact hK _ _ trivial HW.out (fun _ _ h => h)
              · have h15 : x 15 = _ := hdep 15 rfl
                clear hdep
                simp only [h15] at hK
                have HW := Lib.hid hW
                clear hW
                go_simp
                exact hK _ _ trivial HW.out (fun _ _ h => h)
              · have h15 : x 15 = _ := hdep 15 rfl
                clear hdep
                simp only [h15] at hK
                have HW := Lib.hid hW
                clear hW
                go_simp
                exact hK _ _ rfl HW.out (fun _ _ h => h)
            case fin3 =>
              intro x W hW hY
              have h19 : x 19 = .bool false := hY 19 (by simp)
              have HB6 := Lib.hid hW.both
              clear hW hY
              rw [h19]
              go_wp2
              go_meet
              exact ⟨f, HB6.out⟩
          · have HF2 : Hid ((u1 != u2) = true) := by
              show (u1 != u2) = true
              have : u2 = 1 := by rw [← hu2, h2]; decide +kernel
              rw [h1, this]; rfl
            have HF3 : Hid (decide (0 ≤ ia) = false) := by show decide (0 ≤ ia) = false; simpa using hi
            clear hi h1 h2 hu2 HCS
            refine wp_region_inv (by kernel_rfl) (R11 w T V C D q ia x y f h) (fun j v _ => Y11B f C D ia u1 u u2 j v) ?F4 ?hF4 (by kernel_rfl) (by kernel_rfl) HR11.out ?step4 ?fin4
            case hF4 =>
              intro x
              simp only [List.map_cons, List.map_nil, putL, Act.put, List.setIfInBounds_toArray, List.set_cons_zero, List.set_cons_succ, Nat.zero_add, Nat.reduceAdd]
              exact rfl
            case step4 =>
              refine ⟨?_, ?_, ?_, ?_, ?_, ?_, ?_, ?_, ?_, ?_, ?_, ?_, ?_, ?_, ?_, ?_, ?_, ?_, ?_, ?_, trivial⟩
              all_goals intro x W hW hdep K hK
              · clear hdep
                have HW := Lib.hid hW
                clear hW
                go_simp
                exact hK _ _ rfl HW.out (fun _ _ h => h)
              · clear hdep
                have HW := Lib.hid hW
                clear hW
                go_simp
                exact hK _ _ rfl HW.out (fun _ _ h => h)
              · have h1 : x 1 = _ := hdep 1 rfl
                have hc := hW.act.c1
                clear hdep
                simp only [h1] at hK
                have HW := Lib.hid hW
                clear hW
                go_simp
                exact hK _ _ rfl HW.out (fun _ _ h => h)
              · have h0 : x 0 = _ := hdep 0 rfl
                have h2 : x 2 = _ := hdep 2 rfl
                clear hdep
                simp only [h0, h2] at hK
                have HW := Lib.hid hW
                clear hW
                go_simp
                refine (HGET.out W HW.out).mono ?_
                rintro e W' ⟨rfl, rfl⟩
                exact hK _ _ rfl (HW.out) (fun _ _ h => h)
              · refine step_load_num (by rfl) 33 (.tmp 6) rfl V rfl f hW.both.docs _ Try.underlying33 sizeRow ?_
                exact hK _ _ rfl hW (fun _ _ h => h)
              · clear hdep
                have HW := Lib.hid hW
                clear hW
                go_simp
                exact hK _ _ rfl HW.out (fun _ _ h => h)
              · have h5 : x 5 = _ := hdep 5 rfl
                have hc := hW.act.c1
                clear hdep
                simp only [h5] at hK
                have HW := Lib.hid hW
                clear hW
                go_simp
                exact hK _ _ rfl HW.out (fun _ _ h => h)
              · have h4 : x 4 = _ := hdep 4 rfl
                have h6 : x 6 = _ := hdep 6 rfl
                clear hdep
                simp only [h4, h6] at hK
                have HW := Lib.hid hW
                clear hW
                go_simp
                refine (HREF.out W).mono ?_
                rintro e W' ⟨rfl, ht⟩
                exact hK _ _ rfl (HW.out.still ht) (fun _ _ h => h)
              · have h7 : x 7 = _ := hdep 7 rfl
                have hf := HF1.out
                clear hdep
                simp only [h7] at hK
                have HW := Lib.hid hW
                clear hW
                go_simp
                exact hK _ _ rfl HW.out (fun _ _ h => h)
              · have h3 : x 3 = _ := hdep 3 rfl
                have h8 : x 8 = _ := hdep 8 rfl
                have hf := HF2.out
                clear hdep
                simp only [h3, h8] at hK
                have HW := Lib.hid hW
                clear hW
                go_simp
                exact hK _ _ rfl HW.out (fun _ _ h => h)
              · have h9 : x 9 = _ := hdep 9 rfl
                clear hdep
                simp only [h9] at hK
                have HW := Lib.hid hW
                clear hW
                go_simp
                exact hK _ _ rfl HW.out (fun _ _ h => h)
              · have h10 : x 10 = _ := hdep 10 rfl
                clear hdep
                simp only [h10] at hK
                have HW := Lib.hid hW
                clear hW
                go_simp
                exact hK _ _ rfl HW.out (fun _ _ h => h)
              · have h10 : x 10 = _ := hdep 10 rfl
                have h11 : x 11 = _ := hdep 11 rfl
                have hc := hW.act.c1
                clear hdep
                simp only [h10, h11] at hK
                have HW := Lib.hid hW
                clear hW
                go_simp
                exact hK _ _ rfl HW.out (fun _ _ h => h)
              · have h10 : x 10 = _ := hdep 10 rfl
                have h12 : x 12 = _ := hdep 12 rfl
                have hf := HF3.out
                clear hdep
                simp only [h10, h12] at hK
                have HW := Lib.hid hW
                clear hW
                go_simp
                exact hK _ _ rfl HW.out (fun _ _ h => h)
              · have h10 : x 10 = _ := hdep 10 rfl
                have h13 : x 13 = _ := hdep 13 rfl
                clear hdep
                simp only [h10, h13] at hK
                have HW := Lib.hid hW
                clear hW
                go_simp
                exact hK _ _ rfl HW.out (fun _ _ h => h)
              · have h14 : x 14 = _ := hdep 14 rfl
                clear hdep
                simp only [h14] at hK
                have HW := Lib.hid hW
                clear hW
                go_simp
                exact hK _ _ rfl HW.out (fun _ _ h => h)
              · have h15 : x 15 = _ := hdep 15 rfl
                clear hdep
                simp only [h15] at hK
                have HW := Lib.hid hW
                clear hW
                go_simp
                exact hK _ _ trivial HW.out (fun _ _ h => h)
              · have h15 : x 15 = _ := hdep 15 rfl
                clear hdep
                simp only [h15] at hK
                have HW := Lib.hid hW
                clear hW
                go_simp
                exact hK _ _ trivial HW.out (fun _ _ h => h)
              · have h15 : x 15 = _ := hdep 15 rfl
                clear hdep
                simp only [h15] at hK
                have HW := Lib.hid hW
                clear hW
                go_simp
                exact hK _ _ trivial HW.out (fun _ _ h => h)
              · have h15 : x 15 = _ := hdep 15 rfl
                clear hdep
                simp only [h15] at hK
                have HW := Lib.hid hW
                clear hW
                go_simp
                exact hK _ _ rfl HW.out (fun _ _ h => h)
            case fin4 =>
              intro x W hW hY
              have h19 : x 19 = .bool false := hY 19 (by simp)
              have HB6 := Lib.hid hW.both
              clear hW hY
              rw [h19]
              go_wp2
              go_meet
              exact ⟨f, HB6.out⟩
          · have HF2 : Hid ((u1 != u2) = true) := by
              show (u1 != u2) = true
              have : u2 = 1 := by rw [← hu2, h2]; decide +kernel
              rw [h1, this]; rfl
            have HF3 : Hid (decide (0 ≤ ia) = true) := by show decide (0 ≤ ia) = true; simpa using hi0
            have HF4 : Hid (decide (ia < 16) = false) := by show decide (ia < 16) = false; simpa using hi
            clear hi0 hi h1 h2 hu2 HCS
            refine wp_region_inv (by kernel_rfl) (R11 w T V C D q ia x y f h) (fun j v _ => Y11C f C D ia u1 u u2 j v) ?F5 ?hF5 (by kernel_rfl) (by kernel_rfl) HR11.out ?step5 ?fin5
            case hF5 =>
              intro x
              simp only [List.map_cons, List.map_nil, putL, Act.put, List.setIfInBounds_toArray, List.set_cons_zero, List.set_cons_succ, Nat.zero_add, Nat.reduceAdd]
              exact rfl
            case step5 =>
              refine ⟨?_, ?_, ?_, ?_, ?_, ?_, ?_, ?_, ?_, ?_, ?_, ?_, ?_, ?_, ?_, ?_, ?_, ?_, ?_, ?_, trivial⟩
              all_goals intro x W hW hdep K hK
              · clear hdep
                have HW := Lib.hid hW
                clear hW
                go_simp
                exact hK _ _ rfl HW.out (fun _ _ h => h)
              · clear hdep
                have HW := Lib.hid hW
                clear hW
                go_simp
                exact hK _ _ rfl HW.out (fun _ _ h => h)
              · have h1 : x 1 = _ := hdep 1 rfl
                have hc := hW.act.c1
                clear hdep
                simp only [h1] at hK
                have HW := Lib.hid hW
                clear hW
                go_simp
                exact hK _ _ rfl HW.out (fun _ _ h => h)
              · have h0 : x 0 = _ := hdep 0 rfl
                have h2 : x 2 = _ := hdep 2 rfl
                clear hdep
                simp only [h0, h2] at hK
                have HW := Lib.hid hW
                clear hW
                go_simp
                refine (HGET.out W HW.out).mono ?_
                rintro e W' ⟨rfl, rfl⟩
                exact hK _ _ rfl (HW.out) (fun _ _ h => h)
              · refine step_load_num (by rfl) 33 (.tmp 6) rfl V rfl f hW.both.docs _ Try.underlying33 sizeRow ?_
                exact hK _ _ rfl hW (fun _ _ h => h)
              · clear hdep
                have HW := Lib.hid hW
                clear hW
                go_simp
                exact hK _ _ rfl HW.out (fun _ _ h => h)
              · have h5 : x 5 = _ := hdep 5 rfl
                have hc := hW.act.c1
                clear hdep
                simp only [h5] at hK
                have HW := Lib.hid hW
                clear hW
                go_simp
                exact hK _ _ rfl HW.out (fun _ _ h => h)
              · have h4 : x 4 = _ := hdep 4 rfl
                have h6 : x 6 = _ := hdep 6 rfl
                clear hdep
                simp only [h4, h6] at hK
                have HW := Lib.hid hW
                clear hW
                go_simp
                refine (HREF.out W).mono ?_
                rintro e W' ⟨rfl, ht⟩
                exact hK _ _ rfl (HW.out.still ht) (fun _ _ h => h)
              · have h7 : x 7 = _ := hdep 7 rfl
                have hf := HF1.out
                clear hdep
                simp only [h7] at hK
                have HW := Lib.hid hW
                clear hW
                go_simp
                exact hK _ _ rfl HW.out (fun _ _ h => h)
              · have h3 : x 3 = _ := hdep 3 rfl
                have h8 : x 8 = _ := hdep 8 rfl
                have hf := HF2.out
                clear hdep
                simp only [h3, h8] at hK
                have HW := Lib.hid hW
                clear hW
                go_simp
                exact hK _ _ rfl HW.out (fun _ _ h => h)
              · have h9 : x 9 = _ := hdep 9 rfl
                clear hdep
                simp only [h9] at hK
                have HW := Lib.hid hW
                clear hW
                go_simp
                exact hK _ _ rfl HW.out (fun _ _ h => h)
              · have h10 : x 10 = _ := hdep 10 rfl
                clear hdep
                simp only [h10] at hK
                have HW := Lib.hid hW
                clear hW
                go_simp
                exact hK _ _ rfl HW.out (fun _ _ h => h)
              · have h10 : x 10 = _ := hdep 10 rfl
                have h11 : x 11 = _ := hdep 11 rfl
                have hc := hW.act.c1
                clear hdep
                simp only [h10, h11] at hK
                have HW := Lib.hid hW
                clear hW
                go_simp
                exact hK _ _ rfl HW.out (fun _ _ h => h)
              · have h10 : x 10 = _ := hdep 10 rfl
                have h12 : x 12 = _ := hdep 12 rfl
                have hf := HF3.out
                clear hdep
                simp only [h10, h12] at hK
                have HW := Lib.hid hW
                clear hW
                go_simp
                exact hK _ _ rfl HW.out (fun _ _ h => h)
              · have h10 : x 10 = _ := hdep 10 rfl
                have h13 : x 13 = _ := hdep 13 rfl
                clear hdep
                simp only [h10, h13] at hK
                have HW := Lib.hid hW
                clear hW
                go_simp
                exact hK _ _ rfl HW.out (fun _ _ h => h)
              · have h14 : x 14 = _ := hdep 14 rfl
                clear hdep
                simp only [h14] at hK
                have HW := Lib.hid hW
                clear hW
                go_simp
                exact hK _ _ rfl HW.out (fun _ _ h => h)
              · have h15 : x 15 = _ := hdep 15 rfl
                clear hdep
                simp only [h15] at hK
                have HW := Lib.hid hW
                clear hW
                go_simp
                exact hK _ _ rfl HW.out (fun _ _ h => h)
              · have h15 : x 15 = _ := hdep 15 rfl
                have h16 : x 16 = _ := hdep 16 rfl
                have hc := hW.act.c1
                clear hdep
                simp only [h15, h16] at hK
                have HW := Lib.hid hW
                clear hW
                go_simp
                exact hK _ _ rfl HW.out (fun _ _ h => h)
              · have h15 : x 15 = _ := hdep 15 rfl
                have h17 : x 17 = _ := hdep 17 rfl
                have hf := HF4.out
                clear hdep
                simp only [h15, h17] at hK
                have HW := Lib.hid hW
                clear hW
                go_simp
                exact hK _ _ rfl HW.out (fun _ _ h => h)
              · have h15 : x 15 = _ := hdep 15 rfl
                have h18 : x 18 = _ := hdep 18 rfl
                clear hdep
                simp only [h15, h18] at hK
                have HW := Lib.hid hW
                clear hW
                go_simp
                exact hK _ _ rfl HW.out (fun _ _ h => h)
            case fin5 =>
              intro x W hW hY
              have h19 : x 19 = .bool false := hY 19 (by simp)
              have HB6 := Lib.hid hW.both
              clear hW hY
              rw [h19]
              go_wp2
              go_meet
              exact ⟨f, HB6.out⟩
      case rest =>
        obtain ⟨g, hB⟩ := hcut
        have HB := Lib.hid hB
        clear hB HA HB1
        obtain ⟨tv, hhv⟩ := HB.out.docs
        have HHV := Lib.hid hhv
        clear hhv
        go_wp2_with (with_reducible refine wpList_load_row rfl 33 (.tmp 6) rfl V rfl tv (numA g) (0, 0) _ HHV.out Try.underlying33 rfl (by rw [numA_size]; exact sizeRow) ?_)
        go_loop [16, 135] (fun s i => ∃ j : Nat, j ≤ 16 ∧ i = .int .i64 j ∧ s = .int .i64 (sumF g j)) (fun _ i => 16 - (intOf i).toNat)
        case atStart => exact ⟨0, by omega, rfl, rfl⟩
        case round =>
          obtain ⟨j, hj, rfl, rfl⟩ := hrel
          by_cases hjl : j < 16
          · have hix := index_run33 g j hjl wc
            have HN : Hid (sumF g (j + 1) = wrap64 (sumF g j + g j)) := rfl
            generalize g j = xx at *
            generalize sumF g j = ss at *
            go_wp2
            go_round
            case rel => exact ⟨j + 1, by omega, by go_num, by rw [HN.out]⟩
            case measure => simp [intOf]; omega
          · obtain rfl : j = 16 := by omega
            go_wp2
            have HSUM : Hid (∀ W, Both4 w T V g W → Calls Try.prog 16 #[.pointer (some ⟨T, 0, none⟩)] W fun e w' => e = .returned (.int .i64 (sumF g 16)) ∧ Turns (fun _ => False) W w') := fun W h => sum4_calls T g W h.mine
            have HGET : Hid (∀ W, Both4 w T V g W → Calls Try.prog 14 #[.pointer (some ⟨T, 0, none⟩), .int .i64 at_] W fun e w' => e = .returned (.int .i64 (getF g at_)) ∧ W = w') := fun W h => get4_calls T at_ g W h.mine
            have HREF : Hid (∀ W, Calls Try.prog 10 #[.agg (numA g), .int .i64 at_] W fun e w' => e = .returned (.int .i64 (getF g at_)) ∧ Turns (fun _ => False) W w') := fun W => refget4_calls g at_ W
            generalize sumF g 16 = s at *
            generalize getF g at_ = u at *
            refine wp_region_inv (by kernel_rfl) (Both4 w T V g) (fun j v _ => Y34 g s u at_ j v) ?F6 ?hF6 (by kernel_rfl) (by kernel_rfl) (HB.out.still (Turns.refl _ _).drew) ?step6 ?fin6
            case hF6 =>
              intro x
              simp only [List.map_cons, List.map_nil, putL, Act.put, List.setIfInBounds_toArray, List.set_cons_zero, List.set_cons_succ, Nat.zero_add, Nat.reduceAdd]
              exact rfl
            case step6 =>
              refine ⟨?_, ?_, ?_, ?_, ?_, ?_, ?_, ?_, ?_, ?_, ?_, ?_, ?_, ?_, ?_, ?_, trivial⟩
              all_goals intro x W hW hdep K hK
              · clear hdep
                have HW := Lib.hid hW
                clear hW
                go_simp
                refine (all4_calls T g W HW.out.mine).mono ?_
                rintro e W' ⟨rfl, ht⟩
                exact hK _ _ rfl (HW.out.still ht) (fun _ _ h => h)
              · refine step_load_num (by rfl) 33 (.tmp 6) rfl V rfl g hW.docs _ Try.underlying33 sizeRow ?_
                exact hK _ _ rfl hW (fun _ _ h => h)
              · have h0 : x 0 = _ := hdep 0 rfl
                have h1 : x 1 = _ := hdep 1 rfl
                have hq := eq_num g W
                clear hdep
                simp only [h0, h1] at hK
                have HW := Lib.hid hW
                clear hW
                go_simp
                exact hK _ _ rfl HW.out (fun _ _ h => h)
              · have h2 : x 2 = _ := hdep 2 rfl
                clear hdep
                simp only [h2] at hK
                have HW := Lib.hid hW
                clear hW
                go_simp
                exact hK _ _ rfl HW.out (fun _ _ h => h)
              · have h3 : x 3 = _ := hdep 3 rfl
                clear hdep
                simp only [h3] at hK
                have HW := Lib.hid hW
                clear hW
                go_simp
                refine (HSUM.out W HW.out).mono ?_
                rintro e W' ⟨rfl, ht⟩
                exact hK _ _ rfl (HW.out.still ht) (fun _ _ h => h)
              · have h3 : x 3 = _ := hdep 3 rfl
                clear hdep
                simp only [h3] at hK
                have HW := Lib.hid hW
                clear hW
                go_simp
                exact hK _ _ rfl HW.out (fun _ _ h => h)
              · have h3 : x 3 = _ := hdep 3 rfl
                have h4 : x 4 = _ := hdep 4 rfl
                have h5 : x 5 = _ := hdep 5 rfl
                clear hdep
                simp only [h3, h4, h5] at hK
                have HW := Lib.hid hW
                clear hW
                go_simp
                exact hK _ _ rfl HW.out (fun _ _ h => h)
              · have h3 : x 3 = _ := hdep 3 rfl
                have h6 : x 6 = _ := hdep 6 rfl
                clear hdep
                simp only [h3, h6] at hK
                have HW := Lib.hid hW
                clear hW
                go_simp
                exact hK _ _ rfl HW.out (fun _ _ h => h)
              · have h7 : x 7 = _ := hdep 7 rfl
                clear hdep
                simp only [h7] at hK
                have HW := Lib.hid hW
                clear hW
                go_simp
                exact hK _ _ rfl HW.out (fun _ _ h => h)
              · have h8 : x 8 = _ := hdep 8 rfl
                clear hdep
                simp only [h8] at hK
                have HW := Lib.hid hW
                clear hW
                go_simp
                exact hK _ _ rfl HW.out (fun _ _ h => h)
              · have h8 : x 8 = _ := hdep 8 rfl
                have h9 : x 9 = _ := hdep 9 rfl
                clear hdep
                simp only [h8, h9] at hK
                have HW := Lib.hid hW
                clear hW
                go_simp
                refine (HGET.out W HW.out).mono ?_
                rintro e W' ⟨rfl, rfl⟩
                exact hK _ _ rfl (HW.out) (fun _ _ h => h)
              · have h8 : x 8 = _ := hdep 8 rfl
                rw [if_pos (by rw [h8]; rfl)]
                refine wp_load_num 33 (.tmp 6) rfl V rfl g hW.docs _ Try.underlying33 sizeRow ?_
                exact hK _ _ rfl hW (fun _ _ h => h)
              · have h8 : x 8 = _ := hdep 8 rfl
                clear hdep
                simp only [h8] at hK
                have HW := Lib.hid hW
                clear hW
                go_simp
                exact hK _ _ rfl HW.out (fun _ _ h => h)
              · have h8 : x 8 = _ := hdep 8 rfl
                have h11 : x 11 = _ := hdep 11 rfl
                have h12 : x 12 = _ := hdep 12 rfl
                clear hdep
                simp only [h8, h11, h12] at hK
                have HW := Lib.hid hW
                clear hW
                go_simp
                refine (HREF.out W).mono ?_
                rintro e W' ⟨rfl, ht⟩
                exact hK _ _ rfl (HW.out.still ht) (fun _ _ h => h)
              · have h8 : x 8 = _ := hdep 8 rfl
                have h10 : x 10 = _ := hdep 10 rfl
                have h13 : x 13 = _ := hdep 13 rfl
                clear hdep
                simp only [h8, h10, h13] at hK
                have HW := Lib.hid hW
                clear hW
                go_simp
                exact hK _ _ rfl HW.out (fun _ _ h => h)
              · have h8 : x 8 = _ := hdep 8 rfl
                have h14 : x 14 = _ := hdep 14 rfl
                clear hdep
                simp only [h8, h14] at hK
                have HW := Lib.hid hW
                clear hW
                go_simp
                exact hK _ _ rfl HW.out (fun _ _ h => h)
            case fin6 =>
              intro x W hW hY
              have h15 : x 15 = .bool false := hY 15 (by simp)
              have HB2 := Lib.hid hW
              clear hW hY
              rw [h15]
              go_wp2
              go_roundw
              case rel => exact ⟨k + 1, by omega, by go_num, g, HB2.out⟩
              case measure => simp [intOf]; omega
    · obtain rfl : k = l.length := by omega
      have HT := Lib.hid HB.out.turns
      go_wp2
      go_ret
      exact ⟨rfl, HT.out⟩

theorem tplays_walk (A : Option Addr) (c : Nat) (l : List Act4) (at_ : Int) (w : World) (hr : RdA4 w A l) (hw : ∀ t ∈ l, t.kd < 256) (hm : l.length ≤ 9223372036854775807) :
    Calls Try.prog 3 #[.slice A l.length c, .int .i64 at_] w (Told2 true w) := by
  by_cases h : 60 < l.length
  · exact tplays_few A c l.length at_ w hm h
  · exact tplays_many A c l at_ w hr hw (by omega)
end Go.Proofs.Ytbpccjofopenoaa

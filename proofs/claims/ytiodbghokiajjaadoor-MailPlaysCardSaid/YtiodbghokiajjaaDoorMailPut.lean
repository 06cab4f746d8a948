/-
  Drop and put of the index: one address less; one more, in place of the one that its name had.
  Conditions: each theorem's own.
-/
import Derived.Test.YtiodbghokiajjaaDoorMailDir
import Derived.Test.YtiodbghokiajjaaDoorGen
namespace Go.Proofs.YtiodbghokiajjaaDoor
open Go.RowKit Go.Maps

theorem SeqG.mono9 {cs : List Nat} {St St' : Nat → World → Prop} {L : Nat → Bool} {W W' : World} (h : SeqG cs St L W) (f : ∀ m, St m W → St' m W') : SeqG cs St' L W' := by
  obtain ⟨m, hm, hs, hr⟩ := h
  exact ⟨m, hm, f m hs, hr⟩
theorem SeqG.move9 {cs : List Nat} {St St' : Nat → World → Prop} {L : Nat → Bool} {W W' : World} (h : SeqG cs St L W) (q i : Nat) (hq : q < cs.length) (hi : cs.getD q 0 = i) (hL : L i = false) (hp : q = 0 ∨ L (cs.getD (q - 1) 0) = true)
    (hnd : (List.range cs.length).all (fun r => r == q || cs.getD r 0 != i) = true) (hS : St' (q + 1) W') : SeqG cs St' (updL L i) W' := by
  obtain ⟨m, hm, hs, hr⟩ := h
  have h1 : ¬ q < m := by have := hr q hq; rw [hi, hL] at this; simpa using this.symm
  have h2 : m = q := by
    rcases hp with rfl | hp
    · omega
    · have := hr (q - 1) (by omega)
      rw [hp] at this
      have : q - 1 < m := by simpa using this.symm
      omega
  subst h2
  have hX : SeqG cs (fun k V => k = m + 1 → St' k V) L W' := ⟨m, hm, fun e => absurd e (by omega), hr⟩
  obtain ⟨k, hk, hs', hr'⟩ := hX.next m i hq hi hL hp hnd (fun _ => hS)
  have hkm : k = m + 1 := by
    have e1 := hr' m hq
    rw [hi, show updL L i i = true from if_pos rfl] at e1
    have e1' : m < k := by simpa using e1.symm
    by_cases hlt : m + 1 < cs.length
    · have h3 := List.all_eq_true.1 hnd (m + 1) (List.mem_range.2 hlt)
      have e2 := hr' (m + 1) hlt
      have hne : cs.getD (m + 1) 0 ≠ i := by
        have e1 : ((m + 1) == m) = false := by simp
        rw [e1, Bool.false_or, bne_iff_ne] at h3
        exact h3
      rw [show updL L i (cs.getD (m + 1) 0) = L (cs.getD (m + 1) 0) from if_neg hne, hr (m + 1) hlt] at e2
      have : ¬ m + 1 < k := by
        have e3 : decide (m + 1 < m) = false := by simp
        rw [e3] at e2
        simpa using e2.symm
      omega
    · omega
  subst hkm
  exact ⟨m + 1, hk, hs' rfl, hr'⟩
theorem SeqG.done9 {cs : List Nat} {St : Nat → World → Prop} {L : Nat → Bool} {W : World} (h : SeqG cs St L W) (hall : ∀ r, r < cs.length → L (cs.getD r 0) = true) : St cs.length W := by
  obtain ⟨m, hm, hs, hr⟩ := h
  by_cases e : m = cs.length
  · rw [← e]; exact hs
  · have h1 := hr m (by omega)
    rw [hall m (by omega)] at h1
    simp at h1

set_option maxRecDepth 100000 in
theorem drop9_calls (B : Nat) (p q : Option Nat) (L M : Row7) (s : ByteArray) (w : World) (h : Idx9 w B p q L M) (hs : s.size ≤ maxLen) :
    Calls Tryd.prog 11 #[.pointer (some ⟨B, 0, none⟩), .string s] w fun e w' => e = .returned (.bool (hasE L s.data.toList)) ∧ (∃ M', Idx9 w' B p q (delE L s.data.toList) M') ∧ Turn9 B p q w w' := by
  have hl := look9 h.mapp s hs
  have c0 := h.cell0
  cases hh : hasE L s.data.toList with
  | false =>
    rw [hh] at hl
    have HF : Hid ((∃ M', Idx9 w B p q (delE L s.data.toList) M') ∧ Turn9 B p q w w) := ⟨⟨M, by rw [del_of_not hh]; exact h⟩, Turns.refl _ w⟩
    clear h
    generalize tx7 (getE L s.data.toList) = g at *
    go_enter Tryd.func11, Tryd.ntmps11
    go_wp2
    go_ret
    exact ⟨rfl, HF.out⟩
  | true =>
    rw [hh] at hl
    have hmem := hasE_mem hh
    have hmay := h.all _ hmem
    have hgs : (tx7 (getE L s.data.toList)).size ≤ maxLen := by
      show (getE L s.data.toList).toArray.size ≤ _
      rw [List.size_toArray]; exact Nat.le_trans (mail5_len hmay.2.1) (by decide)
    obtain ⟨w1, r1, m1, t1⟩ := drop9 h.mapp s hs 0
    have hB1 : w1.heap[B]? = _ := (t1.block B h.lt (fun e => h.pne _ e rfl)).trans h.blk
    have c1 : w1.cell? ⟨B, 1, none⟩ = some (.map q) := by simp [World.cell?, hB1]
    have q1 : MapOr9 w1 q M := h.mapq.turns t1 (fun b hb e => h.apt b b e hb rfl)
    obtain ⟨w2, r2, m2, t2⟩ := drop9 q1 (tx7 (getE L s.data.toList)) hgs 0
    have ht : Turn9 B p q w w2 := (t1.mono (fun i _ e => .inr (.inl e))).next t2 (fun i _ e => .inr (.inr e))
    have HF : Hid ((∃ M', Idx9 w2 B p q (delE L s.data.toList) M') ∧ Turn9 B p q w w2) := by
      rw [tx7_list] at m2
      refine ⟨⟨_, ⟨(t2.block B (Nat.lt_of_lt_of_le h.lt t1.size) (fun e => h.qne _ e rfl)).trans hB1, m1.turns t2 (fun b hb e => h.apt b b hb e rfl), m2, h.both, h.apt, h.mir.del hh, ?_, fun x hx => h.all x (mem_del.1 hx).1⟩⟩, ht⟩
      exact Nat.le_trans (List.length_filter_le _ _) h.few
    clear h hB1 q1 m1 m2 t1 t2 ht hmem hmay hgs
    generalize tx7 (getE L s.data.toList) = g at *
    go_enter Tryd.func11, Tryd.ntmps11
    go_wp2
    go_ret
    exact ⟨rfl, HF.out⟩

/-- What put's operations make. -/
def YPut9 (B b c : Nat) (n a : ByteArray) : Nat → Value → Prop
  | 2, v => v = .pointer (some ⟨B, 0, none⟩)
  | 3, v => v = .map (some b)
  | 4, v => v = .string n
  | 7, v => v = .pointer (some ⟨B, 1, none⟩)
  | 8, v => v = .map (some c)
  | 9, v => v = .string a
  | 10, v => v = .string a
  | 11, v => v = .string n
  | _, v => v = .pointer (some ⟨B, 0, none⟩)
/-- The maps, step by step. -/
def StPut9 (b c : Nat) (L M L' M' : Row7) (n a : ByteArray) (x12 x15 : Value) : Nat → World → Prop
  | 0, W => Map7 W b L ∧ Map7 W c M
  | 1, W => (∃ (v0 : Value) (st : Nat), x12 = .tuple #[v0, .int .i64 (st : Int)] ∧ Half9 W b L' (.int .i64 (st : Int)) (.string a)) ∧ Map7 W c M
  | 2, W => Map7 W b L' ∧ Map7 W c M
  | 3, W => Map7 W b L' ∧ ∃ (v0 : Value) (st : Nat), x15 = .tuple #[v0, .int .i64 (st : Int)] ∧ Half9 W c M' (.int .i64 (st : Int)) (.string n)
  | _, W => Map7 W b L' ∧ Map7 W c M'
structure Put9 (w1 : World) (B b c : Nat) (L M L' M' : Row7) (n a : ByteArray) (D : Nat → Bool) (x : Nat → Value) (W : World) : Prop where
  y : ∀ j, j < 12 → D j = true → YPut9 B b c n a j (x j)
  e12 : D 12 = true → ∃ (v0 : Value) (st : Nat), x 12 = .tuple #[v0, .int .i64 (st : Int)]
  e15 : D 15 = true → ∃ (v0 : Value) (st : Nat), x 15 = .tuple #[v0, .int .i64 (st : Int)]
  e13 : D 13 = true → D 12 = true ∧ ∃ v0, x 12 = .tuple #[v0, x 13]
  e16 : D 16 = true → D 15 = true ∧ ∃ v0, x 15 = .tuple #[v0, x 16]
  t : Turns (fun i => i = b ∨ i = c) w1 W
  s : SeqG [12, 14, 15, 17] (StPut9 b c L M L' M' n a (x 12) (x 15)) D W

section
variable {w1 : World} {B b c : Nat} {L M L' M' : Row7} {n a : ByteArray} {D : Nat → Bool} {x : Nat → Value} {W W' : World}
theorem Put9.start (x : Nat → Value) (hb : Map7 w1 b L) (hc : Map7 w1 c M) : Put9 w1 B b c L M L' M' n a (fun _ => false) x w1.drew :=
  ⟨(fun _ _ h => nomatch h), (fun h => nomatch h), (fun h => nomatch h), (fun h => nomatch h), (fun h => nomatch h), (Turns.refl _ w1).drew, SeqG.start ⟨hb, hc⟩⟩
theorem Put9.quiet (h : Put9 w1 B b c L M L' M' n a D x W) (i : Nat) (v : Value) (hi : [12, 14, 15, 17].contains i = false) (hy : i < 12 → YPut9 B b c n a i v)
    (h13 : i = 13 → D 12 = true ∧ ∃ v0, x 12 = .tuple #[v0, v]) (h16 : i = 16 → D 15 = true ∧ ∃ v0, x 15 = .tuple #[v0, v]) : Put9 w1 B b c L M L' M' n a (updL D i) (upd x i v) W := by
  have n12 : 12 ≠ i := fun e => by subst e; simp at hi
  have n15 : 15 ≠ i := fun e => by subst e; simp at hi
  have u12 : upd x i v 12 = x 12 := if_neg n12
  have u15 : upd x i v 15 = x 15 := if_neg n15
  have d12 : updL D i 12 = D 12 := if_neg n12
  have d15 : updL D i 15 = D 15 := if_neg n15
  refine ⟨fun j hj hd => ?_, fun hd => ?_, fun hd => ?_, fun hd => ?_, fun hd => ?_, h.t, ?_⟩
  · by_cases e : j = i
    · subst e; rw [show upd x j v j = v from if_pos rfl]; exact hy hj
    · rw [show upd x i v j = x j from if_neg e]; rw [show updL D i j = D j from if_neg e] at hd; exact h.y j hj hd
  · rw [u12]; rw [d12] at hd; exact h.e12 hd
  · rw [u15]; rw [d15] at hd; exact h.e15 hd
  · rw [u12, d12]
    by_cases e : 13 = i
    · subst e; rw [show upd x 13 v 13 = v from if_pos rfl]; exact h13 rfl
    · rw [show upd x i v 13 = x 13 from if_neg e]; rw [show updL D i 13 = D 13 from if_neg e] at hd; exact h.e13 hd
  · rw [u15, d15]
    by_cases e : 16 = i
    · subst e; rw [show upd x 16 v 16 = v from if_pos rfl]; exact h16 rfl
    · rw [show upd x i v 16 = x 16 from if_neg e]; rw [show updL D i 16 = D 16 from if_neg e] at hd; exact h.e16 hd
  · rw [u12, u15]; exact h.s.same i hi (fun _ h => h)
theorem turned9 {W W' : World} {b i : Nat} (ht : W.mapTurned W' b) (hne : i ≠ b) : W'.heap[i]? = W.heap[i]? := turned_cells ht (fun e => hne e.symm)
theorem Put9.turn (h : Put9 w1 B b c L M L' M' n a D x W) {k : Nat} (hk : k = b ∨ k = c) (ht : W.mapTurned W' k) : Turns (fun i => i = b ∨ i = c) w1 W' :=
  h.t.grown ht.grown (fun j hj _ => by cases hj; exact hk)
theorem Put9.y2 (h : Put9 w1 B b c L M L' M' n a D x W) (i : Nat) (v : Value) (hi : ¬ i < 12) : ∀ j, j < 12 → updL D i j = true → YPut9 B b c n a j (upd x i v j) := fun j hj hd => by
  have e : j ≠ i := fun e => hi (e ▸ hj)
  rw [show upd x i v j = x j from if_neg e]; rw [show updL D i j = D j from if_neg e] at hd; exact h.y j hj hd
theorem Put9.at12 (h : Put9 w1 B b c L M L' M' n a D x W) (hD : D 12 = false) {v0 : Value} {st : Nat} (hH : Half9 W' b L' (.int .i64 (st : Int)) (.string a)) (ht : W.mapTurned W' b) (hbc : b ≠ c) :
    Put9 w1 B b c L M L' M' n a (updL D 12) (upd x 12 (.tuple #[v0, .int .i64 (st : Int)])) W' := by
  have u12 : upd x 12 (.tuple #[v0, .int .i64 (st : Int)]) 12 = .tuple #[v0, .int .i64 (st : Int)] := if_pos rfl
  have hs := h.s.at_ 0 (by decide) hD (.inl rfl)
  refine ⟨h.y2 12 _ (by decide), fun _ => ⟨v0, st, u12⟩, fun hd => h.e15 hd, fun hd => ?_, fun hd => h.e16 hd, h.turn (.inl rfl) ht, ?_⟩
  · have := (h.e13 hd).1
    rw [hD] at this; cases this
  · refine h.s.move9 0 12 (by decide) rfl hD (.inl rfl) (by decide) ⟨⟨v0, st, u12, hH⟩, hs.2.kept (turned9 ht hbc.symm)⟩
theorem Put9.at14 (h : Put9 w1 B b c L M L' M' n a D x W) (hD : D 14 = false) (h12 : D 12 = true) {v : Value} (hm : Map7 W' b L') (ht : W.mapTurned W' b) (hbc : b ≠ c) :
    Put9 w1 B b c L M L' M' n a (updL D 14) (upd x 14 v) W' := by
  have hs := h.s.at_ 1 (by decide) hD (.inr h12)
  refine ⟨h.y2 14 _ (by decide), fun hd => h.e12 hd, fun hd => h.e15 hd, fun hd => h.e13 hd, fun hd => h.e16 hd, h.turn (.inl rfl) ht, ?_⟩
  exact h.s.move9 1 14 (by decide) rfl hD (.inr h12) (by decide) ⟨hm, hs.2.kept (turned9 ht hbc.symm)⟩
theorem Put9.at15 (h : Put9 w1 B b c L M L' M' n a D x W) (hD : D 15 = false) (h14 : D 14 = true) {v0 : Value} {st : Nat} (hH : Half9 W' c M' (.int .i64 (st : Int)) (.string n)) (ht : W.mapTurned W' c) (hbc : b ≠ c) :
    Put9 w1 B b c L M L' M' n a (updL D 15) (upd x 15 (.tuple #[v0, .int .i64 (st : Int)])) W' := by
  have u15 : upd x 15 (.tuple #[v0, .int .i64 (st : Int)]) 15 = .tuple #[v0, .int .i64 (st : Int)] := if_pos rfl
  have hs := h.s.at_ 2 (by decide) hD (.inr h14)
  refine ⟨h.y2 15 _ (by decide), fun hd => h.e12 hd, fun _ => ⟨v0, st, u15⟩, fun hd => h.e13 hd, fun hd => ?_, h.turn (.inr rfl) ht, ?_⟩
  · have := (h.e16 hd).1
    rw [hD] at this; cases this
  · exact h.s.move9 2 15 (by decide) rfl hD (.inr h14) (by decide) ⟨hs.1.kept (turned9 ht hbc), ⟨v0, st, u15, hH⟩⟩
theorem Put9.at17 (h : Put9 w1 B b c L M L' M' n a D x W) (hD : D 17 = false) (h15 : D 15 = true) {v : Value} (hm : Map7 W' c M') (ht : W.mapTurned W' c) (hbc : b ≠ c) :
    Put9 w1 B b c L M L' M' n a (updL D 17) (upd x 17 v) W' := by
  have hs := h.s.at_ 3 (by decide) hD (.inr h15)
  refine ⟨h.y2 17 _ (by decide), fun hd => h.e12 hd, fun hd => h.e15 hd, fun hd => h.e13 hd, fun hd => h.e16 hd, h.turn (.inr rfl) ht, ?_⟩
  exact h.s.move9 3 17 (by decide) rfl hD (.inr h15) (by decide) ⟨hs.1.kept (turned9 ht hbc), hm⟩
end

theorem blk_set0 {W : World} {B : Nat} {u v : Value} {T : TypeId} (v' : Value) (h : W.heap[B]? = some (.cells #[u, v] T (0, 0))) : (W.setCell ⟨B, 0, none⟩ v').heap[B]? = some (.cells #[v', v] T (0, 0)) := by
  obtain ⟨hlt, hk⟩ := Array.getElem?_eq_some_iff.1 h
  show (W.heap.modify B _)[B]? = _
  rw [Array.getElem?_eq_getElem (by rw [Array.size_modify]; exact hlt), Array.getElem_modify_self, hk]
  rfl
theorem blk_set1 {W : World} {B : Nat} {u v : Value} {T : TypeId} (v' : Value) (h : W.heap[B]? = some (.cells #[u, v] T (0, 0))) : (W.setCell ⟨B, 1, none⟩ v').heap[B]? = some (.cells #[u, v'] T (0, 0)) := by
  obtain ⟨hlt, hk⟩ := Array.getElem?_eq_some_iff.1 h
  show (W.heap.modify B _)[B]? = _
  rw [Array.getElem?_eq_getElem (by rw [Array.size_modify]; exact hlt), Array.getElem_modify_self, hk]
  rfl

set_option maxRecDepth 100000 in
set_option maxHeartbeats 4000000 in
theorem put9_calls (B : Nat) (p q : Option Nat) (L M : Row7) (n a : ByteArray) (w : World) (h : Idx9 w B p q L M) (hm : May9 (n.data.toList, a.data.toList)) (hfree : hasO (delE L n.data.toList) a.data.toList = false) (hf : (putE L n.data.toList a.data.toList).length ≤ 100) :
    Calls Tryd.prog 25 #[.pointer (some ⟨B, 0, none⟩), .string n, .string a] w fun e w' => e = .returned (.tuple #[]) ∧ Goes9 w B p q (putE L n.data.toList a.data.toList) w' := by
  have hn' : n.size ≤ maxLen := by have := name5_len hm.1; rw [size_list] at this; exact Nat.le_trans this (by decide)
  have ha' : a.size ≤ maxLen := by have := mail5_len hm.2.1; rw [size_list] at this; exact Nat.le_trans this (by decide)
  have HD := Lib.hid (drop9_calls B p q L M n w h hn')
  have hall : ∀ y ∈ putE L n.data.toList a.data.toList, May9 y := fun y hy => by
    rcases mem_putE.1 hy with rfl | ⟨hy, _⟩
    · exact hm
    · exact h.all y hy
  have hpd := put_del h.rise n.data.toList a.data.toList
  have HPD : Hid (putE (delE L n.data.toList) n.data.toList a.data.toList = putE L n.data.toList a.data.toList) := hpd
  have HF : Hid ((delE L n.data.toList).length ≤ 1000) := Nat.le_trans (List.length_filter_le _ _) (Nat.le_trans h.few (by decide))
  have HALL := Lib.hid hall
  have HLN := Lib.hid hf
  have hlt0 := h.lt
  have hlp := h.plt
  have hlq := h.qlt
  clear h hm hall hpd hf
  go_enter Tryd.func25, Tryd.ntmps25
  go_wp2_with fail
  with_reducible refine HD.out.mono ?_
  rintro e w1 ⟨rfl, ⟨M1, hi⟩, ht⟩
  have HI := Lib.hid hi
  have HT := Lib.hid ht
  have hfr : hasO (delE L n.data.toList) a.data.toList = false := hfree
  have hmir := hi.mir.put (hasE_del L n.data.toList) hfr
  rw [HPD.out] at hmir
  have HMIR := Lib.hid hmir
  have HG : Hid (M1.length ≤ 1000) := by show _ ≤ _; rw [hi.mir.length]; exact HF.out
  have hq := nilmap9 w1 p
  have hc0 := hi.cell0
  clear ht hmir hfr HD
  cases p with
  | none =>
    have hqn : q = none := by
      have := hi.both
      cases q with
      | none => rfl
      | some c => cases this
    subst hqn
    have hL1 := hi.mapp.nil rfl
    have hM1 := hi.mapq.nil rfl
    have f0 := hi.frozen0
    have f1 := hi.frozen1
    have hc1 := hi.cell1
    have hblk := hi.blk
    have hblt := hi.lt
    have hmm := @run_makeMap Tryd.prog
    have hs0 : ((w1.setCell ⟨B, 0, none⟩ (.map (some w1.heap.size))).setCell ⟨B, 1, none⟩ (.map (some (w1.heap.size + 1)))).heap.size = w1.heap.size := by simp [World.setCell]
    have hb0 := blk_set1 (.map (some (w1.heap.size + 1))) (blk_set0 (.map (some w1.heap.size)) hblk)
    have hb2 : (((w1.setCell ⟨B, 0, none⟩ (.map (some w1.heap.size))).setCell ⟨B, 1, none⟩ (.map (some (w1.heap.size + 1)))).alloc (.map #[] 0)).heap[B]? = _ := (Below.heap_alloc _ _ B (by omega)).trans hb0
    have hb3 : ((((w1.setCell ⟨B, 0, none⟩ (.map (some w1.heap.size))).setCell ⟨B, 1, none⟩ (.map (some (w1.heap.size + 1)))).alloc (.map #[] 0)).alloc (.map #[] 0)).heap[B]? = _ := (Below.heap_alloc _ _ B (by simp; omega)).trans hb2
    have m1 := World.ownsMap_made (H := Unit) ((w1.setCell ⟨B, 0, none⟩ (.map (some w1.heap.size))).setCell ⟨B, 1, none⟩ (.map (some (w1.heap.size + 1)))) Tryd.prog 9 (plainElem Tryd.prog 9)
    have m2 := World.ownsMap_made (H := Unit) (((w1.setCell ⟨B, 0, none⟩ (.map (some w1.heap.size))).setCell ⟨B, 1, none⟩ (.map (some (w1.heap.size + 1)))).alloc (.map #[] 0)) Tryd.prog 9 (plainElem Tryd.prog 9)
    have m1' := m1.alloc (.map #[] 0)
    rw [hs0] at m1'
    rw [World.size_alloc, hs0] at m2
    have e0 : (.map [] : DataW Unit) = datE [] := rfl
    rw [e0] at m1' m2
    have hT2 : Turns (fun i => i = B) w1 ((((w1.setCell ⟨B, 0, none⟩ (.map (some w1.heap.size))).setCell ⟨B, 1, none⟩ (.map (some (w1.heap.size + 1)))).alloc (.map #[] 0)).alloc (.map #[] 0)) := ((((Turns.refl (fun i => i = B) w1).setCell (p := ⟨B, 0, none⟩) (fun _ => rfl) _).setCell (p := ⟨B, 1, none⟩) (fun _ => rfl) _).alloc _).alloc _
    have hB1 := Map7.of (L := []) m1'
    rw [← hL1] at hB1
    have hB2 := Map7.of (L := []) m2
    rw [← hM1] at hB2
    have HB1 := Lib.hid hB1
    have HB2 := Lib.hid hB2
    clear hB1 hB2
    have hz : ((((w1.setCell ⟨B, 0, none⟩ (.map (some w1.heap.size))).setCell ⟨B, 1, none⟩ (.map (some (w1.heap.size + 1)))).alloc (.map #[] 0)).alloc (.map #[] 0)).heap.size = w1.heap.size + 2 := by rw [World.size_alloc, World.size_alloc, hs0]
    clear m1 m2 m1' e0 hb2 hb0 hs0 hi hlp hlq
    go_wp2
    clear hc0 hc1 hq f0 f1 hmm hblk
    generalize ((((w1.setCell ⟨B, 0, none⟩ (.map (some w1.heap.size))).setCell ⟨B, 1, none⟩ (.map (some (w1.heap.size + 1)))).alloc (.map #[] 0)).alloc (.map #[] 0)) = w2 at *
    have hsz := HT.out.size
    generalize hc : w1.heap.size + 1 = c at *
    generalize hb : w1.heap.size = b at *
    have hbc : b ≠ c := by omega
    have HBL : Hid (B < w2.heap.size) := by show _ < _; omega
    have HBN : Hid (¬ (B = b ∨ B = c)) := by show ¬ _; omega
    have HC0 : Hid (w2.cell? ⟨B, 0, none⟩ = some (.map (some b))) := by show _ = _; simp [World.cell?, hb3]
    have HC1 : Hid (w2.cell? ⟨B, 1, none⟩ = some (.map (some c))) := by show _ = _; simp [World.cell?, hb3]
    have HEND : Hid (∀ W, Turns (fun i => i = b ∨ i = c) w2 W → Map7 W b (putE L n.data.toList a.data.toList) → Map7 W c (putE M1 a.data.toList n.data.toList) → Goes9 w B none none (putE L n.data.toList a.data.toList) W) := fun W hW h1 h2 => by
      refine ⟨some b, some c, _, ⟨(hW.block B HBL.out HBN.out).trans hb3, ⟨(fun h => nomatch h), fun b' e => by cases e; exact h1⟩, ⟨(fun h => nomatch h), fun b' e => by cases e; exact h2⟩, rfl, (fun _ _ e1 e2 => by cases e1; cases e2; exact hbc), HMIR.out, HLN.out, HALL.out⟩, (fun _ e => .inr (by cases e; omega)), (fun _ e => .inr (by cases e; omega)), ?_⟩
      exact (HT.out.next hT2 (fun i _ e => .inl e)).next hW (fun i hi e => by omega)
    clear HI HT HMIR HLN HALL hT2 hb3 hL1 hM1
    refine wp_region_gen (by kernel_rfl) (Put9 w2 B b c (delE L n.data.toList) M1 (putE L n.data.toList a.data.toList) (putE M1 a.data.toList n.data.toList) n a) ?F ?hF (by kernel_rfl) (by kernel_rfl) (fun x => Put9.start x HB1.out HB2.out) ?step ?fin
    case hF =>
      intro x
      simp only [List.map_cons, List.map_nil, putL, Act.put, List.setIfInBounds_toArray, List.set_cons_zero, List.set_cons_succ, Nat.zero_add, Nat.reduceAdd]
      exact rfl
    case step =>
      rw [← HPD.out]
      refine ⟨?_, ?_, ?_, ?_, ?_, ?_, ?_, ?_, ?_, ?_, ?_, ?_, ?_, ?_, ?_, ?_, ?_, ?_, trivial⟩
      · intro D x W hi hd hI K hK
        clear hd
        go_simp
        exact hK _ _ (hI.quiet 0 _ rfl (fun _ => rfl) (fun h => absurd h (by decide)) (fun h => absurd h (by decide)))
      · intro D x W hi hd hI K hK
        have h0 : x 0 = _ := hI.y 0 (by decide) (hd 0 rfl)
        clear hd
        simp only [h0] at hK
        go_simp
        exact hK _ _ (hI.quiet 1 _ rfl (fun _ => rfl) (fun h => absurd h (by decide)) (fun h => absurd h (by decide)))
      · intro D x W hi hd hI K hK
        have h1 : x 1 = _ := hI.y 1 (by decide) (hd 1 rfl)
        clear hd
        simp only [h1] at hK
        go_simp
        exact hK _ _ (hI.quiet 2 _ rfl (fun _ => rfl) (fun h => absurd h (by decide)) (fun h => absurd h (by decide)))
      · intro D x W hi hd hI K hK
        have h2 : x 2 = _ := hI.y 2 (by decide) (hd 2 rfl)
        have c := (hI.t.cell (p := ⟨B, 0, none⟩) HBL.out HBN.out).trans HC0.out
        clear hd
        simp only [h2] at hK
        go_simp
        exact hK _ _ (hI.quiet 3 _ rfl (fun _ => rfl) (fun h => absurd h (by decide)) (fun h => absurd h (by decide)))
      · intro D x W hi hd hI K hK
        clear hd
        go_simp
        exact hK _ _ (hI.quiet 4 _ rfl (fun _ => rfl) (fun h => absurd h (by decide)) (fun h => absurd h (by decide)))
      · intro D x W hi hd hI K hK
        clear hd
        go_simp
        exact hK _ _ (hI.quiet 5 _ rfl (fun _ => rfl) (fun h => absurd h (by decide)) (fun h => absurd h (by decide)))
      · intro D x W hi hd hI K hK
        have h5 : x 5 = _ := hI.y 5 (by decide) (hd 5 rfl)
        clear hd
        simp only [h5] at hK
        go_simp
        exact hK _ _ (hI.quiet 6 _ rfl (fun _ => rfl) (fun h => absurd h (by decide)) (fun h => absurd h (by decide)))
      · intro D x W hi hd hI K hK
        have h6 : x 6 = _ := hI.y 6 (by decide) (hd 6 rfl)
        clear hd
        simp only [h6] at hK
        go_simp
        exact hK _ _ (hI.quiet 7 _ rfl (fun _ => rfl) (fun h => absurd h (by decide)) (fun h => absurd h (by decide)))
      · intro D x W hi hd hI K hK
        have h7 : x 7 = _ := hI.y 7 (by decide) (hd 7 rfl)
        have c := (hI.t.cell (p := ⟨B, 1, none⟩) HBL.out HBN.out).trans HC1.out
        clear hd
        simp only [h7] at hK
        go_simp
        exact hK _ _ (hI.quiet 8 _ rfl (fun _ => rfl) (fun h => absurd h (by decide)) (fun h => absurd h (by decide)))
      · intro D x W hi hd hI K hK
        clear hd
        go_simp
        exact hK _ _ (hI.quiet 9 _ rfl (fun _ => rfl) (fun h => absurd h (by decide)) (fun h => absurd h (by decide)))
      · intro D x W hi hd hI K hK
        clear hd
        go_simp
        exact hK _ _ (hI.quiet 10 _ rfl (fun _ => rfl) (fun h => absurd h (by decide)) (fun h => absurd h (by decide)))
      · intro D x W hi hd hI K hK
        clear hd
        go_simp
        exact hK _ _ (hI.quiet 11 _ rfl (fun _ => rfl) (fun h => absurd h (by decide)) (fun h => absurd h (by decide)))
      · intro D x W hi hd hI K hK
        have h3 : x 3 = _ := hI.y 3 (by decide) (hd 3 rfl)
        have h4 : x 4 = _ := hI.y 4 (by decide) (hd 4 rfl)
        obtain ⟨v0, st, W1, hrun, hH, hT⟩ := half9 (hI.s.at_ 0 (by decide) hi (.inl rfl)).1 HF.out n a hn' ha'
        clear hd
        simp only [h3, h4] at hK
        go_simp
        exact hK _ _ (hI.at12 hi hH hT hbc)
      · intro D x W hi hd hI K hK
        have hp := hd 12 rfl
        obtain ⟨v0, st, h12⟩ := hI.e12 hp
        clear hd
        simp only [h12] at hK
        go_simp
        exact hK _ _ (hI.quiet 13 _ rfl (fun h => absurd h (by decide)) (fun _ => ⟨hp, v0, by rw [h12]⟩) (fun h => absurd h (by decide)))
      · intro D x W hi hd hI K hK
        have h3 : x 3 = _ := hI.y 3 (by decide) (hd 3 rfl)
        have h10 : x 10 = _ := hI.y 10 (by decide) (hd 10 rfl)
        obtain ⟨⟨v0, st, e12, hH⟩, hM⟩ := hI.s.at_ 1 (by decide) hi (.inr (hd 12 rfl))
        obtain ⟨_, v1, e13⟩ := hI.e13 (hd 13 rfl)
        have h13 : x 13 = .int .i64 (st : Int) := (by rw [e12] at e13; simpa using e13.symm : v1 = v0 ∧ x 13 = _).2
        obtain ⟨o, ho, hst⟩ := hH
        obtain ⟨W3, hrun, hm3, hT⟩ := hst W ho
        have hd12 := hd 12 rfl
        clear hd e13 e12 hst
        simp only [h3, h13, h10] at hK
        go_simp
        exact hK undef _ (hI.at14 hi hd12 hm3 hT hbc)
      · intro D x W hi hd hI K hK
        have h8 : x 8 = _ := hI.y 8 (by decide) (hd 8 rfl)
        have h9 : x 9 = _ := hI.y 9 (by decide) (hd 9 rfl)
        obtain ⟨v0, st, W1, hrun, hH, hT⟩ := half9 (hI.s.at_ 2 (by decide) hi (.inr (hd 14 rfl))).2 HG.out a n ha' hn'
        have hd14 := hd 14 rfl
        clear hd
        simp only [h8, h9] at hK
        go_simp
        exact hK _ _ (hI.at15 hi hd14 hH hT hbc)
      · intro D x W hi hd hI K hK
        have hp := hd 15 rfl
        obtain ⟨v0, st, h15⟩ := hI.e15 hp
        clear hd
        simp only [h15] at hK
        go_simp
        exact hK _ _ (hI.quiet 16 _ rfl (fun h => absurd h (by decide)) (fun h => absurd h (by decide)) (fun _ => ⟨hp, v0, by rw [h15]⟩))
      · intro D x W hi hd hI K hK
        have h8 : x 8 = _ := hI.y 8 (by decide) (hd 8 rfl)
        have h11 : x 11 = _ := hI.y 11 (by decide) (hd 11 rfl)
        obtain ⟨hM, v0, st, e15, hH⟩ := hI.s.at_ 3 (by decide) hi (.inr (hd 15 rfl))
        obtain ⟨_, v1, e16⟩ := hI.e16 (hd 16 rfl)
        have h16 : x 16 = .int .i64 (st : Int) := (by rw [e15] at e16; simpa using e16.symm : v1 = v0 ∧ x 16 = _).2
        obtain ⟨o, ho, hst⟩ := hH
        obtain ⟨W3, hrun, hm3, hT⟩ := hst W ho
        have hd15 := hd 15 rfl
        clear hd e16 e15 hst
        simp only [h8, h16, h11] at hK
        go_simp
        exact hK undef _ (hI.at17 hi hd15 hm3 hT hbc)
    case fin =>
      intro D x W hall hI
      have HZ := Lib.hid (HEND.out W hI.t (hI.s.done9 (fun r hr => hall _ (by simp at hr; rcases r with _ | _ | _ | _ | r <;> first | decide | omega))).1 (hI.s.done9 (fun r hr => hall _ (by simp at hr; rcases r with _ | _ | _ | _ | r <;> first | decide | omega))).2)
      clear hI hall
      go_end0
      exact ⟨rfl, HZ.out⟩
  | some b =>
    obtain ⟨c, rfl⟩ : ∃ c, q = some c := by
      have := hi.both
      cases q with
      | none => cases this
      | some c => exact ⟨c, rfl⟩
    have hbc := hi.apt b c rfl rfl
    have HB1 := Lib.hid (hi.mapp.map b rfl)
    have HB2 := Lib.hid (hi.mapq.map c rfl)
    have HBL := Lib.hid hi.lt
    have HBN : Hid (¬ (B = b ∨ B = c)) := fun e => e.elim (fun e => hi.pne b rfl e.symm) (fun e => hi.qne c rfl e.symm)
    have HC0 := Lib.hid hi.cell0
    have HC1 := Lib.hid hi.cell1
    have HEND : Hid (∀ W, Turns (fun i => i = b ∨ i = c) w1 W → Map7 W b (putE L n.data.toList a.data.toList) → Map7 W c (putE M1 a.data.toList n.data.toList) → Goes9 w B (some b) (some c) (putE L n.data.toList a.data.toList) W) := fun W hW h1 h2 => by
      refine ⟨some b, some c, _, ⟨(hW.block B HBL.out HBN.out).trans HI.out.blk, ⟨(fun h => nomatch h), fun b' e => by cases e; exact h1⟩, ⟨(fun h => nomatch h), fun b' e => by cases e; exact h2⟩, rfl, (fun _ _ e1 e2 => by cases e1; cases e2; exact hbc), HMIR.out, HLN.out, HALL.out⟩, (fun _ e => .inl e), (fun _ e => .inl e), ?_⟩
      exact HT.out.next hW (fun i _ e => e.elim (fun e => .inr (.inl (by rw [e]))) (fun e => .inr (.inr (by rw [e]))))
    clear hi HI HT HMIR HLN HALL hlp hlq hlt0
    go_wp2
    clear hc0 hq
    generalize w1 = w2 at *
    refine wp_region_gen (by kernel_rfl) (Put9 w2 B b c (delE L n.data.toList) M1 (putE L n.data.toList a.data.toList) (putE M1 a.data.toList n.data.toList) n a) ?F2 ?hF2 (by kernel_rfl) (by kernel_rfl) (fun x => Put9.start x HB1.out HB2.out) ?step2 ?fin2
    case hF2 =>
      intro x
      simp only [List.map_cons, List.map_nil, putL, Act.put, List.setIfInBounds_toArray, List.set_cons_zero, List.set_cons_succ, Nat.zero_add, Nat.reduceAdd]
      exact rfl
    case step2 =>
      rw [← HPD.out]
      refine ⟨?_, ?_, ?_, ?_, ?_, ?_, ?_, ?_, ?_, ?_, ?_, ?_, ?_, ?_, ?_, ?_, ?_, ?_, trivial⟩
      · intro D x W hi hd hI K hK
        clear hd
        go_simp
        exact hK _ _ (hI.quiet 0 _ rfl (fun _ => rfl) (fun h => absurd h (by decide)) (fun h => absurd h (by decide)))
      · intro D x W hi hd hI K hK
        have h0 : x 0 = _ := hI.y 0 (by decide) (hd 0 rfl)
        clear hd
        simp only [h0] at hK
        go_simp
        exact hK _ _ (hI.quiet 1 _ rfl (fun _ => rfl) (fun h => absurd h (by decide)) (fun h => absurd h (by decide)))
      · intro D x W hi hd hI K hK
        have h1 : x 1 = _ := hI.y 1 (by decide) (hd 1 rfl)
        clear hd
        simp only [h1] at hK
        go_simp
        exact hK _ _ (hI.quiet 2 _ rfl (fun _ => rfl) (fun h => absurd h (by decide)) (fun h => absurd h (by decide)))
      · intro D x W hi hd hI K hK
        have h2 : x 2 = _ := hI.y 2 (by decide) (hd 2 rfl)
        have c := (hI.t.cell (p := ⟨B, 0, none⟩) HBL.out HBN.out).trans HC0.out
        clear hd
        simp only [h2] at hK
        go_simp
        exact hK _ _ (hI.quiet 3 _ rfl (fun _ => rfl) (fun h => absurd h (by decide)) (fun h => absurd h (by decide)))
      · intro D x W hi hd hI K hK
        clear hd
        go_simp
        exact hK _ _ (hI.quiet 4 _ rfl (fun _ => rfl) (fun h => absurd h (by decide)) (fun h => absurd h (by decide)))
      · intro D x W hi hd hI K hK
        clear hd
        go_simp
        exact hK _ _ (hI.quiet 5 _ rfl (fun _ => rfl) (fun h => absurd h (by decide)) (fun h => absurd h (by decide)))
      · intro D x W hi hd hI K hK
        have h5 : x 5 = _ := hI.y 5 (by decide) (hd 5 rfl)
        clear hd
        simp only [h5] at hK
        go_simp
        exact hK _ _ (hI.quiet 6 _ rfl (fun _ => rfl) (fun h => absurd h (by decide)) (fun h => absurd h (by decide)))
      · intro D x W hi hd hI K hK
        have h6 : x 6 = _ := hI.y 6 (by decide) (hd 6 rfl)
        clear hd
        simp only [h6] at hK
        go_simp
        exact hK _ _ (hI.quiet 7 _ rfl (fun _ => rfl) (fun h => absurd h (by decide)) (fun h => absurd h (by decide)))
      · intro D x W hi hd hI K hK
        have h7 : x 7 = _ := hI.y 7 (by decide) (hd 7 rfl)
        have c := (hI.t.cell (p := ⟨B, 1, none⟩) HBL.out HBN.out).trans HC1.out
        clear hd
        simp only [h7] at hK
        go_simp
        exact hK _ _ (hI.quiet 8 _ rfl (fun _ => rfl) (fun h => absurd h (by decide)) (fun h => absurd h (by decide)))
      · intro D x W hi hd hI K hK
        clear hd
        go_simp
        exact hK _ _ (hI.quiet 9 _ rfl (fun _ => rfl) (fun h => absurd h (by decide)) (fun h => absurd h (by decide)))
      · intro D x W hi hd hI K hK
        clear hd
        go_simp
        exact hK _ _ (hI.quiet 10 _ rfl (fun _ => rfl) (fun h => absurd h (by decide)) (fun h => absurd h (by decide)))
      · intro D x W hi hd hI K hK
        clear hd
        go_simp
        exact hK _ _ (hI.quiet 11 _ rfl (fun _ => rfl) (fun h => absurd h (by decide)) (fun h => absurd h (by decide)))
      · intro D x W hi hd hI K hK
        have h3 : x 3 = _ := hI.y 3 (by decide) (hd 3 rfl)
        have h4 : x 4 = _ := hI.y 4 (by decide) (hd 4 rfl)
        obtain ⟨v0, st, W1, hrun, hH, hT⟩ := half9 (hI.s.at_ 0 (by decide) hi (.inl rfl)).1 HF.out n a hn' ha'
        clear hd
        simp only [h3, h4] at hK
        go_simp
        exact hK _ _ (hI.at12 hi hH hT hbc)
      · intro D x W hi hd hI K hK
        have hp := hd 12 rfl
        obtain ⟨v0, st, h12⟩ := hI.e12 hp
        clear hd
        simp only [h12] at hK
        go_simp
        exact hK _ _ (hI.quiet 13 _ rfl (fun h => absurd h (by decide)) (fun _ => ⟨hp, v0, by rw [h12]⟩) (fun h => absurd h (by decide)))
      · intro D x W hi hd hI K hK
        have h3 : x 3 = _ := hI.y 3 (by decide) (hd 3 rfl)
        have h10 : x 10 = _ := hI.y 10 (by decide) (hd 10 rfl)
        obtain ⟨⟨v0, st, e12, hH⟩, hM⟩ := hI.s.at_ 1 (by decide) hi (.inr (hd 12 rfl))
        obtain ⟨_, v1, e13⟩ := hI.e13 (hd 13 rfl)
        have h13 : x 13 = .int .i64 (st : Int) := (by rw [e12] at e13; simpa using e13.symm : v1 = v0 ∧ x 13 = _).2
        obtain ⟨o, ho, hst⟩ := hH
        obtain ⟨W3, hrun, hm3, hT⟩ := hst W ho
        have hd12 := hd 12 rfl
        clear hd e13 e12 hst
        simp only [h3, h13, h10] at hK
        go_simp
        exact hK undef _ (hI.at14 hi hd12 hm3 hT hbc)
      · intro D x W hi hd hI K hK
        have h8 : x 8 = _ := hI.y 8 (by decide) (hd 8 rfl)
        have h9 : x 9 = _ := hI.y 9 (by decide) (hd 9 rfl)
        obtain ⟨v0, st, W1, hrun, hH, hT⟩ := half9 (hI.s.at_ 2 (by decide) hi (.inr (hd 14 rfl))).2 HG.out a n ha' hn'
        have hd14 := hd 14 rfl
        clear hd
        simp only [h8, h9] at hK
        go_simp
        exact hK _ _ (hI.at15 hi hd14 hH hT hbc)
      · intro D x W hi hd hI K hK
        have hp := hd 15 rfl
        obtain ⟨v0, st, h15⟩ := hI.e15 hp
        clear hd
        simp only [h15] at hK
        go_simp
        exact hK _ _ (hI.quiet 16 _ rfl (fun h => absurd h (by decide)) (fun h => absurd h (by decide)) (fun _ => ⟨hp, v0, by rw [h15]⟩))
      · intro D x W hi hd hI K hK
        have h8 : x 8 = _ := hI.y 8 (by decide) (hd 8 rfl)
        have h11 : x 11 = _ := hI.y 11 (by decide) (hd 11 rfl)
        obtain ⟨hM, v0, st, e15, hH⟩ := hI.s.at_ 3 (by decide) hi (.inr (hd 15 rfl))
        obtain ⟨_, v1, e16⟩ := hI.e16 (hd 16 rfl)
        have h16 : x 16 = .int .i64 (st : Int) := (by rw [e15] at e16; simpa using e16.symm : v1 = v0 ∧ x 16 = _).2
        obtain ⟨o, ho, hst⟩ := hH
        obtain ⟨W3, hrun, hm3, hT⟩ := hst W ho
        have hd15 := hd 15 rfl
        clear hd e16 e15 hst
        simp only [h8, h16, h11] at hK
        go_simp
        exact hK undef _ (hI.at17 hi hd15 hm3 hT hbc)
    case fin2 =>
      intro D x W hall hI
      have HZ := Lib.hid (HEND.out W hI.t (hI.s.done9 (fun r hr => hall _ (by simp at hr; rcases r with _ | _ | _ | _ | r <;> first | decide | omega))).1 (hI.s.done9 (fun r hr => hall _ (by simp at hr; rcases r with _ | _ | _ | _ | r <;> first | decide | omega))).2)
      clear hI hall
      go_end0
      exact ⟨rfl, HZ.out⟩
end Go.Proofs.YtiodbghokiajjaaDoor

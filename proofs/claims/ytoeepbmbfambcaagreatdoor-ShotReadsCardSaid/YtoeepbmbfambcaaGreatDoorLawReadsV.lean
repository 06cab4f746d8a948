/-
  What this law alone needs, the law walked, and its statement.
  Conditions: each theorem's own.
-/
import Derived.Test.YtoeepbmbfambcaaGreatDoorRows
import Derived.Test.YtoeepbmbfambcaaGreatDoorCards
import Derived.Test.YtoeepbmbfambcaaGreatDoorTie
import Derived.Test.YtoeepbmbfambcaaGreatDoorShotAllA
import Derived.Test.YtoeepbmbfambcaaGreatDoorShotAllB
import Derived.Test.YtoeepbmbfambcaaGreatDoorShotAllC
import Derived.Test.YtoeepbmbfambcaaGreatDoorShotAllD
import Derived.Test.YtoeepbmbfambcaaGreatDoorShotAllE
namespace Go.Proofs.YtoeepbmbfambcaaGreatDoor
open Go.RowKit Go.Maps Go.Sort Go.Shelf

theorem rget8_calls (st : St) (w : World) (hok : Ok st) (hl : st.bs.length ≤ 1000) :
    Calls Tryz.prog 57 #[refV st, .int .i64 1] w fun e w' => e = .returned (.tuple #[refV (getS 1 st).1, (bare7 (tell8 st)).v]) ∧ Turns (fun _ => False) w w' := by
  have l1 := textS_left st 65535
  have f1 := textS_few6 st 65535
  have o1 := hok.text 65535
  have hg := getS18 st
  have ht : tell8 st = if (getS 1 st).1.e = 0 then ((textS st 65535).2, (textS (textS st 65535).1 65535).2) else ([], []) := rfl
  rw [ht, hg]
  clear ht hg
  rcases h1 : textS st 65535 with ⟨s1, nm⟩
  rw [h1] at l1 f1 o1
  have f2 := textS_few6 s1 65535
  dsimp only at l1 f1 o1 ⊢
  rcases h2 : textS s1 65535 with ⟨s2, hs⟩
  rw [h2] at f2
  dsimp only at f2 ⊢
  refine (rget61_one st w nm hs s1 s2 _ h1 h2 rfl hok hl o1 (by omega) (by omega) (by omega)).mono fun e w' ⟨he, hd⟩ => ⟨?_, hd⟩
  rw [he]
  split <;> rfl

/-- The document's GetUsers under way: the reader's block and the answer's, both new since w. -/
structure Rg8 (w : World) (cs zs : Array Value) (W : World) : Prop where
  r : W.heap[w.heap.size]? = some (.cells cs 68 (0, 0))
  z : W.heap[w.heap.size + 1]? = some (.cells zs 68 (0, 0))
  t : Turns (fun _ => False) w W
section
variable {w W W' : World} {cs zs : Array Value} {a b a' b' : Value}
theorem Rg8.start (w : World) (a b : Value) : Rg8 w #[a, b] #[.string ⟨#[]⟩, .int .i64 0] ((w.alloc (.cells #[a, b] 68)).alloc (.cells #[.string ⟨#[]⟩, .int .i64 0] 68)) :=
  ⟨alloc_old6 (alloc_at6 rfl), alloc_at6 (by simp), ((Turns.refl _ _).alloc _).alloc _⟩
theorem Rg8.still (h : Rg8 w cs zs W) (ht : Turns (fun _ => False) W W') : Rg8 w cs zs W' :=
  have k : ∀ {B : Nat} {o : Obj}, W.heap[B]? = some o → W'.heap[B]? = some o := fun hb => (ht.block _ (Array.getElem?_eq_some_iff.1 hb).1 (fun f => f)).trans hb
  ⟨k h.r, k h.z, h.t.next ht (fun _ _ f => f)⟩
theorem Rg8.below (h : Rg8 w cs zs W) (hb : Below W.heap.size W W') : Rg8 w cs zs W' := h.still (Turns.of_below hb _)
theorem Rg8.setR (h : Rg8 w #[a, b] zs W) (a' b' : Value) : Rg8 w #[a', b'] zs ((W.setCell ⟨w.heap.size, 0, none⟩ a').setCell ⟨w.heap.size, 1, none⟩ b') := by
  have hr := h.r
  refine ⟨by simp [World.setCell, Array.getElem?_modify, hr], ?_, (h.t.setCell (p := ⟨w.heap.size, 0, none⟩) (fun hl => absurd hl (by simp)) _).setCell (p := ⟨w.heap.size, 1, none⟩) (fun hl => absurd hl (by simp)) _⟩
  rw [Below.heap_setCell _ _ _ _ (show w.heap.size + 1 ≠ w.heap.size by omega), Below.heap_setCell _ _ _ _ (show w.heap.size + 1 ≠ w.heap.size by omega)]
  exact h.z
theorem Rg8.setZ (h : Rg8 w cs #[a, b] W) (a' b' : Value) : Rg8 w cs #[a', b'] ((W.setCell ⟨w.heap.size + 1, 0, none⟩ a').setCell ⟨w.heap.size + 1, 1, none⟩ b') := by
  have hz := h.z
  refine ⟨?_, by simp [World.setCell, Array.getElem?_modify, hz], (h.t.setCell (p := ⟨w.heap.size + 1, 0, none⟩) (fun hl => absurd hl (by simp)) _).setCell (p := ⟨w.heap.size + 1, 1, none⟩) (fun hl => absurd hl (by simp)) _⟩
  rw [Below.heap_setCell _ _ _ _ (show w.heap.size ≠ w.heap.size + 1 by omega), Below.heap_setCell _ _ _ _ (show w.heap.size ≠ w.heap.size + 1 by omega)]
  exact h.r
theorem Rg8.row (h : Rg8 w cs zs W) (cs' : Array Value) : Rg8 w cs' zs (W.setRow w.heap.size cs') :=
  ⟨setRow_heap W _ _ cs' _ _ h.r, (setRow_other W _ _ cs' (by omega)).trans h.z, h.t.next (S' := fun i => i = w.heap.size) ⟨rfl, rfl, rfl, by simp, fun k _ hk => setRow_other W _ k cs' hk⟩ (fun i hi he => by omega)⟩
end

theorem okGet8 {st : St} (h : Ok st) : Ok (getS 1 st).1 := by
  rw [getS18]
  exact ((h.text 65535).text 65535).fail _
theorem Rg8.apart {w W W' : World} {cs zs : Array Value} {S : Nat → Prop} (h : Rg8 w cs zs W) (ht : Turns S W W') (hS : ∀ i, S i → w.heap.size + 2 ≤ i) : Rg8 w cs zs W' :=
  ⟨(ht.block _ (Array.getElem?_eq_some_iff.1 h.r).1 (fun f => by have := hS _ f; omega)).trans h.r, (ht.block _ (Array.getElem?_eq_some_iff.1 h.z).1 (fun f => by have := hS _ f; omega)).trans h.z, h.t.next ht (fun i hi f => by have := hS _ f; omega)⟩

/-- What the region of the last check makes. -/
def YC8 (ra vv : Value) (ck : Int) (rb : Value) : Nat → Value → World → Prop
  | 0, v, _ => v = ra
  | 1, v, _ => v = vv
  | 2, v, _ => v = .int .i64 1
  | 3, v, _ => v = .int .i64 ck
  | 4, v, _ => v = rb
  | _, _, _ => True
theorem YC8_keep {ra vv : Value} {ck : Int} {rb : Value} {W W' : World} (j : Nat) (z : Value) (h : YC8 ra vv ck rb j z W) : YC8 ra vv ck rb j z W' := by
  match j, h with
  | 0, h => exact h
  | 1, h => exact h
  | 2, h => exact h
  | 3, h => exact h
  | 4, h => exact h
  | _ + 5, h => exact h
/-- The reader's block is stored last; the row of users stays. -/
def GC8 (w : World) (ra rb zs : Array Value) (v : Value) (n : Nat) (xs : List Value) (L : Nat → Bool) (W : World) : Prop :=
  Rg8 w (if L 5 = true then rb else ra) zs W ∧ W.ownsRow (w.heap.size + 2) 43 5 v n xs ∧ (L 5 = true → ∀ j, j < 5 → L j = true)
section
variable {w W W' : World} {ra rb zs : Array Value} {v : Value} {n : Nat} {xs : List Value} {L : Nat → Bool}
theorem GC8.no (h : GC8 w ra rb zs v n xs L W) (i : Nat) (hi : i < 5) (hL : L i = false) : L 5 = false := by
  cases h5 : L 5 with
  | false => rfl
  | true => rw [h.2.2 h5 i hi] at hL; cases hL
theorem GC8.ahead (h : GC8 w ra rb zs v n xs L W) (i : Nat) (hi : i < 5) (hL : L i = false) : Rg8 w ra zs W := by
  have := h.1
  rw [h.no i hi hL] at this
  exact this
theorem GC8.quiet (h : GC8 w ra rb zs v n xs L W) (i : Nat) (hi : i < 5) (hL : L i = false) (hb : Below W.heap.size W W') : GC8 w ra rb zs v n xs (updL L i) W' := by
  have h5 : updL L i 5 = false := by rw [show updL L i 5 = L 5 from if_neg (by omega)]; exact h.no i hi hL
  refine ⟨?_, owns_turns h.2.1 (Nat.le_refl _) (Turns.of_below hb (fun _ => False)) (fun _ _ f => f), fun e => by rw [h5] at e; cases e⟩
  rw [h5]
  exact (h.ahead i hi hL).below hb
theorem GC8.stored (h : GC8 w ra rb zs v n xs L W) (hd : ∀ j, j < 5 → L j = true) : GC8 w ra rb zs v n xs (updL L 5) (W.setRow w.heap.size rb) := by
  refine ⟨?_, owns_turns h.2.1 (Nat.le_refl _) (S := fun i => i = w.heap.size) ⟨rfl, rfl, rfl, by simp, fun k _ hk => setRow_other W _ k rb hk⟩ (fun j hj he => by have he' : j = w.heap.size := he; omega), fun _ j hj => by rw [show updL L 5 j = L j from if_neg (by omega)]; exact hd j hj⟩
  rw [show updL L 5 5 = true from if_pos rfl, if_pos rfl]
  exact h.1.row rb
end

/-- What is told of users. -/
def GotUsers8 (w : World) (g : St × Row7) (e : Ending) (w' : World) : Prop :=
  (∃ A n c, e = .returned (.tuple #[refV g.1, .slice A n c]) ∧ (g.1.e = 0 → n = g.2.length ∧ RdU7 w' A (g.2.map bare7))) ∧ Below w.heap.size w w'

set_option maxRecDepth 100000 in
set_option maxHeartbeats 4000000 in
theorem rgetusers8_bad (st : St) (w : World) (hok : Ok st) (hl : st.bs.length ≤ 1000) (hz : (numS st 2).1.e ≠ 0) :
    Calls Tryz.prog 33 #[refV st, .int .i64 1] w (GotUsers8 w (rowS8 st)) := by
  obtain ⟨i0, hi, hz0, hz1, hz2⟩ := info_parts infoUser7
  have HGT : Hid (∀ W, Calls Tryz.prog 55 #[.agg #[.string ⟨st.bs.toArray⟩, .int .i64 st.e], .int .i64 2] W fun e w' => e = .returned (.tuple #[.agg #[.string ⟨(numS st 2).1.bs.toArray⟩, .int .i64 (numS st 2).1.e], .int .u64 (numS st 2).2]) ∧ Turns (fun _ => False) W w') := fun W => get_calls st 2 2 W hok (by omega) rfl (by omega)
  have hzero := numS_zero hok 2
  have hlt : (numS st 2).2 < 65536 := numS_lt st 2
  have l1 := numS_left st 2
  have o1 := hok.num 2
  obtain ⟨g, hgd⟩ : ∃ g, g = rowS8 st := ⟨_, rfl⟩
  have HGD : Hid (g = if 12 < (numS st 2).2 then (failS (numS st 2).1 7, []) else (failS (usersS (numS st 2).2 (numS st 2).1).1 (ofE ((usersS (numS st 2).2 (numS st 2).1).2.map bare7)), (usersS (numS st 2).2 (numS st 2).1).2)) := hgd
  rw [← hgd]
  generalize (numS st 2).1 = s1 at *
  generalize (numS st 2).2 = n at *
  have hl1 : s1.bs.length ≤ 1000 := by omega
  clear hgd l1 hl hok
  unfold refV
  have HG0 := Lib.hid (Rg8.start w (.string ⟨st.bs.toArray⟩) (.int .i64 st.e))
  have r0 : _ = some (.string ⟨st.bs.toArray⟩ : Value) := cell6 HG0.out.r 0
  have r1 : _ = some (.int .i64 st.e : Value) := cell6 HG0.out.r 1
  go_enter Tryz.func33, Tryz.ntmps33
  go_wp2_with fail
  generalize (w.alloc (.cells #[.string ⟨st.bs.toArray⟩, .int .i64 st.e] 68)).alloc (.cells #[.string ⟨#[]⟩, .int .i64 0] 68) = W0 at *
  with_reducible refine (HGT.out W0).mono ?_
  rintro e w1 ⟨rfl, ht⟩
  have hg := HG0.out.still ht
  clear r0 r1
  have p0 : _ = some (.string ⟨st.bs.toArray⟩ : Value) := cell6 hg.r 0
  have p1 : _ = some (.int .i64 st.e : Value) := cell6 hg.r 1
  have pf := free6 hg.r
  have hg2 := hg.setR (.string ⟨s1.bs.toArray⟩) (.int .i64 s1.e)
  have HG1 := Lib.hid hg2
  have r0 : _ = some (.string ⟨s1.bs.toArray⟩ : Value) := cell6 hg2.r 0
  have r1 : _ = some (.int .i64 s1.e : Value) := cell6 hg2.r 1
  clear hg hg2 ht HG0 HGT
  generalize hW1 : (w1.setCell ⟨w.heap.size, 0, none⟩ (.string ⟨s1.bs.toArray⟩)).setCell ⟨w.heap.size, 1, none⟩ (.int .i64 s1.e) = W1 at *
  obtain rfl : n = 0 := hzero hz
  have hge := HGD.out
  rw [if_neg (by omega)] at hge
  have hge2 : g = (failS s1 (ofE (([] : Row7).map bare7)), []) := hge
  rw [failS_e8 hz] at hge2
  have hb1 : (s1.e == 0) = false := by simpa using hz
  have hb2 : (s1.e != 0) = true := by simpa using hz
  subst hge2
  obtain ⟨t2, e2⟩ := s1
  dsimp only at *
  clear hge HGD hzero hlt o1 hl1 hi hz0 hz1 hz2
  go_wp2
  clear p0 p1 pf hW1
  go_loopg [7, 8, 9, 25] 0 (fun gg s7 _ _ s25 wr => s25 = .int .u64 0 ∧ Hid (Rg8 w #[.string ⟨t2.toArray⟩, .int .i64 e2] #[.string ⟨#[]⟩, .int .i64 0] wr))
  case atStart => exact ⟨by go_num, HG1.out⟩
  case round =>
    clear HG1 r0 r1
    obtain ⟨rfl, HRG⟩ := hrel
    have r0 : _ = some (.string ⟨t2.toArray⟩ : Value) := cell6 HRG.out.r 0
    have r1 : _ = some (.int .i64 e2 : Value) := cell6 HRG.out.r 1
    have q0 : _ = some (.string ⟨#[]⟩ : Value) := cell6 HRG.out.z 0
    have q1 : _ = some (.int .i64 0 : Value) := cell6 HRG.out.z 1
    have qf := free6 HRG.out.z
    have hg2 := HRG.out.setZ (.string ⟨t2.toArray⟩) (.int .i64 e2)
    have y0 : _ = some (.string ⟨t2.toArray⟩ : Value) := cell6 hg2.z 0
    have y1 : _ = some (.int .i64 e2 : Value) := cell6 hg2.z 1
    have HFIN : Hid (GotUsers8 w (⟨t2, e2⟩, []) (.returned (.tuple #[.agg #[.string ⟨t2.toArray⟩, .int .i64 e2], .slice none 0 0])) ((wr.setCell ⟨w.heap.size + 1, 0, none⟩ (.string ⟨t2.toArray⟩)).setCell ⟨w.heap.size + 1, 1, none⟩ (.int .i64 e2))) := ⟨⟨none, 0, 0, rfl, fun h => absurd h hz⟩, hg2.t.below (fun _ f => f.elim)⟩
    clear hg2 HRG hz
    go_wp2
    refine bodyPost_ret (v := .tuple #[.agg #[.string ⟨t2.toArray⟩, .int .i64 e2], .slice none 0 0]) ?_ rfl HFIN.out
    simp [results, Tryz.results33, go_sem, y0, y1]

set_option maxRecDepth 100000 in
set_option maxHeartbeats 16000000 in
theorem rgetusers8_ok (st : St) (w : World) (hok : Ok st) (hl : st.bs.length ≤ 1000) (hz : (numS st 2).1.e = 0) :
    Calls Tryz.prog 33 #[refV st, .int .i64 1] w (GotUsers8 w (rowS8 st)) := by
  obtain ⟨i0, hi, hz0, hz1, hz2⟩ := info_parts infoUser7
  have HGT : Hid (∀ W, Calls Tryz.prog 55 #[.agg #[.string ⟨st.bs.toArray⟩, .int .i64 st.e], .int .i64 2] W fun e w' => e = .returned (.tuple #[.agg #[.string ⟨(numS st 2).1.bs.toArray⟩, .int .i64 (numS st 2).1.e], .int .u64 (numS st 2).2]) ∧ Turns (fun _ => False) W w') := fun W => get_calls st 2 2 W hok (by omega) rfl (by omega)
  have hzero := numS_zero hok 2
  have hlt : (numS st 2).2 < 65536 := numS_lt st 2
  have l1 := numS_left st 2
  have o1 := hok.num 2
  obtain ⟨g, hgd⟩ : ∃ g, g = rowS8 st := ⟨_, rfl⟩
  have HGD : Hid (g = if 12 < (numS st 2).2 then (failS (numS st 2).1 7, []) else (failS (usersS (numS st 2).2 (numS st 2).1).1 (ofE ((usersS (numS st 2).2 (numS st 2).1).2.map bare7)), (usersS (numS st 2).2 (numS st 2).1).2)) := hgd
  rw [← hgd]
  generalize (numS st 2).1 = s1 at *
  generalize (numS st 2).2 = n at *
  have hl1 : s1.bs.length ≤ 1000 := by omega
  clear hgd l1 hl hok
  unfold refV
  have HG0 := Lib.hid (Rg8.start w (.string ⟨st.bs.toArray⟩) (.int .i64 st.e))
  have r0 : _ = some (.string ⟨st.bs.toArray⟩ : Value) := cell6 HG0.out.r 0
  have r1 : _ = some (.int .i64 st.e : Value) := cell6 HG0.out.r 1
  go_enter Tryz.func33, Tryz.ntmps33
  go_wp2_with fail
  generalize (w.alloc (.cells #[.string ⟨st.bs.toArray⟩, .int .i64 st.e] 68)).alloc (.cells #[.string ⟨#[]⟩, .int .i64 0] 68) = W0 at *
  with_reducible refine (HGT.out W0).mono ?_
  rintro e w1 ⟨rfl, ht⟩
  have hg := HG0.out.still ht
  clear r0 r1
  have p0 : _ = some (.string ⟨st.bs.toArray⟩ : Value) := cell6 hg.r 0
  have p1 : _ = some (.int .i64 st.e : Value) := cell6 hg.r 1
  have pf := free6 hg.r
  have hg2 := hg.setR (.string ⟨s1.bs.toArray⟩) (.int .i64 s1.e)
  have HG1 := Lib.hid hg2
  have r0 : _ = some (.string ⟨s1.bs.toArray⟩ : Value) := cell6 hg2.r 0
  have r1 : _ = some (.int .i64 s1.e : Value) := cell6 hg2.r 1
  clear hg hg2 ht HG0 HGT
  generalize hW1 : (w1.setCell ⟨w.heap.size, 0, none⟩ (.string ⟨s1.bs.toArray⟩)).setCell ⟨w.heap.size, 1, none⟩ (.int .i64 s1.e) = W1 at *
  by_cases h12 : 12 < n
  · have hs0 : s1.e = 0 := hz
    clear hz
    have hz12 : (n : Int) > 12 := by omega
    have hge := HGD.out
    rw [if_pos h12] at hge
    have HF : Hid (∀ W, Calls Tryz.prog 56 #[.agg #[.string ⟨s1.bs.toArray⟩, .int .i64 s1.e], .int .i64 7] W fun e w' => e = .returned (.agg #[.string ⟨(failS s1 7).bs.toArray⟩, .int .i64 (failS s1 7).e]) ∧ Turns (fun _ => False) W w') := fun W => reffail_calls s1 7 W
    have hne : (failS s1 7).e ≠ 0 := fun h => by
      obtain ⟨h1, _⟩ := failS_zero8 h
      cases h1
    rw [show failS s1 7 = g.1 by rw [hge]] at HF hne
    have HNE := Lib.hid hne
    clear hge HGD hne hzero hlt o1 hl1 hi hz0 hz1 hz2
    obtain ⟨t1, e1⟩ := s1
    obtain ⟨⟨t2, e2⟩, L2⟩ := g
    dsimp only at *
    subst hs0
    go_wp2_with fail
    with_reducible refine (HF.out W1).mono ?_
    rintro e w2 ⟨rfl, ht⟩
    have hg := HG1.out.still ht
    clear r0 r1 p0 p1 pf hW1
    have q0 : _ = some (.string ⟨#[]⟩ : Value) := cell6 hg.z 0
    have q1 : _ = some (.int .i64 0 : Value) := cell6 hg.z 1
    have qf := free6 hg.z
    have hg2 := hg.setZ (.string ⟨t2.toArray⟩) (.int .i64 e2)
    have y0 : _ = some (.string ⟨t2.toArray⟩ : Value) := cell6 hg2.z 0
    have y1 : _ = some (.int .i64 e2 : Value) := cell6 hg2.z 1
    have HFIN : Hid (GotUsers8 w (⟨t2, e2⟩, L2) (.returned (.tuple #[.agg #[.string ⟨t2.toArray⟩, .int .i64 e2], .slice none 0 0])) ((w2.setCell ⟨w.heap.size + 1, 0, none⟩ (.string ⟨t2.toArray⟩)).setCell ⟨w.heap.size + 1, 1, none⟩ (.int .i64 e2))) := ⟨⟨none, 0, 0, rfl, fun h => absurd h HNE.out⟩, hg2.t.below (fun _ f => f.elim)⟩
    clear hg hg2 HG1 HF HNE ht
    go_wp2
    refine bodyPost_ret (v := .tuple #[.agg #[.string ⟨t2.toArray⟩, .int .i64 e2], .slice none 0 0]) ?_ rfl HFIN.out
    simp [results, Tryz.results33, go_sem, y0, y1]
  have hz12 : ¬ (n : Int) > 12 := by omega
  have hge := HGD.out
  rw [if_neg h12] at hge
  have HUS : Hid (∃ (acc : Row7), acc.length = 0 ∧ s1.bs.length ≤ 1000 ∧ Ok s1 ∧ usersS n s1 = ((usersS (n - 0) s1).1, acc ++ (usersS (n - 0) s1).2)) := ⟨[], rfl, hl1, o1, rfl⟩
  obtain ⟨us, hus⟩ : ∃ us, us = usersS n s1 := ⟨_, rfl⟩
  rw [← hus] at hge HUS
  have HGE : Hid (g = (failS us.1 (ofE (us.2.map bare7)), us.2)) := hge
  have HLN : Hid (us.2.length = n) := by rw [hus]; exact usersS_length8 n s1
  have HSH : Hid (∀ q ∈ us.2, q.1.length ≤ 1000 ∧ q.2.length ≤ 1000) := by rw [hus]; exact usersS_short n s1 hl1
  have hn12 : n ≤ 12 := by omega
  have hb1 : (s1.e == 0) = true := by simpa using hz
  clear hus hge HGD hzero hlt o1 hl1 h12 hz
  go_wp2
  clear p0 p1 pf hW1
  go_loopg [7, 8, 9, 25] n (fun gg s7 _ _ s25 wr => ∃ (k : Nat) (acc : Row7) (sk : St), k ≤ n ∧ n - k ≤ gg ∧ s25 = .int .u64 k ∧ Hid (acc.length = k ∧ sk.bs.length ≤ 1000 ∧ Ok sk ∧ us = ((usersS (n - k) sk).1, acc ++ (usersS (n - k) sk).2)) ∧ Hid (Rg8 w #[.string ⟨sk.bs.toArray⟩, .int .i64 sk.e] #[.string ⟨#[]⟩, .int .i64 0] wr) ∧ Hid (wr.ownsRow (w.heap.size + 2) 43 5 s7 k (ucells (acc.map bare7))))
  case atStart =>
    obtain ⟨acc, h0, h1, h2, h3⟩ := HUS.out
    have : acc = [] := List.eq_nil_of_length_eq_zero h0
    subst this
    exact ⟨0, [], s1, Nat.zero_le _, by omega, by go_num, ⟨rfl, h1, h2, h3⟩, HG1.out, World.ownsRow_nil _ _ _ _⟩
  case round =>
    clear HUS HG1 r0 r1 hb1
    obtain ⟨k, acc, sk, hk, hg, rfl, HAC, HRG, HO⟩ := hrel
    by_cases hlt : k < n
    · have hltz : (k : Int) < (n : Int) := by omega
      have hac := HAC.out
      rw [show n - k = (n - (k + 1)) + 1 by omega] at hac
      have HGT : Hid (∀ W, Calls Tryz.prog 57 #[.agg #[.string ⟨sk.bs.toArray⟩, .int .i64 sk.e], .int .i64 1] W fun e w' => e = .returned (.tuple #[.agg #[.string ⟨(getS 1 sk).1.bs.toArray⟩, .int .i64 (getS 1 sk).1.e], .agg #[.string (tx7 (tell8 sk).1), .string (tx7 (tell8 sk).2), .string ⟨#[]⟩, .bool false, .slice none 0 0]]) ∧ Turns (fun _ => False) W w') := fun W => rget8_calls sk W hac.2.2.1 hac.2.1
      have r0 : _ = some (.string ⟨sk.bs.toArray⟩ : Value) := cell6 HRG.out.r 0
      have r1 : _ = some (.int .i64 sk.e : Value) := cell6 HRG.out.r 1
      go_wp2_with fail
      with_reducible refine (HGT.out wr).mono ?_
      rintro e w2 ⟨rfl, ht⟩
      clear r0 r1
      have HAC2 : Hid ((acc ++ [tell8 sk]).length = k + 1 ∧ (getS 1 sk).1.bs.length ≤ 1000 ∧ Ok (getS 1 sk).1 ∧ us = ((usersS (n - (k + 1)) (getS 1 sk).1).1, (acc ++ [tell8 sk]) ++ (usersS (n - (k + 1)) (getS 1 sk).1).2)) :=
        ⟨by rw [List.length_append, hac.1]; rfl, Nat.le_trans (getS1_left8 sk) hac.2.1, okGet8 hac.2.2.1, by rw [List.append_assoc]; exact hac.2.2.2⟩
      have HT : Hid (ucells ((acc ++ [tell8 sk]).map bare7) = ucells (acc.map bare7) ++ [.string (tx7 (tell8 sk).1), .string (tx7 (tell8 sk).2), .string ⟨#[]⟩, .bool false, .slice none 0 0]) := by
        show _ = _
        rw [List.map_append]
        exact ucells_snoc _ _
      clear hac HAC HGT
      generalize acc ++ [tell8 sk] = acc2 at *
      generalize (getS 1 sk).1 = s2 at *
      generalize tx7 (tell8 sk).1 = sn at *
      generalize tx7 (tell8 sk).2 = sh at *
      have HG3 := Lib.hid ((HRG.out.still ht).still (((Turns.refl (fun _ => False) w2).alloc (.cells #[.string ⟨s2.bs.toArray⟩, .int .i64 s2.e] 68)).alloc (.cells #[.string sn, .string sh, .string ⟨#[]⟩, .bool false, .slice none 0 0] 43)))
      have p0 : _ = some (.string ⟨sk.bs.toArray⟩ : Value) := cell6 HG3.out.r 0
      have p1 : _ = some (.int .i64 sk.e : Value) := cell6 HG3.out.r 1
      have pf := free6 HG3.out.r
      have hG4 := HG3.out.setR (.string ⟨s2.bs.toArray⟩) (.int .i64 s2.e)
      have HG4 := Lib.hid hG4
      have hsz : w.heap.size + 2 ≤ w2.heap.size := by
        have h1 := (Array.getElem?_eq_some_iff.1 (HRG.out.still ht).z).1
        omega
      have hu : ((((w2.alloc (.cells #[.string ⟨s2.bs.toArray⟩, .int .i64 s2.e] 68)).alloc (.cells #[.string sn, .string sh, .string ⟨#[]⟩, .bool false, .slice none 0 0] 43)).setCell ⟨w.heap.size, 0, none⟩ (.string ⟨s2.bs.toArray⟩)).setCell ⟨w.heap.size, 1, none⟩ (.int .i64 s2.e)).heap[w2.heap.size + 1]? = some (.cells #[.string sn, .string sh, .string ⟨#[]⟩, .bool false, .slice none 0 0] 43 (0, 0)) := by
        rw [Below.heap_setCell _ _ _ _ (show w2.heap.size + 1 ≠ w.heap.size by omega), Below.heap_setCell _ _ _ _ (show w2.heap.size + 1 ≠ w.heap.size by omega)]
        exact alloc_at6 (by simp)
      have k0 : _ = some (.string sn : Value) := cell6 hu 0
      have k1 : _ = some (.string sh : Value) := cell6 hu 1
      have k2 : _ = some (.string ⟨#[]⟩ : Value) := cell6 hu 2
      have k3 : _ = some (.bool false : Value) := cell6 hu 3
      have k4 : _ = some (.slice none 0 0 : Value) := cell6 hu 4
      have HO4 : Hid (((((w2.alloc (.cells #[.string ⟨s2.bs.toArray⟩, .int .i64 s2.e] 68)).alloc (.cells #[.string sn, .string sh, .string ⟨#[]⟩, .bool false, .slice none 0 0] 43)).setCell ⟨w.heap.size, 0, none⟩ (.string ⟨s2.bs.toArray⟩)).setCell ⟨w.heap.size, 1, none⟩ (.int .i64 s2.e)).ownsRow (w.heap.size + 2) 43 5 u7 k (ucells (acc.map bare7))) := by
        have ht2 : Turns (fun i => i = w.heap.size) wr ((((w2.alloc (.cells #[.string ⟨s2.bs.toArray⟩, .int .i64 s2.e] 68)).alloc (.cells #[.string sn, .string sh, .string ⟨#[]⟩, .bool false, .slice none 0 0] 43)).setCell ⟨w.heap.size, 0, none⟩ (.string ⟨s2.bs.toArray⟩)).setCell ⟨w.heap.size, 1, none⟩ (.int .i64 s2.e)) := ((((ht.mono (S' := fun i => i = w.heap.size) (fun _ _ f => f.elim)).alloc _).alloc _).setCell (p := ⟨w.heap.size, 0, none⟩) (fun _ => rfl) _).setCell (p := ⟨w.heap.size, 1, none⟩) (fun _ => rfl) _
        exact owns_turns HO.out (Nat.le_refl _) ht2 (fun j hj he => by have he' : j = w.heap.size := he; omega)
      have hszr : w.heap.size + 2 ≤ ((((w2.alloc (.cells #[.string ⟨s2.bs.toArray⟩, .int .i64 s2.e] 68)).alloc (.cells #[.string sn, .string sh, .string ⟨#[]⟩, .bool false, .slice none 0 0] 43)).setCell ⟨w.heap.size, 0, none⟩ (.string ⟨s2.bs.toArray⟩)).setCell ⟨w.heap.size, 1, none⟩ (.int .i64 s2.e)).heap.size := by simp; omega
      have HSZ := Lib.hid hszr
      clear hG4 hu HO HRG HG3 ht hszr
      go_wp2_with (first
        | (at_builtin; refine wpList_append_own _ rfl _ _ 22 rfl (w.heap.size + 2) 43 i0 (.agg #[.string ⟨#[]⟩, .string ⟨#[]⟩, .string ⟨#[]⟩, .bool false, .slice none 0 0]) 5 80 Tryz.underlying22 hi hz0 hz1 hz2 rfl (by decide) _ _ _ rfl (HO4.out.alloc _) _ 1 1 [.string sn, .string sh, .string ⟨#[]⟩, .bool false, .slice none 0 0] rfl rfl
            (fun j u hu => by rw [Addr.add_lit, Nat.zero_add, World.cell?_alloc_at _ _ _ _ (by simp)]; simpa using hu) (by simp [Value.oneCell']) (by unfold maxLen; omega) (by omega) (by simp; omega) ?_
           intro v' w3 hown' hgrow _
           have HO5 := Lib.hid hown'
           have HG5 := Lib.hid hgrow
           clear hown' hgrow)
        | fail)
      go_roundg (n - (k + 1))
      case measure => omega
      case rel =>
        refine ⟨k + 1, acc2, s2, by omega, by omega, by go_num, HAC2, ?_, (show Hid _ from by rw [HT.out]; exact HO5.out)⟩
        exact Lib.hid (HG4.out.apart (((Turns.refl (fun i => u7.ownBlock = some i) _).alloc _).grown HG5.out (fun k hk _ => hk)) (fun i hi => (HO4.out.lt i hi).1))
    · have hltz : ¬ (k : Int) < (n : Int) := by omega
      obtain rfl : k = n := by omega
      have hac := HAC.out
      rw [Nat.sub_self] at hac
      have e1 : us.1 = sk := by rw [hac.2.2.2]; rfl
      have e2 : us.2 = acc := by rw [hac.2.2.2]; exact List.append_nil acc
      have hge := HGE.out
      rw [e1, e2] at hge
      have HGE2 := Lib.hid hge
      have HSH2 := HSH
      rw [e2] at HSH2
      have HLA := Lib.hid hac.1
      obtain ⟨A, c, rfl⟩ := owns_shape (owns_turns (b1 := 0) HO.out (Nat.zero_le _) (Turns.refl (fun _ => False) wr) (fun _ _ f => f))
      clear hac e1 e2 HAC hge HGE HSH HLN hi hz0 hz1 hz2
      have HRO : Hid (∀ W, RdU7 W A (acc.map bare7) → Calls Tryz.prog 19 #[.slice A k c, .int .i64 1] W (Errs5 (ofE (acc.map bare7)) W)) := fun W hr => rof7_calls A c k (acc.map bare7) W (by rw [List.length_map]; exact HLA.out.symm) (by omega) hr (fun u hu => by
        obtain ⟨q, hq, rfl⟩ := List.mem_map.1 hu
        exact bare_ok_short (HSH2.out q hq)) (fun u hu => by
        obtain ⟨q, hq, rfl⟩ := List.mem_map.1 hu
        obtain ⟨h1, h2⟩ := HSH2.out q hq
        refine ⟨?_, ?_, Nat.zero_le _, fun g hg => by cases hg⟩
        · show (tx7 q.1).size ≤ 1000
          rw [← size_list, tx7_list]
          exact h1
        · show (tx7 q.2).size ≤ 1000
          rw [← size_list, tx7_list]
          exact h2)
      have HOU : Hid (∀ W, W.ownsRow (w.heap.size + 2) 43 5 (.slice A k c) k (ucells (acc.map bare7)) → k = acc.length ∧ RdU7 W A (acc.map bare7)) := fun W ho => ⟨HLA.out.symm, owns_users ho (by rw [List.length_map]; exact HLA.out.symm)⟩
      clear HSH2 HLA
      have r0 : _ = some (.string ⟨sk.bs.toArray⟩ : Value) := cell6 HRG.out.r 0
      have r1 : _ = some (.int .i64 sk.e : Value) := cell6 HRG.out.r 1
      have rf := free6 HRG.out.r
      obtain ⟨tb, te⟩ := sk
      obtain ⟨⟨t2, e2⟩, L2⟩ := g
      dsimp only at *
      by_cases h0 : te = 0
      case neg =>
        have hz : (te == 0) = false := by simpa using h0
        have hz' : (te != 0) = true := by simpa using h0
        have hge := HGE2.out
        rw [failS_e8 h0] at hge
        obtain ⟨h1, rfl⟩ := Prod.mk.inj hge
        obtain ⟨rfl, rfl⟩ := St.mk.inj h1
        have q0 : _ = some (.string ⟨#[]⟩ : Value) := cell6 HRG.out.z 0
        have q1 : _ = some (.int .i64 0 : Value) := cell6 HRG.out.z 1
        have qf := free6 HRG.out.z
        have hg2 := HRG.out.setZ (.string ⟨t2.toArray⟩) (.int .i64 e2)
        have y0 : _ = some (.string ⟨t2.toArray⟩ : Value) := cell6 hg2.z 0
        have y1 : _ = some (.int .i64 e2 : Value) := cell6 hg2.z 1
        have HFIN : Hid (GotUsers8 w (⟨t2, e2⟩, L2) (.returned (.tuple #[.agg #[.string ⟨t2.toArray⟩, .int .i64 e2], .slice none 0 0])) ((wr.setCell ⟨w.heap.size + 1, 0, none⟩ (.string ⟨t2.toArray⟩)).setCell ⟨w.heap.size + 1, 1, none⟩ (.int .i64 e2))) := ⟨⟨none, 0, 0, rfl, fun h => absurd h h0⟩, hg2.t.below (fun _ f => f.elim)⟩
        clear hg2 h0 hge h1 HGE2 HRG HRO HOU HO
        go_wp2
        refine bodyPost_ret (v := .tuple #[.agg #[.string ⟨t2.toArray⟩, .int .i64 e2], .slice none 0 0]) ?_ rfl HFIN.out
        simp [results, Tryz.results33, go_sem, y0, y1]
      subst h0
      have hge := HGE2.out
      obtain ⟨h1, rfl⟩ := Prod.mk.inj hge
      have HFL : Hid (∀ W, Calls Tryz.prog 56 #[.agg #[.string ⟨tb.toArray⟩, .int .i64 0], .int .i64 (ofE (L2.map bare7))] W fun e w' => e = .returned (.agg #[.string ⟨t2.toArray⟩, .int .i64 e2]) ∧ Turns (fun _ => False) W w') := fun W => by
        have := reffail_calls ⟨tb, 0⟩ (ofE (L2.map bare7)) W
        rw [← h1] at this
        exact this
      clear hge h1 HGE2 r0 r1 rf
      have r1 : _ = some (.int .i64 0 : Value) := cell6 HRG.out.r 1
      have HXS : Hid (ucells (L2.map bare7) = ucells (L2.map bare7)) := rfl
      clear HXS
      generalize ofE (L2.map bare7) = oe at *
      go_wp2_with fail
      clear r1
      refine wp_region_st2 (by kernel_rfl) (YC8 (.agg #[.string ⟨tb.toArray⟩, .int .i64 0]) (.slice A k c) oe (.agg #[.string ⟨t2.toArray⟩, .int .i64 e2])) (GC8 w #[.string ⟨tb.toArray⟩, .int .i64 0] #[.string ⟨t2.toArray⟩, .int .i64 e2] #[.string ⟨#[]⟩, .int .i64 0] (.slice A k c) k (ucells (L2.map bare7))) ?F ?hF (by kernel_rfl) (by kernel_rfl) ⟨HRG.out.still ((Turns.refl _ _).drew), owns_turns HO.out (Nat.le_refl _) ((Turns.refl (fun _ => False) _).drew) (fun _ _ f => f), fun h => by cases h⟩ ?step ?fin
      case hF =>
        intro x
        simp only [List.map_cons, List.map_nil, putL, Act.put, List.setIfInBounds_toArray, List.set_cons_zero, List.set_cons_succ, Nat.zero_add, Nat.reduceAdd]
        exact rfl
      case step =>
        refine ⟨?_, ?_, ?_, ?_, ?_, ?_, trivial⟩
        all_goals intro L x W hL hd hG hdep K hK
        · have hg := hG.ahead 0 (by omega) hL
          have r0 : W.cell? ⟨w.heap.size, 0, none⟩ = some (.string ⟨tb.toArray⟩) := cell6 hg.r 0
          have r1 : W.cell? ⟨w.heap.size, 1, none⟩ = some (.int .i64 0) := cell6 hg.r 1
          clear hdep hg
          go_simp
          exact hK _ _ rfl (hG.quiet 0 (by omega) hL (Below.refl _ _)) (fun _ _ h => h)
        · clear hdep
          go_simp
          exact hK _ _ rfl (hG.quiet 1 (by omega) hL (Below.refl _ _)) (fun _ _ h => h)
        · clear hdep
          go_simp
          exact hK _ _ rfl (hG.quiet 2 (by omega) hL (Below.refl _ _)) (fun _ _ h => h)
        · have h1 : x 1 = _ := hdep 1 rfl
          have h2 : x 2 = _ := hdep 2 rfl
          clear hdep
          simp only [h1, h2] at hK
          go_simp
          refine (HRO.out W (HOU.out W hG.2.1).2).mono ?_
          rintro e W' ⟨rfl, hb⟩
          exact hK _ _ rfl (hG.quiet 3 (by omega) hL hb) (fun j _ h => YC8_keep j _ h)
        · have h0 : x 0 = _ := hdep 0 rfl
          have h3 : x 3 = _ := hdep 3 rfl
          clear hdep
          simp only [h0, h3] at hK
          go_simp
          refine (HFL.out W).mono ?_
          rintro e W' ⟨rfl, ht⟩
          exact hK _ _ rfl (hG.quiet 4 (by omega) hL (ht.below (fun _ f => f.elim))) (fun j _ h => YC8_keep j _ h)
        · have h4 : x 4 = .agg #[.string ⟨t2.toArray⟩, .int .i64 e2] := hdep 4 rfl
          have hd0 : ∀ j, j < 5 → L j = true := fun j hj => hd j (by rcases j with _ | _ | _ | _ | _ | j <;> first | rfl | omega)
          refine step_store6 (by rfl) 68 (.tmp 2) (.tmp 46) rfl w.heap.size rfl _ h4 _ _ hG.1.r size6R (ite_block rfl rfl) (by simp [Value.oneCell']) ?_
          exact hK _ _ trivial (hG.stored hd0) (fun j _ h => YC8_keep j _ h)
      case fin =>
        intro L x W8 hall hG hY
        have hg := hG.1
        rw [hall 5 (by decide), if_pos rfl] at hg
        have HG8 := Lib.hid hg
        have HO8 := Lib.hid hG.2.1
        have r0 : _ = some (.string ⟨t2.toArray⟩ : Value) := cell6 hg.r 0
        have r1 : _ = some (.int .i64 e2 : Value) := cell6 hg.r 1
        clear hY hG hg hall HFL HRO HRG HO
        by_cases h0 : e2 = 0
        · have hz' : (e2 != 0) = false := by simpa using h0
          subst h0
          have q0 : _ = some (.string ⟨#[]⟩ : Value) := cell6 HG8.out.z 0
          have q1 : _ = some (.int .i64 0 : Value) := cell6 HG8.out.z 1
          have qf := free6 HG8.out.z
          have hg2 := HG8.out.setZ (.string ⟨t2.toArray⟩) (.int .i64 0)
          have y0 : _ = some (.string ⟨t2.toArray⟩ : Value) := cell6 hg2.z 0
          have y1 : _ = some (.int .i64 0 : Value) := cell6 hg2.z 1
          have HFIN : Hid (GotUsers8 w (⟨t2, 0⟩, L2) (.returned (.tuple #[.agg #[.string ⟨t2.toArray⟩, .int .i64 0], .slice A k c])) ((W8.setCell ⟨w.heap.size + 1, 0, none⟩ (.string ⟨t2.toArray⟩)).setCell ⟨w.heap.size + 1, 1, none⟩ (.int .i64 0))) := ⟨⟨A, k, c, rfl, fun _ => HOU.out _ (owns_turns HO8.out (Nat.le_refl _) (((Turns.refl (fun i => i = w.heap.size + 1) W8).setCell (p := ⟨w.heap.size + 1, 0, none⟩) (fun _ => rfl) _).setCell (p := ⟨w.heap.size + 1, 1, none⟩) (fun _ => rfl) _) (fun j hj he => by have he' : j = w.heap.size + 1 := he; omega))⟩, hg2.t.below (fun _ f => f.elim)⟩
          clear hg2 HG8 HO8 HOU
          go_wp2
          refine bodyPost_ret (v := .tuple #[.agg #[.string ⟨t2.toArray⟩, .int .i64 0], .slice A k c]) ?_ rfl HFIN.out
          simp [results, Tryz.results33, go_sem, y0, y1]
        · have hz' : (e2 != 0) = true := by simpa using h0
          have q0 : _ = some (.string ⟨#[]⟩ : Value) := cell6 HG8.out.z 0
          have q1 : _ = some (.int .i64 0 : Value) := cell6 HG8.out.z 1
          have qf := free6 HG8.out.z
          have hg2 := HG8.out.setZ (.string ⟨t2.toArray⟩) (.int .i64 e2)
          have y0 : _ = some (.string ⟨t2.toArray⟩ : Value) := cell6 hg2.z 0
          have y1 : _ = some (.int .i64 e2 : Value) := cell6 hg2.z 1
          have HFIN : Hid (GotUsers8 w (⟨t2, e2⟩, L2) (.returned (.tuple #[.agg #[.string ⟨t2.toArray⟩, .int .i64 e2], .slice none 0 0])) ((W8.setCell ⟨w.heap.size + 1, 0, none⟩ (.string ⟨t2.toArray⟩)).setCell ⟨w.heap.size + 1, 1, none⟩ (.int .i64 e2))) := ⟨⟨none, 0, 0, rfl, fun h => absurd h h0⟩, hg2.t.below (fun _ f => f.elim)⟩
          clear hg2 HG8 HO8 HOU h0
          go_wp2
          refine bodyPost_ret (v := .tuple #[.agg #[.string ⟨t2.toArray⟩, .int .i64 e2], .slice none 0 0]) ?_ rfl HFIN.out
          simp [results, Tryz.results33, go_sem, y0, y1]

theorem rgetusers8_calls (st : St) (w : World) (hok : Ok st) (hl : st.bs.length ≤ 1000) :
    Calls Tryz.prog 33 #[refV st, .int .i64 1] w (GotUsers8 w (rowS8 st)) := by
  by_cases h : (numS st 2).1.e = 0
  · exact rgetusers8_ok st w hok hl h
  · exact rgetusers8_bad st w hok hl h
end Go.Proofs.YtoeepbmbfambcaaGreatDoor

namespace Go.Proofs.YtoeepbmbfambcaaGreatDoor
open Go.RowKit Go.Maps Go.Sort Go.Shelf

/-- What each operation makes. -/
def YRr8 (B : Nat) (te : Int) : Nat → Value → World → Prop
  | 0, v, _ => v = .pointer (some ⟨B, 1, none⟩)
  | 1, v, _ => v = .int .i64 te
  | 2, v, _ => v = .slice none 0 0
  | _, v, _ => v = .int .i64 te
theorem YRr8_keep {B : Nat} {te : Int} {W W' : World} (_hb : Below W.heap.size W W') (j : Nat) (z : Value) (h : YRr8 B te j z W) : YRr8 B te j z W' := by
  match j, h with
  | 0, h => exact h
  | 1, h => exact h
  | 2, h => exact h
  | _ + 3, h => exact h
/-- What the document's Read tells. -/
def RRead8 (w : World) (r : Int × Row7) (e : Ending) (w' : World) : Prop :=
  (∃ A n c, e = .returned (.tuple #[.slice A n c, .int .i64 r.1]) ∧ (r.1 = 0 → n = r.2.length ∧ RdU7 w' A (r.2.map bare7))) ∧ Below w.heap.size w w'

set_option maxRecDepth 100000 in
set_option maxHeartbeats 4000000 in
theorem rread8_calls (bs : List UInt8) (w : World) (hl : bs.length ≤ 1000) :
    Calls Tryz.prog 15 #[.string ⟨bs.toArray⟩] w (RRead8 w (readS bs)) := by
  cases bs with
  | nil =>
    have HF : Hid (RRead8 w (readS []) (.returned (.tuple #[.slice none 0 0, .int .i64 2])) w) := ⟨⟨none, 0, 0, rfl, fun h => by cases h⟩, Below.refl _ _⟩
    generalize readS [] = r at *
    show Calls Tryz.prog 15 #[.string ⟨#[]⟩] w (RRead8 w r)
    go_enter Tryz.func15, Tryz.ntmps15
    go_wp2
    go_ret2
    exact HF.out
  | cons b t =>
    have HGU : Hid (∀ W, Calls Tryz.prog 33 #[.agg #[.string ⟨t.toArray⟩, .int .i64 0], .int .i64 1] W (GotUsers8 W (rowS8 ⟨t, 0⟩))) := fun W => rgetusers8_calls ⟨t, 0⟩ W (fun h => absurd rfl h) (by simp at hl; show t.length ≤ 1000; omega)
    have HRE : Hid (readS (b :: t) = if b = 1 then endS8 (rowS8 ⟨t, 0⟩) else (6, [])) := readS_cons b t
    obtain ⟨out, hout⟩ : ∃ out, out = readS (b :: t) := ⟨_, rfl⟩
    rw [← hout] at HRE ⊢
    clear hout
    go_enter Tryz.func15, Tryz.ntmps15
    have hx : (⟨(b :: t).toArray⟩ : ByteArray).extract 1 (t.length + 1) = ⟨t.toArray⟩ := by
      apply ByteArray.ext
      simp
    have hidx : ((⟨(b :: t).toArray⟩ : ByteArray)[0]'(by show 0 < (b :: t).toArray.size; simp)).toNat = b.toNat := rfl
    by_cases hb : b = 1
    · have hre := HRE.out
      rw [if_pos hb] at hre
      have HR2 := Lib.hid hre
      subst hb
      have hb1 : UInt8.toNat 1 = 1 := rfl
      clear hre HRE
      go_wp2_with fail
      with_reducible refine (HGU.out w).mono ?_
      rintro e w1 ⟨⟨A, n, c, rfl, hu⟩, hb⟩
      have HU := Lib.hid hu
      have HB := Lib.hid hb
      clear hu hb HGU
      generalize rowS8 ⟨t, 0⟩ = g at *
      obtain ⟨⟨tb, te⟩, L⟩ := g
      unfold refV
      dsimp only at *
      by_cases h0 : te = 0
      case neg =>
        have hz : (te == 0) = false := by simpa using h0
        have hz' : (te != 0) = true := by simpa using h0
        have hre := HR2.out
        unfold endS8 at hre
        rw [if_pos h0] at hre
        have HF : Hid (∀ W, Below (w1.alloc (.cells #[.string ⟨tb.toArray⟩, .int .i64 te] 68)).heap.size (w1.alloc (.cells #[.string ⟨tb.toArray⟩, .int .i64 te] 68)) W → RRead8 w out (.returned (.tuple #[.slice none 0 0, .int .i64 te])) W) := fun W hbw => by
          rw [hre]
          exact ⟨⟨none, 0, 0, rfl, fun h => absurd h h0⟩, below_next HB.out (below_next (below_alloc (Below.refl w1.heap.size w1) _) hbw)⟩
        have K1 : (w1.alloc (.cells #[.string ⟨tb.toArray⟩, .int .i64 te] 68)).cell? ⟨w1.heap.size, 1, none⟩ = some (.int .i64 te) := by rw [World.cell?_alloc_at _ _ _ _ rfl]; rfl
        have LT : w1.heap.size < (w1.alloc (.cells #[.string ⟨tb.toArray⟩, .int .i64 te] 68)).heap.size := by simp
        clear hre HR2 HU HB h0
        go_wp2_with fail
        generalize w1.alloc (.cells #[.string ⟨tb.toArray⟩, .int .i64 te] 68) = w2 at *
        refine wp_region_st2 (by kernel_rfl) (YRr8 w1.heap.size te) (fun _ W => Below w2.heap.size w2 W) ?F1 ?hF1 (by kernel_rfl) (by kernel_rfl) (below_drew (Below.refl _ _)) ?step1 ?fin1
        case hF1 =>
          intro x
          simp only [List.map_cons, List.map_nil, putL, Act.put, List.setIfInBounds_toArray, List.set_cons_zero, List.set_cons_succ, Nat.zero_add, Nat.reduceAdd]
          exact rfl
        case step1 =>
          refine ⟨?_, ?_, ?_, ?_, trivial⟩
          all_goals intro L x W hL hd hW hdep K hK
          · clear hdep
            go_simp
            exact hK _ _ rfl hW (fun _ _ h => h)
          · have h0 : x 0 = _ := hdep 0 rfl
            have k1 := (hW.cell (p := ⟨w1.heap.size, 1, none⟩) LT).trans K1
            clear hdep
            simp only [h0] at hK
            go_simp
            exact hK _ _ rfl hW (fun _ _ h => h)
          · clear hdep
            go_simp
            exact hK _ _ rfl hW (fun _ _ h => h)
          · have h1 : x 1 = _ := hdep 1 rfl
            clear hdep
            simp only [h1] at hK
            go_simp
            exact hK _ _ rfl hW (fun _ _ h => h)
        case fin1 =>
          intro L x W hall hW hY
          have h2 : x 2 = .slice none 0 0 := hY 2 (by decide)
          have h3 : x 3 = .int .i64 te := hY 3 (by decide)
          have HFW := Lib.hid (HF.out W hW)
          clear hY hW HF
          rw [h2, h3]
          go_wp2
          go_ret2
          exact HFW.out
      subst h0
      cases tb with
      | nil =>
        have hre : out = (0, L) := HR2.out
        have HF : Hid (∀ W, Below w1.heap.size w1 W → RRead8 w out (.returned (.tuple #[.slice A n c, .int .i64 0])) W) := fun W hbw => by
          rw [hre]
          exact ⟨⟨A, n, c, rfl, fun _ => ⟨(HU.out rfl).1, (HU.out rfl).2.later hbw⟩⟩, below_next HB.out hbw⟩
        have HB1 := Lib.hid (HF.out _ (below_alloc (Below.refl w1.heap.size w1) (.cells #[.string ⟨#[]⟩, .int .i64 0] 68)))
        clear hre HR2 HU HB HF
        have hnil : (⟨([] : List UInt8).toArray⟩ : ByteArray) = ⟨#[]⟩ := rfl
        rw [hnil]
        go_wp2
        go_ret2
        exact HB1.out
      | cons x r =>
        have hre : out = (3, []) := HR2.out
        have HF : Hid (∀ W, Below (w1.alloc (.cells #[.string ⟨(x :: r).toArray⟩, .int .i64 3] 68)).heap.size (w1.alloc (.cells #[.string ⟨(x :: r).toArray⟩, .int .i64 3] 68)) W → RRead8 w out (.returned (.tuple #[.slice none 0 0, .int .i64 3])) W) := fun W hbw => by
          rw [hre]
          exact ⟨⟨none, 0, 0, rfl, fun h => by cases h⟩, below_next HB.out (below_next (below_alloc (Below.refl w1.heap.size w1) _) hbw)⟩
        have K1 : (w1.alloc (.cells #[.string ⟨(x :: r).toArray⟩, .int .i64 3] 68)).cell? ⟨w1.heap.size, 1, none⟩ = some (.int .i64 3) := by rw [World.cell?_alloc_at _ _ _ _ rfl]; rfl
        have LT : w1.heap.size < (w1.alloc (.cells #[.string ⟨(x :: r).toArray⟩, .int .i64 3] 68)).heap.size := by simp
        clear hre HR2 HU HB
        go_wp2_with fail
        generalize w1.alloc (.cells #[.string ⟨(x :: r).toArray⟩, .int .i64 3] 68) = w2 at *
        refine wp_region_st2 (by kernel_rfl) (YRr8 w1.heap.size 3) (fun _ W => Below w2.heap.size w2 W) ?F2 ?hF2 (by kernel_rfl) (by kernel_rfl) (below_drew (Below.refl _ _)) ?step2 ?fin2
        case hF2 =>
          intro x
          simp only [List.map_cons, List.map_nil, putL, Act.put, List.setIfInBounds_toArray, List.set_cons_zero, List.set_cons_succ, Nat.zero_add, Nat.reduceAdd]
          exact rfl
        case step2 =>
          refine ⟨?_, ?_, ?_, ?_, trivial⟩
          all_goals intro L x W hL hd hW hdep K hK
          · clear hdep
            go_simp
            exact hK _ _ rfl hW (fun _ _ h => h)
          · have h0 : x 0 = _ := hdep 0 rfl
            have k1 := (hW.cell (p := ⟨w1.heap.size, 1, none⟩) LT).trans K1
            clear hdep
            simp only [h0] at hK
            go_simp
            exact hK _ _ rfl hW (fun _ _ h => h)
          · clear hdep
            go_simp
            exact hK _ _ rfl hW (fun _ _ h => h)
          · have h1 : x 1 = _ := hdep 1 rfl
            clear hdep
            simp only [h1] at hK
            go_simp
            exact hK _ _ rfl hW (fun _ _ h => h)
        case fin2 =>
          intro L x W hall hW hY
          have h2 : x 2 = .slice none 0 0 := hY 2 (by decide)
          have h3 : x 3 = .int .i64 3 := hY 3 (by decide)
          have HFW := Lib.hid (HF.out W hW)
          clear hY hW HF
          rw [h2, h3]
          go_wp2
          go_ret2
          exact HFW.out
    · have hre := HRE.out
      rw [if_neg hb] at hre
      have hb2 : ((b.toNat : Int) != 1) = true := by
        have : b.toNat ≠ 1 := fun h => hb (UInt8.toNat_inj.1 h)
        simp; omega
      have HF : Hid (RRead8 w out (.returned (.tuple #[.slice none 0 0, .int .i64 6])) w) := by
        rw [hre]
        exact ⟨⟨none, 0, 0, rfl, fun h => by cases h⟩, Below.refl _ _⟩
      clear hre HRE HGU
      go_wp2
      go_ret2
      exact HF.out
end Go.Proofs.YtoeepbmbfambcaaGreatDoor

namespace Go.Proofs.YtoeepbmbfambcaaGreatDoor
open Go.RowKit Go.Maps Go.Sort Go.Shelf

/-- What each operation makes. -/
def YRe8 (A0 Al : Option Addr) (len c0 n cl B : Nat) (bl : List UInt8) (L : Row7) : Nat → Value → World → Prop
  | 0, v, _ => v = .pointer (some ⟨B, 0, none⟩)
  | 1, v, _ => v = .bool true
  | 2, v, _ => v = .bool true
  | 3, v, _ => v = .pointer (some ⟨B, 0, none⟩)
  | 4, v, W => ∃ A c, v = .slice A n c ∧ RdU7 W A (L.map bare7)
  | 5, v, _ => v = .slice Al n cl
  | 6, v, _ => v = .bool true
  | 7, v, _ => v = .bool true
  | 8, v, _ => v = .bool true
  | 9, v, _ => v = .pointer (some ⟨B, 0, none⟩)
  | 10, v, W => Rd W v bl
  | 11, v, _ => v = .string ⟨bl.toArray⟩
  | 12, v, _ => v = .slice A0 len c0
  | 13, v, _ => v = .string ⟨bl.toArray⟩
  | 14, v, _ => v = .bool true
  | 15, v, _ => v = .bool true
  | _, v, _ => v = .bool true
theorem YRe8_keep {A0 Al : Option Addr} {len c0 n cl B : Nat} {bl : List UInt8} {L : Row7} {W W' : World} (hb : Below W.heap.size W W') (j : Nat) (z : Value) (h : YRe8 A0 Al len c0 n cl B bl L j z W) : YRe8 A0 Al len c0 n cl B bl L j z W' := by
  match j, h with
  | 0, h => exact h
  | 1, h => exact h
  | 2, h => exact h
  | 3, h => exact h
  | 4, h => exact (by obtain ⟨A, c, e, hr⟩ := h; exact ⟨A, c, e, hr.later hb⟩)
  | 5, h => exact h
  | 6, h => exact h
  | 7, h => exact h
  | 8, h => exact h
  | 9, h => exact h
  | 10, h => exact Rd.still h (Turns.of_below hb _)
  | 11, h => exact h
  | 12, h => exact h
  | 13, h => exact h
  | 14, h => exact h
  | 15, h => exact h
  | _ + 16, h => exact h
set_option maxRecDepth 100000 in
set_option maxHeartbeats 4000000 in
theorem reads8_walk (A0 : Option Addr) (len c0 : Nat) (bl : List UInt8) (w : World) (hlen : len = bl.length) (hmax : bl.length ≤ 9223372036854775807) (hrd : Rd w (.slice A0 len c0) bl) (hm : Len5 w) :
    Calls Tryz.prog 4 #[.slice A0 len c0] w (Tells5 true w) := by
  have hnot : ∀ (x : Bool) (w : World), (Op.unary .not (.bool x)).run Tryz.prog w = .ok (.bool (!x)) w := fun _ _ => rfl
  have HV : Hid (∀ W, Below w.heap.size w W → Calls Tryz.prog 7 #[] W (Tells5 true W)) := fun W hb => lives8_calls W (hm.later hb)
  obtain ⟨i0, hi, hz0, hz1, hz2⟩ := info_parts infoByte
  have HI := Lib.hid hi
  have HZ0 := Lib.hid hz0
  have HZ1 := Lib.hid hz1
  have HZ2 := Lib.hid hz2
  have HRd := Lib.hid hrd
  have HM := Lib.hid hm
  have HL := Lib.hid hlen
  have HB0 := Lib.hid (Below.refl w.heap.size w)
  have hmx : len ≤ 9223372036854775807 := by omega
  clear hrd hm hlen hmax hi hz0 hz1 hz2
  go_enter Tryz.func4, Tryz.ntmps4
  go_wp2_with fail
  with_reducible refine (HV.out w HB0.out).mono ?_
  rintro e w1 ⟨rfl, hb⟩
  have HB1 := Lib.hid (below_next HB0.out hb)
  clear hb HB0
  by_cases h6 : 600 < len
  · have z6 : (len : Int) > 600 := by omega
    go_wp2_with fail
    with_reducible refine (HV.out w1 HB1.out).mono ?_
    rintro e w2 ⟨rfl, hb⟩
    have HB2 := Lib.hid (below_next HB1.out hb)
    clear hb
    go_wp2
    go_ret
    exact ⟨rfl, HB2.out⟩
  have z6 : ¬ (len : Int) > 600 := by omega
  clear HV
  have hsrc : Src Tryz.prog 1 27 (.slice A0 len c0) len (cellsOf bl) (w1.alloc (.cells #[] 5)) := by
    have := (HRd.out.still (Turns.of_below (below_next HB1.out (below_alloc (Below.refl w1.heap.size w1) (.cells #[] 5))) _)).src (P := Tryz.prog) (t := 27) (e := 5) Tryz.underlying27
    rwa [← HL.out] at this
  have HSRC := Lib.hid hsrc
  have hmade : (w1.alloc (.cells #[] 5)).ownsRow 0 5 1 (.slice (some ⟨w1.heap.size, 0, none⟩) 0 0) 0 [] := World.ownsRow_made w1 #[] 0 (Nat.zero_le _) (Nat.zero_le _) rfl
  have HMD := Lib.hid hmade
  clear hsrc hmade
  go_wp2_with (at_builtin; refine wpList_append_src _ rfl (.tmp 16) (.tmp 17) 27 27 (by rfl) 5 i0 _ 1 1 Tryz.underlying27 HI.out HZ0.out HZ1.out HZ2.out rfl (.slice (some ⟨w1.heap.size, 0, none⟩) 0 0) 0 [] (by rfl) HMD.out (.slice A0 len c0) len (cellsOf bl) (by rfl) HSRC.out (by simp only [maxLen]; omega) (by omega) ?_; intro A2 c2 w2 ho2 hg2 ha2; rw [Nat.zero_add, List.nil_append] at ho2; rw [Nat.zero_add] at ha2 ⊢; have HO2 := Lib.hid ho2; have HG2 := Lib.hid hg2; clear ho2 hg2 ha2)
  have HB2 : Hid (Below w.heap.size w w2) := (below_next HB1.out (below_alloc (Below.refl w1.heap.size w1) (.cells #[] 5))).grown HG2.out (by have := HB1.out.size; simp; omega) (fun k hk => by have := HB1.out.size; simp [Value.ownBlock] at hk; omega)
  have HR2 : Hid (Rd w2 (.slice A2 len c2) bl) := Rd.of_own (by have := HO2.out; rwa [HL.out] at this ⊢)
  have HR2' := Lib.hid (HRd.out.still (Turns.of_below HB2.out _))
  have HRD := Lib.hid (read8_calls _ bl w2 HR2.out (by have := HL.out; omega) (HM.out.later HB2.out))
  have HRR : Hid (∀ W, Calls Tryz.prog 15 #[.string ⟨bl.toArray⟩] W (RRead8 W (readS bl))) := fun W => rread8_calls bl W (by have := HL.out; omega)
  have HGOT : Hid ((readS bl).1 = 0 → (∀ q ∈ (readS bl).2, chk6 1 (bare7 q) = 0) ∧ shotR (readS bl).2 = bl) := fun h => ⟨(readS_got h).1, (readS_got h).2.2⟩
  clear HMD HSRC HO2 HG2 HB1 HRd HI HZ0 HZ1 HZ2
  generalize readS bl = g at *
  obtain ⟨er, L⟩ := g
  dsimp only at *
  go_wp2_with fail
  with_reducible refine HRD.out.mono ?_
  rintro e w3 h3
  clear HRD
  have hcase : ∃ dv, e = .returned (.tuple #[dv, .int .i64 er]) ∧ Below w2.heap.size w2 w3 ∧ (er ≠ 0 → dv = .pointer none) ∧ (er = 0 → ∃ B, dv = .pointer (some ⟨B, 0, none⟩) ∧ Own7 w2 w3 B L) := by
    rcases h3 with ⟨hne, he, hb⟩ | ⟨h0, B, he, ho⟩
    · exact ⟨_, he, hb, fun _ => rfl, fun h => absurd h hne⟩
    · dsimp only at h0
      subst h0
      exact ⟨_, he, ho.below, fun h => absurd rfl h, fun _ => ⟨B, rfl, ho⟩⟩
  clear h3
  obtain ⟨dv, rfl, hb3, hd1, hd2⟩ := hcase
  have HB3 := Lib.hid (below_next HB2.out hb3)
  have HR3 := Lib.hid (HR2.out.still (Turns.of_below hb3 _))
  have HR3' := Lib.hid (HR2'.out.still (Turns.of_below hb3 _))
  have HD1 := Lib.hid hd1
  have HD2 := Lib.hid hd2
  have hs3 := HR3'.out.string (P := Tryz.prog) (src := 27) (dst := 9) Tryz.underlying27 Tryz.underlying5 Tryz.underlying9
  clear hb3 hd1 hd2 HB2 HR2 HR2'
  go_wp2_with fail
  with_reducible refine (HRR.out w3).mono ?_
  rintro e w4 ⟨⟨Al, nl, cl, rfl, hu⟩, hb4⟩
  have HU := Lib.hid hu
  have HB4 := Lib.hid hb4
  have HB4' := Lib.hid (below_next HB3.out hb4)
  have HR4 := Lib.hid (HR3.out.still (Turns.of_below hb4 _))
  have HR4' := Lib.hid (HR3'.out.still (Turns.of_below hb4 _))
  have hs4 := HR4.out.string (P := Tryz.prog) (src := 27) (dst := 9) Tryz.underlying27 Tryz.underlying5 Tryz.underlying9
  have hs4' := HR4'.out.string (P := Tryz.prog) (src := 27) (dst := 9) Tryz.underlying27 Tryz.underlying5 Tryz.underlying9
  clear hu hb4 HRR HB3 HR3 HR3' hs3
  by_cases h0 : er = 0
  case neg =>
    have hz : (er != 0) = true := by simpa using h0
    obtain rfl := HD1.out h0
    clear HD1 HD2 HU HGOT
    go_wp2
    go_ret
    exact ⟨rfl, HB4'.out⟩
  subst h0
  obtain ⟨B, rfl, hown⟩ := HD2.out rfl
  obtain ⟨hnl, hrl⟩ := HU.out rfl
  obtain ⟨hchk, hbs⟩ := HGOT.out rfl
  dsimp only at hnl hrl hchk hbs
  subst hnl
  have hfew := hown.few
  obtain ⟨p, hdir, _, _, hbw⟩ := (Own7.later hown HB4.out)
  have HY : Hid (∀ W, Below w4.heap.size w4 W → Calls Tryz.prog 9 #[.pointer (some ⟨B, 0, none⟩)] W (Told6 W bl)) := fun W hb => by
    have := bytes8_calls B p L W (hdir.later hb) hchk (HM.out.later (below_next HB4'.out hb))
    rwa [hbs] at this
  have HAL : Hid (∀ W, Below w4.heap.size w4 W → Calls Tryz.prog 14 #[.pointer (some ⟨B, 0, none⟩)] W fun e w' => ∃ A c, e = .returned (.slice A L.length c) ∧ RdU7 w' A (L.map bare7) ∧ Below W.heap.size W w') := fun W hb => (all7_calls B p L W (hdir.later hb)).mono fun e w' ⟨v, he, hu, hb2⟩ => by
    have hus := Us7.of_users hu
    obtain ⟨A, c, e1, _⟩ := id hus
    rw [e1] at hus he
    exact ⟨A, c, he, hus.rd.2, hb2⟩
  have HSU : Hid (∀ A c W, Below w4.heap.size w4 W → RdU7 W A (L.map bare7) → Calls Tryz.prog 13 #[.slice A L.length c, .slice Al L.length cl] W (Tells5 true W)) := fun A c W hb hr => by
    have hok : ∀ u ∈ L.map bare7, u.Ok W := fun u hu => by
      obtain ⟨q, hq, rfl⟩ := List.mem_map.1 hu
      exact bare7_ok (pair_little8 (hchk q hq))
    refine sameusersV_calls A Al c cl L.length (L.map bare7) (L.map bare7) W (by rw [List.length_map]) (by rw [List.length_map]) (by omega) hr (hrl.later hb) hok hok (fun k i1 i2 => ?_)
    simp [sameU]
  clear hown hdir hbw hrl hchk hbs hfew HD1 HD2 HU HGOT HB4 HR4 HM
  generalize L.length = n at *
  go_wp2_with fail
  refine wp_region_inv (by kernel_rfl) (fun W => Below w4.heap.size w4 W) (YRe8 A0 Al len c0 n cl B bl L) ?F ?hF (by kernel_rfl) (by kernel_rfl) (below_drew (Below.refl _ _)) ?step ?fin
  case hF =>
    intro x
    simp only [List.map_cons, List.map_nil, putL, Act.put, List.setIfInBounds_toArray, List.set_cons_zero, List.set_cons_succ, Nat.zero_add, Nat.reduceAdd]
    exact rfl
  case step =>
    refine ⟨?_, ?_, ?_, ?_, ?_, ?_, ?_, ?_, ?_, ?_, ?_, ?_, ?_, ?_, ?_, ?_, ?_, trivial⟩
    all_goals intro x W hW hdep K hK
    · clear hdep
      go_simp
      exact hK _ _ rfl hW (fun _ _ h => h)
    · have h0 : x 0 = _ := hdep 0 rfl
      clear hdep
      simp only [h0] at hK
      go_simp
      exact hK _ _ rfl hW (fun _ _ h => h)
    · have h1 : x 1 = _ := hdep 1 rfl
      clear hdep
      simp only [h1] at hK
      go_simp
      exact hK _ _ rfl hW (fun _ _ h => h)
    · have h2 : x 2 = _ := hdep 2 rfl
      clear hdep
      simp only [h2] at hK
      go_simp
      exact hK _ _ rfl hW (fun _ _ h => h)
    · have h2 : x 2 = _ := hdep 2 rfl
      have h3 : x 3 = _ := hdep 3 rfl
      clear hdep
      simp only [h2, h3] at hK
      go_simp
      refine (HAL.out W hW).mono ?_
      rintro e W' ⟨A, c, rfl, hr, hb⟩
      exact hK _ _ ⟨A, c, rfl, hr⟩ (below_next hW hb) (fun j z h => YRe8_keep hb j z h)
    · have h2 : x 2 = _ := hdep 2 rfl
      clear hdep
      simp only [h2] at hK
      go_simp
      exact hK _ _ rfl hW (fun _ _ h => h)
    · have h2 : x 2 = _ := hdep 2 rfl
      have h5 : x 5 = _ := hdep 5 rfl
      obtain ⟨A4, c4, h4, r4⟩ : ∃ A c, x 4 = .slice A n c ∧ RdU7 W A (L.map bare7) := hdep 4 rfl
      simp only [h4] at hK
      clear hdep
      simp only [h2, h5] at hK
      go_simp
      refine (HSU.out A4 c4 W hW r4).mono ?_
      rintro e W' ⟨rfl, hb⟩
      exact hK _ _ rfl (below_next hW hb) (fun j z h => YRe8_keep hb j z h)
    · have h2 : x 2 = _ := hdep 2 rfl
      have h6 : x 6 = _ := hdep 6 rfl
      clear hdep
      simp only [h2, h6] at hK
      go_simp
      exact hK _ _ rfl hW (fun _ _ h => h)
    · have h7 : x 7 = _ := hdep 7 rfl
      clear hdep
      simp only [h7] at hK
      go_simp
      exact hK _ _ rfl hW (fun _ _ h => h)
    · have h8 : x 8 = _ := hdep 8 rfl
      clear hdep
      simp only [h8] at hK
      go_simp
      exact hK _ _ rfl hW (fun _ _ h => h)
    · have h8 : x 8 = _ := hdep 8 rfl
      have h9 : x 9 = _ := hdep 9 rfl
      clear hdep
      simp only [h8, h9] at hK
      go_simp
      refine (HY.out W hW).mono ?_
      rintro e W' ⟨v', rfl, ho, _, hb⟩
      exact hK _ _ (Rd.of_own ho) (below_next hW hb) (fun j z h => YRe8_keep hb j z h)
    · have h8 : x 8 = _ := hdep 8 rfl
      have r10 : Rd W (x 10) bl := hdep 10 rfl
      obtain ⟨A10, c10, h10⟩ := r10.shape
      rw [h10] at r10
      have hs := r10.string (P := Tryz.prog) (src := 27) (dst := 9) Tryz.underlying27 Tryz.underlying5 Tryz.underlying9
      clear hdep
      simp only [h8, h10] at hK
      go_simp
      exact hK _ _ rfl hW (fun _ _ h => h)
    · have h8 : x 8 = _ := hdep 8 rfl
      clear hdep
      simp only [h8] at hK
      go_simp
      exact hK _ _ rfl hW (fun _ _ h => h)
    · have h8 : x 8 = _ := hdep 8 rfl
      have h12 : x 12 = _ := hdep 12 rfl
      have hs := (HR4'.out.still (Turns.of_below hW _)).string (P := Tryz.prog) (src := 27) (dst := 9) Tryz.underlying27 Tryz.underlying5 Tryz.underlying9
      clear hdep
      simp only [h8, h12] at hK
      go_simp
      exact hK _ _ rfl hW (fun _ _ h => h)
    · have h8 : x 8 = _ := hdep 8 rfl
      have h11 : x 11 = _ := hdep 11 rfl
      have h13 : x 13 = _ := hdep 13 rfl
      clear hdep
      simp only [h8, h11, h13] at hK
      go_simp
      exact hK _ _ rfl hW (fun _ _ h => h)
    · have h8 : x 8 = _ := hdep 8 rfl
      have h14 : x 14 = _ := hdep 14 rfl
      clear hdep
      simp only [h8, h14] at hK
      go_simp
      exact hK _ _ rfl hW (fun _ _ h => h)
    · have h15 : x 15 = _ := hdep 15 rfl
      clear hdep
      simp only [h15] at hK
      go_simp
      exact hK _ _ rfl hW (fun _ _ h => h)
  case fin =>
    intro x W hW hY
    have h16 : x 16 = .bool true := hY 16 (by decide)
    have HF := Lib.hid (below_next HB4'.out hW)
    clear hY hW
    rw [h16]
    go_wp2
    go_ret
    exact ⟨rfl, HF.out⟩
end Go.Proofs.YtoeepbmbfambcaaGreatDoor

namespace Go.Proofs.YtoeepbmbfambcaaGreatDoor.shotReads
open Go.ChangeShapes Go.WideShapes Go.ChangeAt Go.RowKit
set_option linter.unusedVariables false

theorem own : ownKnob Tryz.prog.godebug = none := by kernel_rfl
theorem laidOut : laidOutB Tryz.prog = true := by kernel_rfl

theorem walk (w : World) (hm : Len5 w) (a0 : Option Addr) (len0 cap0 : Nat) (bl0 : List UInt8) (s0 : IsBytes w a0 len0 cap0 bl0) :
    Calls Tryz.prog 4 #[.slice a0 len0 cap0] w fun e w' => e = .returned (.bool true) ∧ Below w.heap.size w w' := by
  exact reads8_walk a0 len0 cap0 bl0 w s0.1 s0.2.1 s0.2.2 hm

set_option maxRecDepth 100000 in
theorem lifted (os : Os) (started : os.Started) (H : Type) (enc : TypeId × Value → H) :
    ReturnsInHanded {} Tryz.checked os 4 .any (fun w args => (Rows.shotReadsSpec.pre enc Tryz.prog Tryz.f4 Rows.shotReadsRow.domain false w args ∧ laidMetH Tryz.prog Rows.shotReadsRow.laid w) ∧ sizedMet enc Tryz.prog Tryz.f4 (OpenSpec.ofChange Rows.shotReadsSpec) false w args)
      (Rows.shotReadsSpec.post enc Tryz.prog Tryz.f4 false true false false) := by
  refine returns_laid (C := Tryz.checked) (X := fun w _ => laidMetH Tryz.prog Rows.shotReadsRow.laid w) own started (by kernel_rfl) Tryz.func4
    (ChangeSpec.witness_shaped (enc := enc) (C := Tryz.checked) (os := os) (X := fun w _ => laidMetH Tryz.prog Rows.shotReadsRow.laid w) false (World.laidAll Tryz.prog os Rows.shotReadsRow.laid) #[.slice none 0 0] 8 (World.laidAll_os _ _ _)
      (World.shaped_of_ZipB (by kernel_rfl) (by kernel_rfl)) (by kernel_rfl) (by kernel_rfl) (by kernel_rfl)
      (by rw [MakeChecks.laidMetH_plain _ _ _ (by kernel_rfl)]; exact laidMet_laidAll _ (by kernel_rfl) (by kernel_rfl))) ?_
  intro W base args ds gs before hval0 hW hsh
  have hval : ∀ (j : Nat) t v, Tryz.f4.params[j]? = some t → args[j]? = some v → Value.okWide Tryz.prog W .any base t v := hval0
  have hW' := hW
  obtain ⟨p, q, hA0, hV, rfl, hfz, hnd⟩ := hW
  have hA : DataW.TrodAll enc Tryz.prog W 0 (fun _ => true) true Tryz.f4.params.toList args.toList ds p := hA0
  rw [Tryz.params4] at hA hval
  obtain ⟨v0, vs0, d0, ds0, p0, q0, hargs, rfl, rfl, h0, r0⟩ := trodAll_cons hA
  obtain ⟨rfl, rfl, rfl⟩ := trodAll_nil r0
  obtain rfl : args = #[v0] := by cases args; simp_all
  obtain ⟨rfl, rfl⟩ := trodVars_none hV
  obtain ⟨a0, len0, cap0, rfl⟩ := okWide_slice Tryz.underlying27 (hval 0 27 v0 rfl rfl)
  have lt0 : ∀ x ∈ p0, x.block < W.heap.size := by obtain ⟨m, hm⟩ := h0; exact DataW.trod_lt m _ _ _ hm
  obtain ⟨bl0, s0⟩ := bytes_of h0
  clear hA0 hval0
  refine (walk W (len5_of hsh) a0 len0 cap0 bl0 s0).mono fun e W' ⟨he, bel⟩ => ?_
  subst he
  exact ⟨_, rfl, _, _, _, [], _, [], hW', trodAll_mk1 (shut_bool Tryz.underlying4 _), (trodAll_cons_mk (Below.trod laidOut (by kernel_rfl) (of_decide_eq_true (by kernel_rfl)) h0 bel lt0) trodAll_mk0), rfl, bel.frame _, fun h => by cases h⟩

theorem row_holds : Rows.ShotReadsSaid :=
  OpenClaim.holds_of_wide 4 Tryz.f4 rfl rfl rfl rfl rfl rfl rfl ⟨rfl, rfl, rfl, rfl, rfl⟩ rfl rfl rfl rfl rfl (by kernel_rfl) Tryz.func4 (by kernel_rfl)
    (of_decide_eq_true (by kernel_rfl)) (by unfold Func.isWrapper; first | (rw [if_pos (by decide +kernel)]; kernel_rfl) | (rw [if_neg (by decide +kernel)]; exact ⟨rfl, rfl⟩))
    (fun os started H enc _ => lifted os started H enc)

theorem proved : Rows.ShotReadsCardSaid :=
  Claim7.holds_tied_plain_at .later [] Rows.shotReadsCard.laidKinds true Rows.shotReadsCard.stood.harness false row_holds (fun _ h => by cases h) (by kernel_rfl) (fun _ h => by cases h) shotReads_row_tie rfl ⟨rfl, rfl⟩ (by kernel_rfl) rfl
    (fun f fn hf hfn => by
      obtain rfl : f = 4 := Option.some.inj ((show Tryz.prog.funcNamed Rows.shotReadsRow.func = some 4 by kernel_rfl).symm.trans hf) |>.symm
      obtain rfl : fn = Tryz.f4 := (Option.some.inj (Tryz.func4.symm.trans hfn)).symm
      exact ⟨by kernel_rfl, fun j t ht => by
        rw [Tryz.params4] at ht
        have hm : t ∈ [27] := by simpa using Array.mem_of_getElem? ht
        have hall : ([27].all fun u => !Tryz.prog.wantsStandIn u) = true := by kernel_rfl
        exact (show Tryz.prog.wantsStandIn t = false by simpa using List.all_eq_true.1 hall t hm)⟩)
    (by kernel_rfl)
end Go.Proofs.YtoeepbmbfambcaaGreatDoor.shotReads

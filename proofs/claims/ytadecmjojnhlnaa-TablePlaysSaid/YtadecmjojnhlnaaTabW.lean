/-
  Eight numbers in a block; an act in a block; what a Put of the law leaves.
  Conditions: none.
-/
import Derived.Test.YtadecmjojnhlnaaTabM
namespace Go.Proofs.Ytadecmjojnhlnaa
open Go.RowKit

/-- Eight numbers, as cells. -/
def u64A (f : Nat → Nat) : Array Value := ((List.range 8).map fun i => Value.int .u64 (f i)).toArray
def setN15 (f : Nat → Nat) (i x : Nat) : Nat → Nat := fun j => if j = i then x else f j
def firstN (f : Nat → Nat) (k : Nat) : Nat → Nat := fun j => if j < k then f j else 0
theorem u64A_get (f : Nat → Nat) (i : Nat) (hi : i < 8) : (u64A f)[i]? = some (.int .u64 (f i)) := by simp [u64A, hi]
theorem u64A_congr {f g : Nat → Nat} (h : ∀ i, i < 8 → f i = g i) : u64A f = u64A g := by
  unfold u64A
  congr 1
  apply List.map_congr_left
  intro i hi
  rw [h i (List.mem_range.1 hi)]
theorem u64A_set (f : Nat → Nat) (i x : Nat) : (u64A f).setIfInBounds i (.int .u64 x) = u64A (setN15 f i x) := by
  apply Array.ext
  · simp [u64A]
  · intro j h1 h2
    simp only [u64A, setN15, List.setIfInBounds_toArray, List.getElem_toArray, List.getElem_set, List.getElem_map, List.getElem_range]
    by_cases e : i = j
    · subst e; simp
    · have e' : ¬ j = i := fun h => e h.symm
      simp [e, e']
theorem firstN_snoc (f : Nat → Nat) (k : Nat) : setN15 (firstN f k) k (f k) = firstN f (k + 1) := by
  funext j
  unfold setN15 firstN
  by_cases h : j = k
  · subst h; simp
  · rw [if_neg h]
    by_cases h2 : j < k
    · rw [if_pos h2, if_pos (by omega)]
    · rw [if_neg h2, if_neg (by omega)]
theorem firstN_zero (f : Nat → Nat) : (fun _ => 0) = firstN f 0 := by funext j; simp [firstN]
/-- A block of eight numbers. -/
def Nums15 (w : World) (C : Nat) (f : Nat → Nat) : Prop := w.heap[C]? = some (.cells (u64A f) 60 (0, 0))
theorem infoNums15 : (Try.prog.info? 60).map (fun i => (i.zero, i.size, i.bytes)) = some (some (.agg (u64A fun _ => 0)), 8, 64) := by kernel_rfl
theorem zeroNums15_run (w : World) : (zeroValue 60).run Try.prog w = .ok (.agg (u64A fun _ => 0)) w := by
  obtain ⟨i0, hi, hz0, hz1, hz2⟩ := info_parts infoNums15
  simp [zeroValue, typeInfo, hi, hz0]
section
variable {w w' : World} {C : Nat} {f : Nat → Nat}
theorem Nums15.lt (h : Nums15 w C f) : C < w.heap.size := (Array.getElem?_eq_some_iff.1 h).1
theorem Nums15.cell (h : Nums15 w C f) (i : Nat) (hi : i < 8) : w.cell? ⟨C, i, none⟩ = some (.int .u64 (f i)) := (cell_of_row w C i _ _ (0, 0) h).trans (u64A_get f i hi)
theorem Nums15.free (h : Nums15 w C f) (i : Nat) : w.frozen? ⟨C, i, none⟩ = false := by unfold Nums15 at h; simp [World.frozen?, h]
theorem Nums15.set (h : Nums15 w C f) (i x : Nat) : Nums15 (w.setCell ⟨C, i, none⟩ (.int .u64 x)) C (setN15 f i x) := by
  unfold Nums15 at h ⊢
  rw [← u64A_set]
  simp [World.setCell, Array.getElem?_modify, h]
theorem Nums15.turns {S : Nat → Prop} (h : Nums15 w C f) (ht : Turns S w w') (hn : ¬ S C) : Nums15 w' C f := (ht.block C h.lt hn).trans h
theorem Nums15.later (h : Nums15 w C f) (hb : Below w.heap.size w w') : Nums15 w' C f := (hb.block C h.lt).trans h
theorem Nums15.congr (h : Nums15 w C f) {g : Nat → Nat} (he : ∀ i, i < 8 → f i = g i) : Nums15 w C g := by
  unfold Nums15 at h ⊢
  rw [h, u64A_congr he]
end
/-- An act's block. -/
def ActB15 (w : World) (D : Nat) (t : AcT) : Prop := w.heap[D]? = some (.cells #[.int .u8 t.kd, .int .u8 t.cl, .int .u64 t.nm, .int .u8 t.er, .slice t.A t.ss.length t.c] 30 (0, 0))
section
variable {w w' : World} {D : Nat} {t : AcT}
theorem ActB15.lt (h : ActB15 w D t) : D < w.heap.size := (Array.getElem?_eq_some_iff.1 h).1
theorem ActB15.cells (h : ActB15 w D t) : w.cell? ⟨D, 0, none⟩ = some (.int .u8 t.kd) ∧ w.cell? ⟨D, 1, none⟩ = some (.int .u8 t.cl) ∧ w.cell? ⟨D, 2, none⟩ = some (.int .u64 t.nm) ∧ w.cell? ⟨D, 3, none⟩ = some (.int .u8 t.er) ∧ w.cell? ⟨D, 4, none⟩ = some (.slice t.A t.ss.length t.c) := by
  refine ⟨?_, ?_, ?_, ?_, ?_⟩
  all_goals rw [cell_of_row w D _ _ _ (0, 0) h]; rfl
theorem ActB15.turns {S : Nat → Prop} (h : ActB15 w D t) (ht : Turns S w w') (hn : ¬ S D) : ActB15 w' D t := (ht.block D h.lt hn).trans h
theorem ActB15.later (h : ActB15 w D t) (hb : Below w.heap.size w w') : ActB15 w' D t := (hb.block D h.lt).trans h
end
theorem tls_tls15 (e : Int) (ss : List ByteArray) : tls14 e (tls14 e ss) = tls14 e ss := by
  unfold tls14
  by_cases h0 : e = 0
  · rw [if_pos h0, if_pos h0]
  · rw [if_neg h0, if_neg h0]
theorem own_none15 {w : World} {P B : Nat} (h : Tab15 w B 66 (fun _ => zero15)) (hB : B < P) (hP : P ≤ w.heap.size) : Own15 w P B (fun _ => zero15) :=
  ⟨hB, hP, h, fun _ _ => Txt15.none _, fun _ _ h => absurd rfl h, fun _ _ => may_zero15⟩
theorem Did15.from_ {a w w' : World} {P B : Nat} {X : Nat → P15} (h : Did15 w P B X w') (hb : Below a.heap.size a w) : Did15 a P B X w' := by
  obtain ⟨T, h1, h2, h3⟩ := h
  exact ⟨T, h1, (Turns.of_below hb _).next h2 (fun _ _ hk => hk), h3⟩
/-- An act's Put. -/
theorem act_put15 {w0 w : World} {P B : Nat} {T : Nat → R15} (h : Own15 w P B T) {t : AcT} (ho : t.Ok w0) (hb : Below w0.heap.size w0 w) (hl : t.ss.length ≤ 10 ∧ ∀ s ∈ t.ss, s.size ≤ 50) :
    Calls Try.prog 9 #[.pointer (some ⟨B, 0, none⟩), .int .u8 t.cl, .int .u64 t.nm, .agg #[.int .i64 (t.er % 19 : Nat), .slice t.A t.ss.length t.c]] w fun en w' =>
      en = .returned (.int .i64 (errJ15 (J15 (T t.cl).n t.cl t.nm))) ∧ Did15 w P B (putX15 (fun i => (T i).p) t.cl t.nm (t.er % 19) t.ss) w' :=
  Put15_calls h t.cl t.nm (t.er % 19) t.A t.c t.ss (ho.tx.later hb) (by omega) hl
end Go.Proofs.Ytadecmjojnhlnaa

/-
  The document's Get of a reply tells what the code's tells.
  Conditions: bytes of at most 1000.
-/
import Derived.Test.YtadecmjojnhlnaaOpGet
import Derived.Test.YtadecmjojnhlnaaOpRefA
namespace Go.Proofs.Ytadecmjojnhlnaa
open Go.RowKit

/-- A reply lies at block B, as the document has it. -/
def RqAt (w : World) (B : Nat) (e : Int) (v : Value) : Prop := w.heap[B]? = some (.cells #[.int .i64 e, v] 42 (0, 0))
section
variable {w w' : World} {B : Nat} {e : Int} {v : Value}
theorem RqAt.lt (h : RqAt w B e v) : B < w.heap.size := (Array.getElem?_eq_some_iff.1 h).1
theorem RqAt.c0 (h : RqAt w B e v) : w.cell? ⟨B, 0, none⟩ = some (.int .i64 e) := by rw [cell_of_row w B 0 _ _ (0, 0) h]; rfl
theorem RqAt.c1 (h : RqAt w B e v) : w.cell? ⟨B, 1, none⟩ = some v := by rw [cell_of_row w B 1 _ _ (0, 0) h]; rfl
theorem RqAt.fr (h : RqAt w B e v) (i : Nat) : w.frozen? ⟨B, i, none⟩ = false := by unfold RqAt at h; simp [World.frozen?, h]
theorem RqAt.later (h : RqAt w B e v) {n : Nat} (hn : B < n) (hb : Below n w w') : RqAt w' B e v := (hb.block B hn).trans h
theorem RqAt.below (h : RqAt w B e v) (hb : Below w.heap.size w w') : RqAt w' B e v := h.later h.lt hb
theorem RqAt.turns {S : Nat → Prop} (h : RqAt w B e v) (ht : Turns S w w') (hn : ¬ S B) : RqAt w' B e v := (ht.block B h.lt hn).trans h
theorem RqAt.far (h : RqAt w B e v) {p : Addr} (hp : B ≠ p.block) (u : Value) : RqAt (w.setCell p u) B e v := (Below.heap_setCell w p u B hp).trans h
theorem RqAt.set1 (h : RqAt w B e v) (u : Value) : RqAt (w.setCell ⟨B, 1, none⟩ u) B e u := by
  unfold RqAt at h ⊢; simp [World.setCell, Array.getElem?_modify, h]
theorem RqAt.setAll (h : RqAt w B e v) (e' : Int) (u : Value) : RqAt ((w.setCell ⟨B, 0, none⟩ (.int .i64 e')).setCell ⟨B, 1, none⟩ u) B e' u := by
  unfold RqAt at h ⊢; simp [World.setCell, Array.getElem?_modify, h]
end

theorem sizeRq14 : (Try.prog.info? 42).map (·.size) = some 2 := by kernel_rfl
theorem rowGo_keep14 (long : Int) : ∀ (k : Nat) {st : St} (acc : List ByteArray), st.e ≠ 0 → (rowGo long k st acc).1.e = st.e
  | 0, _, _, _ => rfl
  | k + 1, st, acc, h => by
    have h1 := textS_keep14 long h
    unfold rowGo
    rw [if_pos (by rw [h1]; exact h)]
    exact h1
theorem rowS_keep14 {st : St} (m l : Int) (h : st.e ≠ 0) : (rowS st m l).1.e = st.e := by
  have h1 := lengthS_keep14 m h
  unfold rowS
  rw [rowGo_keep14 l _ _ (by rw [h1]; exact h), h1]
theorem ok_gs2_14 (bs : List UInt8) : Ok (gs2_14 bs) := by
  have o1 := (ok0_14 bs).num 1
  unfold gs2_14
  split
  · exact o1.fail 4
  · exact o1
theorem ok_gs4_14 (bs : List UInt8) : Ok (gs4_14 bs) := by
  have o3 := (ok_gs2_14 bs).row 400 400
  unfold gs4_14
  split
  · exact o3.fail 4
  · exact o3
theorem gre_big14 {bs : List UInt8} (h : 18 < gk14 bs) : gre14 bs = 4 := by
  have hz : (numS ⟨bs, 0⟩ 1).1.e = 0 := Classical.byContradiction fun he => by
    have := numS_zero (ok0_14 bs) 1 he
    unfold gk14 at h
    omega
  have h2 : gs2_14 bs = ⟨[], 4⟩ := by
    have e2 : gs2_14 bs = failS (numS ⟨bs, 0⟩ 1).1 4 := if_pos h
    rw [e2, failS_zero hz 4 (by decide)]
  have h3 : (rowS (gs2_14 bs) 400 400).1.e = 4 := by rw [h2]; exact rowS_keep14 400 400 (by decide)
  have h4 : (gs4_14 bs).e = 4 := by
    unfold gs4_14
    split
    · rw [failS_keep14 4 (by rw [h3]; decide)]; exact h3
    · exact h3
  rcases endS_ok14 (ok_gs4_14 bs) with ⟨h5, _⟩ | ⟨h5, _⟩ | ⟨_, h5⟩
  · rw [h4] at h5; cases h5
  · rw [h4] at h5; cases h5
  · exact h5.trans h4
/-- What the document's Get tells. -/
def RGot14 (w : World) (bs : List UInt8) (e : Ending) (w' : World) : Prop :=
  (gre14 bs ≠ 0 ∧ e = .returned (.tuple #[.agg #[.int .i64 0, .slice none 0 0], .int .i64 (gre14 bs)]) ∧ Below w.heap.size w w') ∨
  (gre14 bs = 0 ∧ ∃ A c, e = .returned (.tuple #[.agg #[.int .i64 (gk14 bs), .slice A (gss14 bs).length c], .int .i64 0]) ∧ RdS w' A (gss14 bs) ∧ Below w.heap.size w w')
section
variable {w W W' : World} {Q : Nat} {b : ByteArray} {e : Int} {A : Option Addr} {ss : List ByteArray}
theorem RdS.far14 (h : RdS W A ss) (p : Addr) (hn : ∀ a : Addr, A = some a → p.block < a.block) (u : Value) : RdS (W.setCell p u) A ss :=
  h.turns ((Turns.refl (fun i => i = p.block) W).setCell (p := p) (fun _ => rfl) u) (fun _ a ha he => by have := hn a ha; omega)
theorem RqAt.drew14 {B : Nat} {v : Value} (h : RqAt W B e v) : RqAt W.drew B e v := h
end
theorem box46_14 (w w2 : World) (hb : Below (w.alloc (.cells #[.int .i64 0, .slice none 0 0] 42)).heap.size (w.alloc (.cells #[.int .i64 0, .slice none 0 0] 42)) w2) :
    RqAt w2 w.heap.size 0 (.slice none 0 0) ∧ Below w.heap.size w w2 := by
  have a0 : RqAt (w.alloc (.cells #[.int .i64 0, .slice none 0 0] 42)) w.heap.size 0 (.slice none 0 0) := heap_alloc_new w _
  exact ⟨a0.below hb, next14 (alloc14 (Below.refl _ w) _) hb⟩

end Go.Proofs.Ytadecmjojnhlnaa

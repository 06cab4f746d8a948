/-
  A user that is read part by part: the Reader beside the user's block, and what a store into a field leaves of both.
  Conditions: none beyond each theorem's own.
-/
import Derived.Test.YtghmcbgejeanfaaDoorUserG
import Derived.Test.YtghmcbgejeanfaaDoorReadU
namespace Go.Proofs.YtghmcbgejeanfaaDoor
open Go.RowKit

/-- A zero user's cells. -/
def Zero5 (w : World) (B : Nat) : Prop := Blk5 w B (.string ⟨#[]⟩) (.string ⟨#[]⟩) (.string ⟨#[]⟩) (.bool false) (.slice none 0 0)
/-- A Reader, the user that is read, and the answer's block, both new since w. -/
structure Gt6 (w : World) (B : Nat) (st : St) (a b c d e : Value) (W : World) : Prop where
  rdr : Rdr W B st
  t : Turns (fun i => i = B) w W
  v : Blk5 W (w.heap.size + 1) a b c d e
  z : Zero5 W w.heap.size

section
variable {w W W' : World} {B : Nat} {st st' : St} {a b c d e : Value}
theorem Gt6.start (h : Rdr w B st) : Gt6 w B st (.string ⟨#[]⟩) (.string ⟨#[]⟩) (.string ⟨#[]⟩) (.bool false) (.slice none 0 0)
    ((w.alloc (.cells #[.string ⟨#[]⟩, .string ⟨#[]⟩, .string ⟨#[]⟩, .bool false, .slice none 0 0] 24)).alloc (.cells #[.string ⟨#[]⟩, .string ⟨#[]⟩, .string ⟨#[]⟩, .bool false, .slice none 0 0] 24)) := by
  have ht : Turns (fun _ => False) w ((w.alloc (.cells #[.string ⟨#[]⟩, .string ⟨#[]⟩, .string ⟨#[]⟩, .bool false, .slice none 0 0] 24)).alloc (.cells #[.string ⟨#[]⟩, .string ⟨#[]⟩, .string ⟨#[]⟩, .bool false, .slice none 0 0] 24)) := ((Turns.refl _ _).alloc _).alloc _
  refine ⟨h.still ht, ht.mono (fun _ _ f => f.elim), ?_, ?_⟩
  · have := heap_alloc_new (w.alloc (.cells #[.string ⟨#[]⟩, .string ⟨#[]⟩, .string ⟨#[]⟩, .bool false, .slice none 0 0] 24)) (.cells #[.string ⟨#[]⟩, .string ⟨#[]⟩, .string ⟨#[]⟩, .bool false, .slice none 0 0] 24)
    simpa [Blk5] using this
  · show _ = _
    rw [Below.heap_alloc _ _ _ (by simp)]
    exact heap_alloc_new w _
theorem Gt6.did (hB : B < w.heap.size) (h : Gt6 w B st a b c d e W) (hd : Did W B st' W') : Gt6 w B st' a b c d e W' :=
  ⟨hd.1, h.t.next hd.2 (fun _ _ h => h), (hd.2.block _ h.v.lt (by omega)).trans h.v, (hd.2.block _ (Blk5.lt h.z) (by omega)).trans h.z⟩
theorem Gt6.below (h : Gt6 w B st a b c d e W) (hb : Below W.heap.size W W') : Gt6 w B st a b c d e W' :=
  ⟨h.rdr.still (Turns.of_below hb _), h.t.next (Turns.of_below hb (fun i => i = B)) (fun _ _ h => h), (hb.block _ h.v.lt).trans h.v, (hb.block _ (Blk5.lt h.z)).trans h.z⟩
/-- A store into a user's block leaves a Reader as it is. -/
theorem rdr_apart {C j : Nat} (h : Rdr W B st) (hC : Blk5 W C a b c d e) (x : Value) : Rdr (W.setCell ⟨C, j, none⟩ x) B st := by
  obtain ⟨u, hu, hr⟩ := h
  have ht : Turns (fun i => i = C) W (W.setCell ⟨C, j, none⟩ x) := (Turns.refl (fun i => i = C) W).setCell (p := ⟨C, j, none⟩) (fun _ => rfl) x
  have hne : B ≠ C := fun e => by
    subst e
    have := hu.symm.trans hC
    simp at this
  refine ⟨u, (ht.block B (Array.getElem?_eq_some_iff.1 hu).1 hne).trans hu, ?_⟩
  rcases hr with h0 | ⟨g, off, cc, rfl, h1, h2, h3, h4, hbk, h5⟩
  · exact .inl h0
  · have hg : g ≠ C := fun e => by
      subst e
      obtain ⟨cur, fr, hcur⟩ := hbk
      have := hcur.symm.trans hC
      simp at this
    exact .inr ⟨g, off, cc, rfl, h1, h2, Nat.lt_of_lt_of_le h3 ht.size, h4, hbk.keep ht hg, fun j hj => (ht.cell (p := ⟨g, off + j, none⟩) h3 hg).trans (h5 j hj)⟩
theorem Gt6.store {j : Nat} {x a' b' c' d' e' : Value} (h : Gt6 w B st a b c d e W) (hv : Blk5 (W.setCell ⟨w.heap.size + 1, j, none⟩ x) (w.heap.size + 1) a' b' c' d' e') : Gt6 w B st a' b' c' d' e' (W.setCell ⟨w.heap.size + 1, j, none⟩ x) :=
  ⟨rdr_apart h.rdr h.v x, h.t.setCell (p := ⟨w.heap.size + 1, j, none⟩) (fun hl => absurd hl (by simp)) x, hv, Blk5.other h.z (by omega) x⟩
theorem Blk5.set0 (h : Blk5 w B a b c d e) (x : Value) : Blk5 (w.setCell ⟨B, 0, none⟩ x) B x b c d e := by
  have h' : w.heap[B]? = some (.cells #[a, b, c, d, e] 24 (0, 0)) := h
  simp [Blk5, World.setCell, Array.getElem?_modify, h']
theorem Blk5.set1 (h : Blk5 w B a b c d e) (x : Value) : Blk5 (w.setCell ⟨B, 1, none⟩ x) B a x c d e := by
  have h' : w.heap[B]? = some (.cells #[a, b, c, d, e] 24 (0, 0)) := h
  simp [Blk5, World.setCell, Array.getElem?_modify, h']
theorem Blk5.set2 (h : Blk5 w B a b c d e) (x : Value) : Blk5 (w.setCell ⟨B, 2, none⟩ x) B a b x d e := by
  have h' : w.heap[B]? = some (.cells #[a, b, c, d, e] 24 (0, 0)) := h
  simp [Blk5, World.setCell, Array.getElem?_modify, h']
theorem Blk5.set3 (h : Blk5 w B a b c d e) (x : Value) : Blk5 (w.setCell ⟨B, 3, none⟩ x) B a b c x e := by
  have h' : w.heap[B]? = some (.cells #[a, b, c, d, e] 24 (0, 0)) := h
  simp [Blk5, World.setCell, Array.getElem?_modify, h']
end
/-- The answer is stored: what is left. -/
theorem Gt6.answer {w W : World} {B : Nat} {st : St} {a b c d e : Value} (h : Gt6 w B st a b c d e W) (a' b' c' d' e' : Value) :
    Rdr (set5 W w.heap.size a' b' c' d' e') B st ∧ Turns (fun i => i = B) w (set5 W w.heap.size a' b' c' d' e') ∧ Blk5 (set5 W w.heap.size a' b' c' d' e') w.heap.size a' b' c' d' e' := by
  refine ⟨?_, turns_set5 h.t w.heap.size (fun hl => absurd hl (by omega)) _ _ _ _ _, Blk5.set5 h.z _ _ _ _ _⟩
  have h0 := rdr_apart (j := 0) h.rdr h.z a'
  have z0 := Blk5.set0 h.z a'
  have h1 := rdr_apart (j := 1) h0 z0 b'
  have z1 := z0.set1 b'
  have h2 := rdr_apart (j := 2) h1 z1 c'
  have z2 := z1.set2 c'
  have h3 := rdr_apart (j := 3) h2 z2 d'
  have z3 := z2.set3 d'
  exact rdr_apart (j := 4) h3 z3 e'
end Go.Proofs.YtghmcbgejeanfaaDoor

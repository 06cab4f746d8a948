/-
  A user's clone, in memory of its own; the document's Same.
  Conditions: texts and rows are no longer than they may be.
-/
import Derived.Test.YtclnkboejbnfnaaGreatDoorUserF
namespace Go.Proofs.YtclnkboejbnfnaaGreatDoor
open Go.RowKit

/-- Five cells of a user, whole. -/
def Blk5 (w : World) (B : Nat) (a b c d e : Value) : Prop := w.heap[B]? = some (.cells #[a, b, c, d, e] 26 (0, 0))
theorem Blk5.lt {w : World} {B : Nat} {a b c d e : Value} (h : Blk5 w B a b c d e) : B < w.heap.size := (Array.getElem?_eq_some_iff.1 h).1
theorem Blk5.at_ {w : World} {B : Nat} {a b c d e : Value} (h : Blk5 w B a b c d e) (j : Nat) : w.cell? ⟨B, j, none⟩ = #[a, b, c, d, e][j]? := cell_of_row w B j _ _ (0, 0) h
theorem Blk5.free {w : World} {B : Nat} {a b c d e : Value} (h : Blk5 w B a b c d e) (j : Nat) : w.frozen? ⟨B, j, none⟩ = false := by
  have h' : w.heap[B]? = some (.cells #[a, b, c, d, e] 26 (0, 0)) := h
  simp [World.frozen?, h']
theorem Blk5.set4 {w : World} {B : Nat} {a b c d e : Value} (h : Blk5 w B a b c d e) (x : Value) : Blk5 (w.setCell ⟨B, 4, none⟩ x) B a b c d x := by
  have h' : w.heap[B]? = some (.cells #[a, b, c, d, e] 26 (0, 0)) := h
  simp [Blk5, World.setCell, Array.getElem?_modify, h']
theorem Blk5.other {w : World} {B C j : Nat} {a b c d e : Value} (h : Blk5 w B a b c d e) (hne : B ≠ C) (x : Value) : Blk5 (w.setCell ⟨C, j, none⟩ x) B a b c d e := by
  show (w.setCell ⟨C, j, none⟩ x).heap[B]? = _
  rw [Below.heap_setCell _ _ _ _ hne]
  exact h

/-- All five are stored. -/
def set5 (w : World) (B : Nat) (a b c d e : Value) : World := ((((w.setCell ⟨B, 0, none⟩ a).setCell ⟨B, 1, none⟩ b).setCell ⟨B, 2, none⟩ c).setCell ⟨B, 3, none⟩ d).setCell ⟨B, 4, none⟩ e
theorem Blk5.set5 {w : World} {B : Nat} {a b c d e : Value} (h : Blk5 w B a b c d e) (a' b' c' d' e' : Value) : Blk5 (set5 w B a' b' c' d' e') B a' b' c' d' e' := by
  have h' : w.heap[B]? = some (.cells #[a, b, c, d, e] 26 (0, 0)) := h
  simp [Blk5, Go.Proofs.YtclnkboejbnfnaaGreatDoor.set5, World.setCell, Array.getElem?_modify, h']
theorem turns_set5 {S : Nat → Prop} {a0 w : World} (h : Turns S a0 w) (B : Nat) (hB : B < a0.heap.size → S B) (a b c d e : Value) : Turns S a0 (set5 w B a b c d e) :=
  ((((h.setCell (p := ⟨B, 0, none⟩) hB a).setCell (p := ⟨B, 1, none⟩) hB b).setCell (p := ⟨B, 2, none⟩) hB c).setCell (p := ⟨B, 3, none⟩) hB d).setCell (p := ⟨B, 4, none⟩) hB e
theorem owns_turns {S : Nat → Prop} {w w' : World} {b0 b1 : Nat} {e : TypeId} {size n : Nat} {v : Value} {xs : List Value} (ho : w.ownsRow b0 e size v n xs) (h1 : b1 ≤ b0) (ht : Turns S w w') (hS : ∀ k, b0 ≤ k → ¬ S k) : w'.ownsRow b1 e size v n xs := by
  refine ⟨ho.1, ?_⟩
  rcases ho.2 with h0 | ⟨g, cap, cur, rfl, hb, hg, rest⟩
  · exact .inl h0
  · exact .inr ⟨g, cap, cur, rfl, Nat.le_trans h1 hb, (ht.block g (Array.getElem?_eq_some_iff.1 hg).1 (hS g hb)).trans hg, rest⟩

end Go.Proofs.YtclnkboejbnfnaaGreatDoor

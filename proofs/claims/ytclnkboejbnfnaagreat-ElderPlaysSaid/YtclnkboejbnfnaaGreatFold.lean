/-
  Fold of package name: each great letter becomes a small one, all other bytes stay.
  Conditions: the text is no longer than a text may be.
-/
import Derived.Test.YtclnkboejbnfnaaGreatNames
import Derived.Test.YtclnkboejbnfnaaGreatWords
namespace Go.Proofs.YtclnkboejbnfnaaGreat
open Go.RowKit

/-- A byte, folded. -/
def foldC (x : UInt8) : UInt8 := if inR 65 90 x then x + 32 else x
/-- Bytes, folded. -/
def fold5 (l : List UInt8) : List UInt8 := l.map foldC

theorem foldC_hit {x : UInt8} (h : inR 65 90 x = true) : ((foldC x).toNat : Int) = (x.toNat : Int) - 65 + 97 ∧ 65 ≤ x.toNat ∧ x.toNat ≤ 90 := by
  have h2 : 65 ≤ x.toNat ∧ x.toNat ≤ 90 := by simpa [inR] using h
  refine ⟨?_, h2.1, h2.2⟩
  unfold foldC
  rw [if_pos h, UInt8.toNat_add]
  have : (32 : UInt8).toNat = 32 := rfl
  rw [this]
  omega
theorem foldC_miss {x : UInt8} (h : inR 65 90 x = false) : foldC x = x := by unfold foldC; rw [h]; simp

/-- The row of n bytes at block B reads as f says, and may be written. -/
def Row5 (w : World) (B n : Nat) (f : Nat → UInt8) : Prop :=
  B < w.heap.size ∧ ∀ j, j < n → w.cell? ⟨B, j, none⟩ = some (.int .u8 (f j).toNat) ∧ w.frozen? ⟨B, j, none⟩ = false
theorem Row5.drewN {w : World} {B n : Nat} {f : Nat → UInt8} (h : Row5 w B n f) (q : Nat) : Row5 (w.drewN q) B n f := h
theorem Row5.set {w : World} {B n : Nat} {f : Nat → UInt8} (h : Row5 w B n f) (k : Nat) (hk : k < n) (x : Int) (y : UInt8) (hx : (y.toNat : Int) = x) :
    Row5 (w.setCell ⟨B, k, none⟩ (.int .u8 x)) B n (fun j => if j = k then y else f j) := by
  refine ⟨by have := h.1; simpa [World.setCell] using this, fun j hj => ⟨?_, ?_⟩⟩
  · by_cases e : j = k
    · subst e
      simp only [if_true, hx]
      exact World.cell?_setCell_same _ _ _ (h.2 j hj).1
    · rw [World.cell?_setCell_other _ _ _ _ (fun he => e (by injection he with _ h2 _; exact h2.symm))]
      simp only [if_neg e]
      exact (h.2 j hj).1
  · have := (h.2 j hj).2
    simpa [World.frozen?_setCell] using this

theorem Row5.like {w : World} {B n : Nat} {f g : Nat → UInt8} (h : Row5 w B n f) (e : ∀ j, f j = g j) : Row5 w B n g := (funext e : f = g) ▸ h

theorem row_new (w : World) (s : ByteArray) (cap : Nat) (t : TypeId) :
    Row5 (w.alloc (.cells (bytesRow s cap) t ((bytesRow s cap).size, (bytesRow s cap).size + 1))) w.heap.size s.size (fun j => s.data.toList.getD j 0) := by
  refine ⟨by simp, fun j hj => ⟨?_, ?_⟩⟩
  · rw [World.cell?_alloc_mark]
    have hj' : j < s.data.size := hj
    simp only [bytesRow, Array.getElem?_append, Array.size_map]
    rw [if_pos hj', Array.getElem?_map, Array.getElem?_eq_getElem hj']
    simp only [List.getD, Array.getElem?_toList, Array.getElem?_eq_getElem hj', Option.getD_some, Option.map_some]
  · rw [World.frozen?_alloc_mark]
    have : s.size ≤ (bytesRow s cap).size := by
      have : (bytesRow s cap).size = s.data.size + (cap - s.size) := by simp [bytesRow]
      have e : s.data.size = s.size := rfl
      omega
    simp only [Bool.and_eq_false_iff, decide_eq_false_iff_not]
    left; omega

theorem row_string {w : World} {B n cap : Nat} {f : Nat → UInt8} (h : Row5 w B n f) :
    (convert 87 9 (.slice (some ⟨B, 0, none⟩) n cap)).run Tryz.prog w = .ok (.string ⟨((List.range n).map f).toArray⟩) w := by
  have hr : Rd w (.slice (some ⟨B, 0, none⟩) n cap) ((List.range n).map f) := by
    refine ⟨some ⟨B, 0, none⟩, cap, by simp, fun _ => ⟨_, rfl, h.1, fun j u hu => ?_⟩⟩
    have hadd : (⟨B, 0, none⟩ : Addr).add j = ⟨B, j, none⟩ := by unfold Addr.add; split <;> simp_all
    have hj : j < n := by
      have := (List.getElem?_eq_some_iff.1 hu).1
      simpa [cellsOf_length] using this
    rw [hadd, (h.2 j hj).1]
    simp [cellsOf, hj] at hu
    rw [← hu]
  exact hr.string Tryz.underlying87 Tryz.underlying5 Tryz.underlying9

end Go.Proofs.YtclnkboejbnfnaaGreat

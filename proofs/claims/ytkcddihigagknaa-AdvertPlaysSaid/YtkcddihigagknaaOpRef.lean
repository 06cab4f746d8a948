/-
  The document's parts, From and Text of an operation.
  Conditions: texts of at most 65535 bytes.
-/
import Derived.Test.YtkcddihigagknaaOpChk
import Derived.Test.YtkcddihigagknaaRef
namespace Go.Proofs.Ytkcddihigagknaa
open Go.RowKit

section
variable {w w' : World} {B : Nat} {o : O14}
end


/-- How many texts belong to a kind, and whether there is such a kind. -/
def prts14 : List (Int × Bool) := [(2, true), (1, true), (2, true), (1, true), (1, true), (2, true), (1, true), (1, true), (2, true), (1, true), (1, true), (2, true), (2, true), (1, true), (1, true), (0, true), (-1, true)]
def prt14 (k : Nat) : Int × Bool := prts14.getD k (0, false)
/-- Five ways. -/
theorem cls14 (k : Nat) : (prt14 k = (2, true) ∧ sig14 k = [97, 98] ∧ know14 k = true) ∨ (prt14 k = (1, true) ∧ sig14 k = [97] ∧ know14 k = true) ∨ (prt14 k = (0, true) ∧ sig14 k = [] ∧ know14 k = true) ∨
    (prt14 k = (-1, true) ∧ sig14 k = [110, 114] ∧ know14 k = true) ∨ (prt14 k = (0, false) ∧ sig14 k = [] ∧ know14 k = false) := by
  by_cases h : k < 17
  · have hall : ∀ k : Fin 17, (prt14 k = (2, true) ∧ sig14 k = [97, 98] ∧ know14 k = true) ∨ (prt14 k = (1, true) ∧ sig14 k = [97] ∧ know14 k = true) ∨ (prt14 k = (0, true) ∧ sig14 k = [] ∧ know14 k = true) ∨
        (prt14 k = (-1, true) ∧ sig14 k = [110, 114] ∧ know14 k = true) ∨ (prt14 k = (0, false) ∧ sig14 k = [] ∧ know14 k = false) := by decide
    exact hall ⟨k, h⟩
  · refine .inr (.inr (.inr (.inr ⟨?_, (none14 (k := k) (by omega)).2.1, ?_⟩)))
    · unfold prt14
      rw [List.getD_eq_getElem?_getD, List.getElem?_eq_none (by show 17 ≤ k; omega)]
      rfl
    · have : ¬ (k : Int) < 17 := by omega
      simp [know14, this]

theorem frm14_cases (k : Int) : (k < 0 ∧ frm14 k = 0) ∨ (0 ≤ k ∧ k < 5 ∧ frm14 k = 1) ∨ (5 ≤ k ∧ k ≤ 14 ∧ frm14 k = 2) ∨ (14 < k ∧ k ≤ 16 ∧ frm14 k = 1) ∨ (16 < k ∧ frm14 k = 0) := by
  by_cases h0 : k < 0
  · exact .inl ⟨h0, by unfold frm14; rw [if_pos h0]⟩
  · obtain ⟨n, rfl⟩ : ∃ n : Nat, k = n := ⟨k.toNat, by omega⟩
    by_cases h1 : n < 17
    · have hall : ∀ n : Fin 17, ((n : Nat) < 5 ∧ frm14 n = 1) ∨ (5 ≤ (n : Nat) ∧ (n : Nat) ≤ 14 ∧ frm14 n = 2) ∨ (14 < (n : Nat) ∧ frm14 n = 1) := by decide
      rcases hall ⟨n, h1⟩ with ⟨a, b⟩ | ⟨a, b, c⟩ | ⟨a, b⟩
      · exact .inr (.inl ⟨by omega, by simp only [] at a; omega, b⟩)
      · exact .inr (.inr (.inl ⟨by simp only [] at a; omega, by simp only [] at b; omega, c⟩))
      · exact .inr (.inr (.inr (.inl ⟨by simp only [] at a; omega, by omega, b⟩)))
    · exact .inr (.inr (.inr (.inr ⟨by omega, (none14 (by omega)).2.2⟩)))
theorem le_one14 (b : UInt8) : le b.toNat 1 = [b] := by simp [le]
theorem conv14 {w : World} {v : Value} {l : List UInt8} (h : Rd w v l) : (convert 40 9 v).run Try.prog w = .ok (.string (tx14 l)) w :=
  h.string (P := Try.prog) (src := 40) (dst := 9) Try.underlying40 Try.underlying5 Try.underlying9
theorem rd_two14 (w : World) (a b : UInt8) : Rd (w.alloc (.cells #[.int .u8 a.toNat, .int .u8 b.toNat] 5)) (.slice (some ⟨w.heap.size, 0, none⟩) 2 2) [a, b] := by
  refine ⟨_, 2, rfl, fun _ => ⟨_, rfl, by simp, fun j u hj => ?_⟩⟩
  match j, hj with
  | 0, hj => simp [cellsOf] at hj; subst hj; simp [Addr.add]
  | 1, hj => simp [cellsOf] at hj; subst hj; simp [Addr.add]
  | j + 2, hj => simp [cellsOf] at hj
theorem cat14 (W : World) (x y : List UInt8) (h : x.length + y.length ≤ 1099511627776) : (Op.stringOp .add (tx14 x) (tx14 y)).run Try.prog W = .ok (.string (tx14 (x ++ y))) W := add_str W x y h
end Go.Proofs.Ytkcddihigagknaa

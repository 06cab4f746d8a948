/-
  The table of kinds as it is laid, and what of, From and Name tell out of it.
  Conditions: the table reads as it is laid.
-/
import Derived.WalkKit
import Derived.WalkSpells
import Derived.Deep.Draws
import Derived.Deep.LoopGhost
import Derived.Deep.QuietTactic
import Derived.BigQuiet
import Derived.Lib.Hide
import Derived.KernelRfl
import Derived.Lib.OthersKept
import Derived.Test.YtkcddihigagknaaProg
import Derived.Test.YtkcddihigagknaaWords
namespace Go.Proofs.Ytkcddihigagknaa
open Go.RowKit

theorem next14 {a b c : World} (h : Below a.heap.size a b) (k : Below b.heap.size b c) : Below a.heap.size a c := h.trans (k.mono h.size)
theorem drew14 {a w : World} (h : Below a.heap.size a w) : Below a.heap.size a w.drew := h.drew
theorem drewN14 {a w : World} (h : Below a.heap.size a w) (q : Nat) : Below a.heap.size a (w.drewN q) := ⟨h.os, h.tape, h.output, h.size, h.block⟩
theorem alloc14 {a w : World} (h : Below a.heap.size a w) (o : Obj) : Below a.heap.size a (w.alloc o) := h.alloc h.size o
theorem still14 {a w : World} (h : Turns (fun _ => False) a w) : Below a.heap.size a w := h.below (fun _ f => f.elim)
theorem turns14 {a w : World} (h : Below a.heap.size a w) : Turns (fun _ => False) a w := Turns.of_below h _

/-- What the kinds are called, which parts they have, and from which schema on there are such. -/
def nams14 : List (List UInt8) := [[99, 114, 101, 97, 116, 101], [100, 101, 108, 101, 116, 101], [115, 101, 116, 104, 97, 115, 104], [108, 111, 111, 107, 117, 112], [108, 105, 115, 116], [115, 101, 116, 109, 97, 105, 108], [100, 105, 115, 97, 98, 108, 101], [101, 110, 97, 98, 108, 101], [114, 101, 110, 97, 109, 101], [109, 97, 107, 101], [100, 114, 111, 112], [106, 111, 105, 110], [108, 101, 97, 118, 101], [102, 105, 110, 100], [109, 101, 109, 98, 101, 114, 115], [117, 112, 103, 114, 97, 100, 101], [97, 100, 118, 101, 114, 116, 105, 115, 101]]
def sigs14 : List (List UInt8) := [[97, 98], [97], [97, 98], [97], [97], [97, 98], [97], [97], [97, 98], [97], [97], [97, 98], [97, 98], [97], [97], [], [110, 114]]
def frms14 : List Int := [1, 1, 1, 1, 1, 2, 2, 2, 2, 2, 2, 2, 2, 2, 2, 1, 1]
def nam14 (k : Int) : List UInt8 := if k < 0 then [] else nams14.getD k.toNat []
def sig14 (k : Int) : List UInt8 := if k < 0 then [] else sigs14.getD k.toNat []
def frm14 (k : Int) : Int := if k < 0 then 0 else frms14.getD k.toNat 0
theorem sig14_few (k : Int) : (sig14 k).length ≤ 2 := by
  unfold sig14
  split
  · exact Nat.zero_le _
  · have hall : ∀ s ∈ sigs14, s.length ≤ 2 := by decide
    rw [List.getD_eq_getElem?_getD]
    rcases h : sigs14[k.toNat]? with _ | s
    · exact Nat.zero_le _
    · exact hall s (List.mem_of_getElem? h)
theorem sig14_signs (k : Int) : ∀ c ∈ sig14 k, c = 97 ∨ c = 98 ∨ c = 110 ∨ c = 114 := by
  unfold sig14
  split
  · intro c hc; cases hc
  · have hall : ∀ s ∈ sigs14, ∀ c ∈ s, c = 97 ∨ c = 98 ∨ c = 110 ∨ c = 114 := by decide
    rw [List.getD_eq_getElem?_getD]
    rcases h : sigs14[k.toNat]? with _ | s
    · intro c hc; cases hc
    · exact hall s (List.mem_of_getElem? h)
theorem none14 {k : Int} (h : ¬ (0 ≤ k ∧ k < 17)) : nam14 k = [] ∧ sig14 k = [] ∧ frm14 k = 0 := by
  unfold nam14 sig14 frm14
  by_cases h0 : k < 0
  · rw [if_pos h0, if_pos h0, if_pos h0]; exact ⟨rfl, rfl, rfl⟩
  · rw [if_neg h0, if_neg h0, if_neg h0]
    have h1 : 17 ≤ k.toNat := by omega
    refine ⟨?_, ?_, ?_⟩
    · rw [List.getD_eq_getElem?_getD, List.getElem?_eq_none (by exact h1)]; rfl
    · rw [List.getD_eq_getElem?_getD, List.getElem?_eq_none (by exact h1)]; rfl
    · rw [List.getD_eq_getElem?_getD, List.getElem?_eq_none (by exact h1)]; rfl

/-- A text. -/
def tx14 (l : List UInt8) : ByteArray := ⟨l.toArray⟩
theorem tx14_list (l : List UInt8) : (tx14 l).data.toList = l := by simp [tx14]
theorem tx14_size (l : List UInt8) : (tx14 l).size = l.length := by show l.toArray.size = _; simp
theorem tx14_back (s : ByteArray) : tx14 s.data.toList = s := by
  obtain ⟨⟨l⟩⟩ := s
  rfl
theorem tx14_at (l : List UInt8) (k : Nat) (h : k < (tx14 l).size) : (tx14 l)[k]'h = l[k]'(by rw [← tx14_size]; exact h) := by
  show (tx14 l).data[k]'h = _
  simp [tx14]

/-- A value is told, and nothing that was there has turned. -/
def Says14 (v : Value) (w : World) (e : Ending) (w' : World) : Prop := e = .returned v ∧ Below w.heap.size w w'

def know14 (k : Int) : Bool := decide (0 ≤ k) && decide (k < 17)
/-- What a kind has. -/
def trt14 (k : Int) : Value := .agg #[.string (tx14 (nam14 k)), .string (tx14 (sig14 k)), .int .i64 (frm14 k)]
end Go.Proofs.Ytkcddihigagknaa

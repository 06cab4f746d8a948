/-
  A truth that is told; memory that reads as rows of bytes.
  Conditions: none.
-/
import Derived.Test.YtbpccjofopenoaaWords
namespace Go.Proofs.Ytbpccjofopenoaa
open Go.RowKit

/-- It tells a truth, and nothing that was there has turned. -/
def Told2 (b : Bool) (w : World) (e : Ending) (w' : World) : Prop := e = .returned (.bool b) ∧ Turns (fun _ => False) w w'
/-- Memory that reads as rows of bytes, nil let in. -/
def RdB (w : World) (A : Option Addr) (rs : List (List UInt8)) : Prop :=
  rs ≠ [] → ∃ b off, A = some ⟨b, off, none⟩ ∧ b < w.heap.size ∧ ∀ j (hj : j < rs.length), ∃ A' c', w.cell? ⟨b, off + j, none⟩ = some (.slice A' rs[j].length c') ∧ Rd w (.slice A' rs[j].length c') rs[j] ∧ rs[j].length ≤ 9223372036854775807
theorem RdB.at_ {w w' : World} {A : Option Addr} {rs : List (List UInt8)} (h : RdB w A rs) (ht : Turns (fun _ => False) w w') (k : Nat) (hk : k < rs.length) :
    ∃ b off A' c' row, A = some ⟨b, off, none⟩ ∧ w'.cell? ⟨b, off + k, none⟩ = some (.slice A' row.length c') ∧ Rd w (.slice A' row.length c') row ∧ row.length ≤ 9223372036854775807 ∧ rs.take (k + 1) = rs.take k ++ [row] := by
  obtain ⟨b, off, rfl, hb, hc⟩ := h (by intro e; subst e; simp at hk)
  obtain ⟨A', c', h1, h2, h3⟩ := hc k hk
  exact ⟨b, off, A', c', rs[k], rfl, (ht.cell (p := ⟨b, off + k, none⟩) hb (fun f => f)).trans h1, h2, h3, List.take_succ_eq_append_getElem hk⟩
end Go.Proofs.Ytbpccjofopenoaa

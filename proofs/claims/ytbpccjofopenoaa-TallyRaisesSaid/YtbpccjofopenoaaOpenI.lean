/-
  What the reading of an argument tells of memory: a slice of numbers of 64 bits and a sign.
  Conditions: none.
-/
import Derived.Test.YtbpccjofopenoaaWords
import Derived.Test.YtbpccjofopenoaaProg
import Derived.Test.YtbpccjofopenoaaRows
import Derived.ProofKit
import Derived.OpenShut
import Derived.ChangeOld
import Derived.SliceStrings
import Derived.Deep.Slices
namespace Go.Proofs.Ytbpccjofopenoaa
open Go.ChangeShapes Go.WideShapes Go.ChangeAt Go.RowKit Go.Deep

theorem cellsOfI64 : Try.prog.cellsOf 2 = 1 := by kernel_rfl
/-- A number of 64 bits and a sign. -/
def In64 (x : Int) : Prop := -9223372036854775808 ≤ x ∧ x ≤ 9223372036854775807
/-- Memory that reads as numbers. -/
def RdI6 (w : World) (A : Option Addr) (l : List Int) : Prop :=
  l ≠ [] → ∃ b off, A = some ⟨b, off, none⟩ ∧ b < w.heap.size ∧ ∀ j (hj : j < l.length), w.cell? ⟨b, off + j, none⟩ = some (.int .i64 l[j])
theorem RdI6.still {w w' : World} {A : Option Addr} {l : List Int} (h : RdI6 w A l) (ht : Turns (fun _ => False) w w') : RdI6 w' A l := fun hl => by
  obtain ⟨b, off, rfl, hb, hc⟩ := h hl
  exact ⟨b, off, rfl, Nat.lt_of_lt_of_le hb ht.size, fun j hj => (ht.cell (p := ⟨b, off + j, none⟩) hb (fun f => f)).trans (hc j hj)⟩
/-- What is known of a slice of numbers that came in. -/
def IsInts (w : World) (A : Option Addr) (len : Nat) (l : List Int) : Prop := len = l.length ∧ l.length ≤ 9223372036854775807 ∧ RdI6 w A l ∧ ∀ x ∈ l, In64 x

theorem ints_of {H : Type} {enc : TypeId × Value → H} {W : World} {base : Nat} {sp : Nat → Bool} {hd : Bool} {a : Option Addr} {len cap : Nat} {d : DataW H} {p : List MemPlace}
    (h : DataW.Trod enc Try.prog W base sp hd 50 (.slice a len cap) d p) : ∃ l, IsInts W a len l := by
  obtain ⟨fuel, hf0⟩ := h
  have hf : DataW.trod enc Try.prog W base sp hd fuel 50 [.slice a len cap] = some (d, p) := hf0
  rcases open_ints Try.underlying50 Try.underlying2 cellsOfI64 hf with ⟨hcs, _⟩ | ⟨x, l, c, zs, hcs, _, hl, hm, hz, _, hcell, hwz⟩
  · simp at hcs
    obtain ⟨rfl, rfl, rfl⟩ := hcs
    exact ⟨[], rfl, by simp, fun h => absurd rfl h, fun x hx => by cases hx⟩
  · simp at hcs
    obtain ⟨rfl, rfl, rfl⟩ := hcs
    have hlen : len ≤ zs.length := by rw [hz]; split <;> omega
    have hlt : (zs.take len).length = len := by rw [List.length_take]; omega
    have hmx : cap ≤ 9223372036854775807 := by simpa [maxLen] using hm
    refine ⟨zs.take len, hlt.symm, by omega, fun hne => ?_, fun x hx => bounds_i64 (hwz x (List.mem_of_mem_take hx))⟩
    have hp : 0 < zs.length := by
      rcases Nat.eq_zero_or_pos zs.length with h | h
      · exact absurd (by rw [List.eq_nil_of_length_eq_zero h]; simp) hne
      · exact h
    have h0 := hcell 0 hp
    have hs : (x.add 0).spot = none := World.cell?_spot h0
    obtain ⟨g, off, s⟩ := x
    have hsp : s = none := by
      cases s with
      | none => rfl
      | some p => simp [Addr.add] at hs
    subst hsp
    refine ⟨g, off, rfl, ?_, fun j hj => ?_⟩
    · have := World.block_lt_of_cell? W _ h0
      rwa [add_block] at this
    · have hj' : j < zs.length := by omega
      have := hcell j hj'
      rw [Addr.add_lit] at this
      rw [this, List.getElem_take, List.getD_eq_getElem?_getD, List.getElem?_eq_getElem hj']
      rfl
end Go.Proofs.Ytbpccjofopenoaa

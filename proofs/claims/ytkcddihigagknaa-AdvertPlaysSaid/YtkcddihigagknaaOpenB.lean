/-
  What the reading of an argument tells of memory: a slice of bytes.
  Conditions: none.
-/
import Derived.Test.YtkcddihigagknaaWords
import Derived.Test.YtkcddihigagknaaProg
import Derived.Test.YtkcddihigagknaaRows
import Derived.ProofKit
import Derived.OpenShut
import Derived.ChangeOld
import Derived.SliceStrings
import Derived.Deep.Slices
namespace Go.Proofs.Ytkcddihigagknaa
open Go.ChangeShapes Go.WideShapes Go.ChangeAt Go.RowKit Go.Deep

theorem cellsOfByte2 : Try.prog.cellsOf 5 = 1 := by kernel_rfl
/-- What is known of a slice of bytes that came in. -/
def IsBytes (w : World) (A : Option Addr) (len cap : Nat) (bl : List UInt8) : Prop := len = bl.length ∧ bl.length ≤ 9223372036854775807 ∧ Rd w (.slice A len cap) bl

theorem bytes_in {H : Type} {enc : TypeId × Value → H} {W : World} {base : Nat} {sp : Nat → Bool} {hd : Bool} {fuel : Nat} {a : Option Addr} {len cap : Nat} {x : DataW H × List MemPlace}
    (hf : DataW.trod enc Try.prog W base sp hd fuel 40 [.slice a len cap] = some x) : ∃ bl, IsBytes W a len cap bl := by
  rcases open_ints Try.underlying40 Try.underlying5 cellsOfByte2 hf with ⟨hcs, _⟩ | ⟨x, l, c, zs, hcs, _, hl, hm, hz, _, hcell, hwz⟩
  · simp at hcs
    obtain ⟨rfl, rfl, rfl⟩ := hcs
    exact ⟨[], rfl, by simp, none, 0, rfl, fun h => absurd rfl h⟩
  · simp at hcs
    obtain ⟨rfl, rfl, rfl⟩ := hcs
    have hlen : len ≤ zs.length := by rw [hz]; split <;> omega
    have hlt : ((zs.take len).map fun z => UInt8.ofNat z.toNat).length = len := by rw [List.length_map, List.length_take]; omega
    have hmx : cap ≤ 9223372036854775807 := by simpa [maxLen] using hm
    refine ⟨(zs.take len).map fun z => UInt8.ofNat z.toNat, hlt.symm, by omega, some x, cap, by rw [hlt], fun hne => ?_⟩
    have hp : 0 < zs.length := by
      rcases Nat.eq_zero_or_pos zs.length with h | h
      · exact absurd (by rw [List.eq_nil_of_length_eq_zero h]; simp) hne
      · exact h
    refine ⟨x, rfl, ?_, fun j u hu => ?_⟩
    · have := World.block_lt_of_cell? W _ (hcell 0 hp)
      rwa [add_block] at this
    · rw [cellsOf, List.map_map, List.getElem?_map] at hu
      obtain ⟨z, hz', rfl⟩ := Option.map_eq_some_iff.1 hu
      obtain ⟨hj, he⟩ := List.getElem?_eq_some_iff.1 hz'
      rw [List.length_take] at hj
      rw [List.getElem_take] at he
      have hj' : j < zs.length := by omega
      rw [hcell j hj']
      have hb := bounds_u8 (hwz z (by rw [← he]; exact List.getElem_mem hj'))
      simp only [List.getD_eq_getElem?_getD, List.getElem?_eq_getElem hj', he, Function.comp, Option.getD_some, UInt8.toNat_ofNat']
      congr 2
      omega
theorem bytes_of {H : Type} {enc : TypeId × Value → H} {W : World} {base : Nat} {sp : Nat → Bool} {hd : Bool} {a : Option Addr} {len cap : Nat} {d : DataW H} {p : List MemPlace}
    (h : DataW.Trod enc Try.prog W base sp hd 40 (.slice a len cap) d p) : ∃ bl, IsBytes W a len cap bl := by
  obtain ⟨fuel, hf⟩ := h
  exact bytes_in hf
end Go.Proofs.Ytkcddihigagknaa

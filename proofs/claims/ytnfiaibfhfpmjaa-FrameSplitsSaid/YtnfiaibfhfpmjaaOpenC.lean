/-
  What the reading of an argument tells of memory: a slice of bytes that may be cut.
  Conditions: none.
-/
import Derived.Test.YtnfiaibfhfpmjaaOpenB
namespace Go.Proofs.Ytnfiaibfhfpmjaa
open Go.ChangeShapes Go.WideShapes Go.ChangeAt Go.RowKit Go.Deep

/-- What is known of a slice of bytes that came in, its room too. -/
def IsBytesC (w : World) (A : Option Addr) (len cap : Nat) (bl : List UInt8) : Prop := len = bl.length ∧ bl.length ≤ 9223372036854775807 ∧ RdC w (.slice A len cap) bl
theorem bytesC_in {H : Type} {enc : TypeId × Value → H} {W : World} {base : Nat} {sp : Nat → Bool} {hd : Bool} {fuel : Nat} {a : Option Addr} {len cap : Nat} {x : DataW H × List MemPlace}
    (hf : DataW.trod enc Try.prog W base sp hd fuel 22 [.slice a len cap] = some x) : ∃ bl, IsBytesC W a len cap bl := by
  obtain ⟨bl, h1, h2, h3⟩ := bytes_in hf
  refine ⟨bl, h1, h2, h3, ?_⟩
  rcases open_ints Try.underlying22 Try.underlying5 cellsOfByte2 hf with ⟨hcs, _⟩ | ⟨x, l, c, zs, hcs, _, hl, hm, hz, _, hcell, hwz⟩
  · simp at hcs
    obtain ⟨rfl, rfl, rfl⟩ := hcs
    exact ⟨none, 0, by rw [← h1], by omega, by omega⟩
  · simp at hcs
    obtain ⟨rfl, rfl, rfl⟩ := hcs
    exact ⟨some x, cap, by rw [← h1], by omega, by simpa [maxLen] using hm⟩
theorem bytesC_of {H : Type} {enc : TypeId × Value → H} {W : World} {base : Nat} {sp : Nat → Bool} {hd : Bool} {a : Option Addr} {len cap : Nat} {d : DataW H} {p : List MemPlace}
    (h : DataW.Trod enc Try.prog W base sp hd 22 (.slice a len cap) d p) : ∃ bl, IsBytesC W a len cap bl := by
  obtain ⟨fuel, hf⟩ := h
  exact bytesC_in hf
end Go.Proofs.Ytnfiaibfhfpmjaa

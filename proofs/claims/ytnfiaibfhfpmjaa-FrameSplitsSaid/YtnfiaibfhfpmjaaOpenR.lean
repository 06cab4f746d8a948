/-
  What the reading of an argument tells of memory: a slice of slices of bytes.
  Conditions: none.
-/
import Derived.Test.YtnfiaibfhfpmjaaTold
import Derived.Test.YtnfiaibfhfpmjaaOpenB
namespace Go.Proofs.Ytnfiaibfhfpmjaa
open Go.ChangeShapes Go.WideShapes Go.ChangeAt Go.RowKit Go.Deep

theorem cellsOfBytes2 : Try.prog.cellsOf 22 = 1 := by kernel_rfl
theorem bytes_any {H : Type} {enc : TypeId × Value → H} {W : World} {base : Nat} {sp : Nat → Bool} {hd : Bool} {fuel : Nat} {cs : List Value} {x : DataW H × List MemPlace}
    (hf : DataW.trod enc Try.prog W base sp hd fuel 22 cs = some x) : ∃ a len cap bl, cs = [.slice a len cap] ∧ IsBytes W a len cap bl := by
  have h0 := open_ints Try.underlying22 Try.underlying5 cellsOfByte2 hf
  have hcs : ∃ a len cap, cs = [.slice a len cap] := by
    rcases h0 with ⟨h, _⟩ | ⟨x, l, c, zs, h, _⟩
    · exact ⟨_, _, _, h⟩
    · exact ⟨_, _, _, h⟩
  obtain ⟨a, len, cap, rfl⟩ := hcs
  obtain ⟨bl, h⟩ := bytes_in hf
  exact ⟨a, len, cap, bl, rfl, h⟩
theorem choose_fun {α : Type} (d : α) {φ : Nat → α → Prop} {m : Nat} (h : ∀ i, i < m → ∃ t, φ i t) : ∃ T : Nat → α, ∀ i, i < m → φ i (T i) := by
  refine ⟨fun i => if hi : i < m then Classical.choose (h i hi) else d, fun i hi => ?_⟩
  have : (if hi : i < m then Classical.choose (h i hi) else d) = Classical.choose (h i hi) := dif_pos hi
  show φ i (if hi : i < m then Classical.choose (h i hi) else d)
  rw [this]
  exact Classical.choose_spec (h i hi)
/-- What is known of a slice of slices of bytes that came in. -/
def IsRows (w : World) (A : Option Addr) (len : Nat) (rs : List (List UInt8)) : Prop := len = rs.length ∧ rs.length ≤ 9223372036854775807 ∧ RdB w A rs
theorem rows_of {H : Type} {enc : TypeId × Value → H} {W : World} {base : Nat} {sp : Nat → Bool} {hd : Bool} {a : Option Addr} {len cap : Nat} {d : DataW H} {p : List MemPlace}
    (h : DataW.Trod enc Try.prog W base sp hd 37 (.slice a len cap) d p) : ∃ rs, IsRows W a len rs := by
  obtain ⟨fuel, hf⟩ := h
  rcases open_slice Try.underlying37 hf with ⟨hcs, _⟩ | ⟨x, l, c, m, n, D, Pl, hcs, _, hl, hm, hmm, _, hi⟩
  · simp [Value.cells] at hcs
    obtain ⟨rfl, rfl, rfl⟩ := hcs
    exact ⟨[], rfl, by simp, fun h => absurd rfl h⟩
  · simp [Value.cells] at hcs
    obtain ⟨rfl, rfl, rfl⟩ := hcs
    have hlm : len ≤ m := by rw [hmm]; split <;> omega
    rw [cellsOfBytes2] at hi
    have hex : ∀ i, i < m → ∃ bl : List UInt8, ∃ a' c', W.cell? (x.add i) = some (.slice a' bl.length c') ∧ Rd W (.slice a' bl.length c') bl ∧ bl.length ≤ 9223372036854775807 := by
      intro i him
      obtain ⟨cs', hc, ht'⟩ := hi i him
      obtain ⟨a', len', c', bl, rfl, rfl, h2, h3⟩ := bytes_any ht'
      have hc0 := (World.cells?_some hc).2.2 0 (by omega)
      rw [Nat.mul_one] at hc0
      refine ⟨bl, a', c', ?_, h3, h2⟩
      have e : (x.add i).add 0 = x.add i := by unfold Addr.add; split <;> simp_all
      rw [e] at hc0
      exact hc0
    obtain ⟨T, hT⟩ := choose_fun ([] : List UInt8) hex
    refine ⟨(List.range len).map T, by simp, by simpa [maxLen] using Nat.le_trans hl hm, fun hne => ?_⟩
    have hp : 0 < len := by
      rcases Nat.eq_zero_or_pos len with h | h
      · subst h; simp at hne
      · exact h
    obtain ⟨a0, c0, hc0, _⟩ := hT 0 (by omega)
    have hs : (x.add 0).spot = none := World.cell?_spot hc0
    have hx : x = ⟨x.block, x.off, none⟩ := by
      obtain ⟨g, off, sp⟩ := x
      cases sp with
      | none => rfl
      | some p => simp [Addr.add] at hs
    refine ⟨x.block, x.off, by rw [← hx], ?_, fun i hi' => ?_⟩
    · have := World.block_lt_of_cell? W _ hc0
      rwa [add_block] at this
    · rw [List.length_map, List.length_range] at hi'
      have e : ((List.range len).map T)[i]'(by simpa using hi') = T i := by simp
      rw [e]
      obtain ⟨a', c', h1, h2, h3⟩ := hT i (by omega)
      refine ⟨a', c', ?_, h2, h3⟩
      rw [hx, Addr.add_lit] at h1
      exact h1
end Go.Proofs.Ytnfiaibfhfpmjaa

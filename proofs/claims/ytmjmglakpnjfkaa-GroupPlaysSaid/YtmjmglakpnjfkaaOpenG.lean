/-
  What the reading of an argument tells of memory: a slice of acts of the law of groups.
  Conditions: none.
-/
import Derived.Test.YtmjmglakpnjfkaaOpenE
namespace Go.Proofs.Ytmjmglakpnjfkaa
open Go.ChangeShapes Go.WideShapes Go.ChangeAt Go.RowKit Go.Deep

theorem cellsOfU8g : Try.prog.cellsOf 5 = 1 := by kernel_rfl
theorem cellsOfStrg : Try.prog.cellsOf 9 = 1 := by kernel_rfl
theorem cellsOfActg : Try.prog.cellsOf 32 = 3 := by kernel_rfl

section
variable {H : Type} {enc : TypeId × Value → H} {W : World} {base : Nat} {sp : Nat → Bool} {hd : Bool} {fuel : Nat}
set_option maxRecDepth 100000 in
theorem actg_of {cs : List Value} {x : DataW H × List MemPlace} (h : DataW.trod enc Try.prog W base sp hd fuel 32 cs = some x) :
    ∃ t : Act7, cs = t.cells ∧ t.kd < 256 ∧ t.nm.size ≤ 9223372036854775807 ∧ t.hs.size ≤ 9223372036854775807 := by
  obtain ⟨ys, n, _, _, hlen, hyl, hf⟩ := DataW.trod_struct Try.underlying32 h
  rw [cellsOfActg] at hlen
  match cs, hlen, ys, hyl with
  | [c0, c1, c2], _, [y0, y1, y2], _ =>
    have f0 : DataW.trod enc Try.prog W base sp hd n 5 (([c0, c1, c2].drop 0).take (Try.prog.cellsOf 5)) = some y0 := hf 0 _ rfl
    have f1 : DataW.trod enc Try.prog W base sp hd n 9 (([c0, c1, c2].drop 1).take (Try.prog.cellsOf 9)) = some y1 := hf 1 _ rfl
    have f2 : DataW.trod enc Try.prog W base sp hd n 9 (([c0, c1, c2].drop 2).take (Try.prog.cellsOf 9)) = some y2 := hf 2 _ rfl
    rw [cellsOfU8g] at f0
    rw [cellsOfStrg] at f1 f2
    obtain ⟨kd, e0, _, w0⟩ := DataW.trod_int Try.underlying5 f0
    obtain ⟨nm, e1, _, w1⟩ := DataW.trod_string Try.underlying9 f1
    obtain ⟨hs, e2, _, w2⟩ := DataW.trod_string Try.underlying9 f2
    simp only [List.drop_zero, List.drop_succ_cons, List.take_succ_cons, List.take_zero, List.cons.injEq, and_true] at e0 e1 e2
    subst e0 e1 e2
    have b0 := bounds_u8 w0
    obtain ⟨kn, rfl⟩ := Int.eq_ofNat_of_zero_le b0.1
    exact ⟨⟨kn, nm, hs⟩, rfl, by show kn < 256; omega, Nat.le_trans w1 (by decide), Nat.le_trans w2 (by decide)⟩

set_option maxRecDepth 100000 in
theorem actgs_of {a : Option Addr} {len cap : Nat} {d : DataW H} {p : List MemPlace} (h : DataW.Trod enc Try.prog W base sp hd 22 (.slice a len cap) d p) : ∃ l, IsActs7 W a len l := by
  obtain ⟨fuel, hf⟩ := h
  rcases open_slice Try.underlying22 hf with ⟨hcs, _⟩ | ⟨x, l, c, m, n, D, Pl, hcs, _, hl, hm, hmm, _, hi⟩
  · simp [Value.cells] at hcs
    obtain ⟨rfl, rfl, rfl⟩ := hcs
    exact ⟨[], rfl, by simp, fun h => absurd rfl h, by simp⟩
  · simp [Value.cells] at hcs
    obtain ⟨rfl, rfl, rfl⟩ := hcs
    have hlm : len ≤ m := by rw [hmm]; split <;> omega
    rw [cellsOfActg] at hi
    have hex : ∀ i, i < m → ∃ t : Act7, (∀ j, j < 3 → W.cell? ((x.add (i * 3)).add j) = t.cells[j]?) ∧ t.kd < 256 ∧ t.nm.size ≤ 9223372036854775807 ∧ t.hs.size ≤ 9223372036854775807 := by
      intro i him
      obtain ⟨cs', hc, ht'⟩ := hi i him
      obtain ⟨t, rfl, hrest⟩ := actg_of ht'
      exact ⟨t, (World.cells?_some hc).2.2, hrest⟩
    obtain ⟨T, hT⟩ := pick_acte ⟨0, ⟨#[]⟩, ⟨#[]⟩⟩ hex
    refine ⟨(List.range len).map T, by simp, by simpa [maxLen] using Nat.le_trans hl hm, fun hne => ?_, fun t ht => ?_⟩
    · have hp : 0 < len := by
        rcases Nat.eq_zero_or_pos len with h | h
        · subst h; simp at hne
        · exact h
      have hc0 := (hT 0 (by omega)).1 0 (by omega)
      have h00 : (T 0).cells[0]? = some (.int .u8 (T 0).kd) := rfl
      rw [h00, Nat.zero_mul] at hc0
      have hx : x = ⟨x.block, x.off, none⟩ := by
        have hs : x.spot = none := World.cell?_spot hc0
        rw [← hs]
      refine ⟨x.block, x.off, by rw [← hx], ?_, fun i hi' j u hu => ?_⟩
      · exact World.block_lt_of_cell? W _ hc0
      · rw [List.length_map, List.length_range] at hi'
        have e : ((List.range len).map T)[i]'(by simpa using hi') = T i := by simp
        rw [e] at hu
        have hj : j < 3 := (List.getElem?_eq_some_iff.1 hu).1
        have := (hT i (by omega)).1 j hj
        rw [hx, Addr.add_lit, Addr.add_lit] at this
        exact this.trans hu
    · obtain ⟨i, hi', rfl⟩ := List.mem_map.1 ht
      rw [List.mem_range] at hi'
      exact (hT i (by omega)).2
end
end Go.Proofs.Ytmjmglakpnjfkaa

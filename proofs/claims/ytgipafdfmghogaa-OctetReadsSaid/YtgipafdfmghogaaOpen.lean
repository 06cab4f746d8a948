/-
  What the reading of an argument tells of memory: a slice of texts, a slice of items.
  Conditions: none.
-/
import Derived.Test.YtgipafdfmghogaaLawWrites
import Derived.ProofKit
import Derived.OpenShut
import Derived.ChangeOld
import Derived.SliceStrings
import Derived.Deep.Slices
namespace Go.Proofs.Ytgipafdfmghogaa
open Go.ChangeShapes Go.WideShapes Go.ChangeAt Go.RowKit Go.Deep

theorem cellsOfString : Try.prog.cellsOf 9 = 1 := by kernel_rfl
theorem cellsOfByte : Try.prog.cellsOf 5 = 1 := by kernel_rfl
theorem cellsOfBig : Try.prog.cellsOf 25 = 1 := by kernel_rfl
theorem cellsOfBool : Try.prog.cellsOf 4 = 1 := by kernel_rfl
theorem cellsOfInt : Try.prog.cellsOf 3 = 1 := by kernel_rfl
theorem cellsOfTexts : Try.prog.cellsOf 22 = 1 := by kernel_rfl
theorem cellsOfItem : Try.prog.cellsOf 27 = 8 := by kernel_rfl

theorem bounds_u64' {n : Int} (h : (Lit.int .u64 n).wf = true) : 0 ≤ n ∧ n ≤ 18446744073709551615 := by
  simp [Lit.wf, IntKind.min, IntKind.max, IntKind.signed, IntKind.bits] at h
  omega
theorem bounds_i64' {n : Int} (h : (Lit.int .i64 n).wf = true) : -9223372036854775808 ≤ n ∧ n ≤ 9223372036854775807 := by
  simp [Lit.wf, IntKind.min, IntKind.max, IntKind.signed, IntKind.bits] at h
  omega

/-- What is known of a slice of texts that came in. -/
def IsTexts (w : World) (A : Option Addr) (len cap : Nat) (ss : List ByteArray) : Prop :=
  len = ss.length ∧ ss.length ≤ cap ∧ cap ≤ 9223372036854775807 ∧ RdS w A ss ∧ ∀ s ∈ ss, s.size ≤ 9223372036854775807

section
variable {H : Type} {enc : TypeId × Value → H} {W : World} {base : Nat} {sp : Nat → Bool} {hd : Bool} {fuel : Nat}
theorem texts_of {cs : List Value} {x : DataW H × List MemPlace} (hf : DataW.trod enc Try.prog W base sp hd fuel 22 cs = some x) : ∃ a len cap ss, cs = [.slice a len cap] ∧ IsTexts W a len cap ss := by
  rcases open_strings Try.underlying22 Try.underlying9 cellsOfString hf with ⟨hcs, _⟩ | ⟨x, l, c, zs, hcs, _, hl, hm, hz, _, hcell, hwz⟩
  · exact ⟨none, 0, 0, [], hcs, rfl, by simp, by omega, fun h => absurd rfl h, by simp⟩
  · have hlen : l ≤ zs.length := by rw [hz]; split <;> omega
    have hlt : (zs.take l).length = l := by rw [List.length_take]; omega
    have hx : 0 < zs.length → x = ⟨x.block, x.off, none⟩ := by
      intro hi
      have hs : x.spot = none := World.cell?_spot (hcell 0 hi)
      rw [← hs]
    refine ⟨some x, l, c, zs.take l, hcs, by omega, by omega, by simpa [maxLen] using hm, fun hne => ?_, fun s hs => hwz s (List.mem_of_mem_take hs)⟩
    have hp : 0 < zs.length := by
      rcases Nat.eq_zero_or_pos zs.length with h | h
      · exact absurd (by rw [List.eq_nil_of_length_eq_zero h]; simp) hne
      · exact h
    refine ⟨x.block, x.off, by rw [← hx hp], ?_, fun j hj => ?_⟩
    · have := World.block_lt_of_cell? W _ (hcell 0 hp)
      rwa [add_block] at this
    · have hj' : j < zs.length := by omega
      have hc := hcell j hj'
      rw [hx hp, Addr.add_lit] at hc
      rw [hc]
      simp [List.getD_eq_getElem?_getD, List.getElem?_eq_getElem hj']

theorem item_of {cs : List Value} {x : DataW H × List MemPlace} (h : DataW.trod enc Try.prog W base sp hd fuel 27 cs = some x) :
    ∃ t : It, cs = t.cells ∧ ItWf t ∧ RdS W t.la t.ls ∧ t.s.size ≤ 9223372036854775807 ∧ t.ls.length ≤ 9223372036854775807 ∧ ∀ s ∈ t.ls, s.size ≤ 9223372036854775807 := by
  obtain ⟨ys, n, _, _, hlen, hyl, hf⟩ := DataW.trod_struct Try.underlying27 h
  rw [cellsOfItem] at hlen
  match cs, hlen, ys, hyl with
  | [c0, c1, c2, c3, c4, c5, c6, c7], _, [y0, y1, y2, y3, y4, y5, y6, y7], _ =>
    have f0 : DataW.trod enc Try.prog W base sp hd n 5 (([c0, c1, c2, c3, c4, c5, c6, c7].drop 0).take (Try.prog.cellsOf 5)) = some y0 := hf 0 _ rfl
    have f1 : DataW.trod enc Try.prog W base sp hd n 25 (([c0, c1, c2, c3, c4, c5, c6, c7].drop 1).take (Try.prog.cellsOf 25)) = some y1 := hf 1 _ rfl
    have f2 : DataW.trod enc Try.prog W base sp hd n 4 (([c0, c1, c2, c3, c4, c5, c6, c7].drop 2).take (Try.prog.cellsOf 4)) = some y2 := hf 2 _ rfl
    have f3 : DataW.trod enc Try.prog W base sp hd n 9 (([c0, c1, c2, c3, c4, c5, c6, c7].drop 3).take (Try.prog.cellsOf 9)) = some y3 := hf 3 _ rfl
    have f4 : DataW.trod enc Try.prog W base sp hd n 22 (([c0, c1, c2, c3, c4, c5, c6, c7].drop 4).take (Try.prog.cellsOf 22)) = some y4 := hf 4 _ rfl
    have f5 : DataW.trod enc Try.prog W base sp hd n 3 (([c0, c1, c2, c3, c4, c5, c6, c7].drop 5).take (Try.prog.cellsOf 3)) = some y5 := hf 5 _ rfl
    have f6 : DataW.trod enc Try.prog W base sp hd n 3 (([c0, c1, c2, c3, c4, c5, c6, c7].drop 6).take (Try.prog.cellsOf 3)) = some y6 := hf 6 _ rfl
    have f7 : DataW.trod enc Try.prog W base sp hd n 3 (([c0, c1, c2, c3, c4, c5, c6, c7].drop 7).take (Try.prog.cellsOf 3)) = some y7 := hf 7 _ rfl
    rw [cellsOfByte] at f0
    rw [cellsOfBig] at f1
    rw [cellsOfBool] at f2
    rw [cellsOfString] at f3
    rw [cellsOfTexts] at f4
    rw [cellsOfInt] at f5 f6 f7
    obtain ⟨kd, e0, _, w0⟩ := DataW.trod_int Try.underlying5 f0
    obtain ⟨xx, e1, _, w1⟩ := DataW.trod_int Try.underlying25 f1
    obtain ⟨is, e2, _⟩ := DataW.trod_bool Try.underlying4 f2
    obtain ⟨s, e3, _, w3⟩ := DataW.trod_string Try.underlying9 f3
    obtain ⟨a, len, cap, ss, e4, w4⟩ := texts_of f4
    obtain ⟨mo, e5, _, w5⟩ := DataW.trod_int Try.underlying3 f5
    obtain ⟨lo, e6, _, w6⟩ := DataW.trod_int Try.underlying3 f6
    obtain ⟨ee, e7, _, w7⟩ := DataW.trod_int Try.underlying3 f7
    simp only [List.drop_zero, List.drop_succ_cons, List.take_succ_cons, List.take_zero, List.cons.injEq, and_true] at e0 e1 e2 e3 e4 e5 e6 e7
    subst e0 e1 e2 e3 e4 e5 e6 e7
    obtain ⟨rfl, h1, h2, h3, h4⟩ := w4
    have b0 := bounds_u8 w0
    have b1 := bounds_u64' w1
    have b5 := bounds_i64' w5
    have b6 := bounds_i64' w6
    have b7 := bounds_i64' w7
    exact ⟨⟨kd, xx, is, s, a, ss, cap, mo, lo, ee⟩, rfl, ⟨b0.1, b0.2, b1.1, b1.2, h1, h2, b5.1, b5.2, b6.1, b6.2, b7.1, b7.2⟩, h3, by simpa [maxLen] using w3, by show ss.length ≤ _; omega, h4⟩

theorem pick_fun {α : Type} (d : α) {φ : Nat → α → Prop} {m : Nat} (h : ∀ i, i < m → ∃ t, φ i t) : ∃ T : Nat → α, ∀ i, i < m → φ i (T i) := by
  refine ⟨fun i => if hi : i < m then Classical.choose (h i hi) else d, fun i hi => ?_⟩
  have : (if hi : i < m then Classical.choose (h i hi) else d) = Classical.choose (h i hi) := dif_pos hi
  show φ i (if hi : i < m then Classical.choose (h i hi) else d)
  rw [this]
  exact Classical.choose_spec (h i hi)

/-- What is known of a slice of items that came in. -/
def IsItems (w : World) (A : Option Addr) (len : Nat) (its : List It) : Prop := len = its.length ∧ RdI w A its ∧ its.length ≤ 9223372036854775807 ∧ ∀ t ∈ its, ItWf t

theorem items_of {a : Option Addr} {len cap : Nat} {d : DataW H} {p : List MemPlace} (h : DataW.Trod enc Try.prog W base sp hd 28 (.slice a len cap) d p) : ∃ its, IsItems W a len its := by
  obtain ⟨fuel, hf⟩ := h
  rcases open_slice Try.underlying28 hf with ⟨hcs, _⟩ | ⟨x, l, c, m, n, D, Pl, hcs, _, hl, hm, hmm, _, hi⟩
  · simp [Value.cells] at hcs
    obtain ⟨rfl, rfl, rfl⟩ := hcs
    exact ⟨[], rfl, ⟨fun h => absurd rfl h, by simp⟩, by simp, by simp⟩
  · simp [Value.cells] at hcs
    obtain ⟨rfl, rfl, rfl⟩ := hcs
    have hlm : len ≤ m := by rw [hmm]; split <;> omega
    rw [cellsOfItem] at hi
    have hex : ∀ i, i < m → ∃ t : It, (∀ j, j < 8 → W.cell? ((x.add (i * 8)).add j) = t.cells[j]?) ∧ ItWf t ∧ RdS W t.la t.ls ∧ t.s.size ≤ 9223372036854775807 ∧ t.ls.length ≤ 9223372036854775807 ∧ ∀ s ∈ t.ls, s.size ≤ 9223372036854775807 := by
      intro i him
      obtain ⟨cs', hc, ht'⟩ := hi i him
      obtain ⟨t, rfl, hrest⟩ := item_of ht'
      exact ⟨t, (World.cells?_some hc).2.2, hrest⟩
    obtain ⟨T, hT⟩ := pick_fun (⟨0, 0, false, ⟨#[]⟩, none, [], 0, 0, 0, 0⟩ : It) hex
    refine ⟨(List.range len).map T, by simp, ⟨fun hne => ?_, fun t ht => ?_⟩, by simpa [maxLen] using Nat.le_trans hl hm, fun t ht => ?_⟩
    · have hp : 0 < len := by
        rcases Nat.eq_zero_or_pos len with h | h
        · subst h; simp at hne
        · exact h
      have hc0 := (hT 0 (by omega)).1 0 (by omega)
      have h00 : (T 0).cells[0]? = some (.int .u8 (T 0).kind) := rfl
      rw [h00, Nat.zero_mul] at hc0
      have hx : x = ⟨x.block, x.off, none⟩ := by
        have hs : x.spot = none := World.cell?_spot hc0
        rw [← hs]
      refine ⟨x.block, x.off, by rw [← hx], ?_, fun i hi' j u hu => ?_⟩
      · exact World.block_lt_of_cell? W _ hc0
      · rw [List.length_map, List.length_range] at hi'
        have e : ((List.range len).map T)[i]'(by simpa using hi') = T i := by simp
        rw [e] at hu
        have hj : j < 8 := (List.getElem?_eq_some_iff.1 hu).1
        have := (hT i (by omega)).1 j hj
        rw [hx, Addr.add_lit, Addr.add_lit] at this
        exact this.trans hu
    · obtain ⟨i, hi', rfl⟩ := List.mem_map.1 ht
      rw [List.mem_range] at hi'
      exact (hT i (by omega)).2.2
    · obtain ⟨i, hi', rfl⟩ := List.mem_map.1 ht
      rw [List.mem_range] at hi'
      exact (hT i (by omega)).2.1
end
end Go.Proofs.Ytgipafdfmghogaa

/-
  What the reading of an argument tells of memory: a slice of acts of the tally's law.
  Conditions: none.
-/
import Derived.Test.YtbpccjofopenoaaOpenI
namespace Go.Proofs.Ytbpccjofopenoaa
open Go.ChangeShapes Go.WideShapes Go.ChangeAt Go.RowKit Go.Deep

/-- An act. -/
structure Act4 where
  kd : Nat
  ia : Int
  x : Int
  y : Int
def Act4.cells (t : Act4) : List Value := [.int .u8 (t.kd : Int), .int .i64 t.ia, .int .i64 t.x, .int .i64 t.y]
/-- Memory that reads as acts. -/
def RdA4 (w : World) (A : Option Addr) (l : List Act4) : Prop :=
  l ≠ [] → ∃ b off, A = some ⟨b, off, none⟩ ∧ b < w.heap.size ∧ ∀ i (hi : i < l.length) j u, l[i].cells[j]? = some u → w.cell? ⟨b, off + i * 4 + j, none⟩ = some u
theorem RdA4.still {w w' : World} {A : Option Addr} {l : List Act4} (h : RdA4 w A l) (ht : Turns (fun _ => False) w w') : RdA4 w' A l := fun hl => by
  obtain ⟨b, off, rfl, hb, hc⟩ := h hl
  exact ⟨b, off, rfl, Nat.lt_of_lt_of_le hb ht.size, fun i hi j u hu => (ht.cell (p := ⟨b, off + i * 4 + j, none⟩) hb (fun f => f)).trans (hc i hi j u hu)⟩
/-- What is known of a slice of acts that came in. -/
def IsActs (w : World) (A : Option Addr) (len : Nat) (l : List Act4) : Prop := len = l.length ∧ l.length ≤ 9223372036854775807 ∧ RdA4 w A l ∧ ∀ t ∈ l, t.kd < 256

theorem cellsOfU8a : Try.prog.cellsOf 5 = 1 := by kernel_rfl
theorem cellsOfInta : Try.prog.cellsOf 3 = 1 := by kernel_rfl
theorem cellsOfAct : Try.prog.cellsOf 35 = 4 := by kernel_rfl
theorem pick_act (d : Act4) {φ : Nat → Act4 → Prop} {m : Nat} (h : ∀ i, i < m → ∃ t, φ i t) : ∃ T : Nat → Act4, ∀ i, i < m → φ i (T i) := by
  refine ⟨fun i => if hi : i < m then Classical.choose (h i hi) else d, fun i hi => ?_⟩
  have : (if hi : i < m then Classical.choose (h i hi) else d) = Classical.choose (h i hi) := dif_pos hi
  show φ i (if hi : i < m then Classical.choose (h i hi) else d)
  rw [this]
  exact Classical.choose_spec (h i hi)

section
variable {H : Type} {enc : TypeId × Value → H} {W : World} {base : Nat} {sp : Nat → Bool} {hd : Bool} {fuel : Nat}
set_option maxRecDepth 100000 in
theorem act_of {cs : List Value} {x : DataW H × List MemPlace} (h : DataW.trod enc Try.prog W base sp hd fuel 35 cs = some x) :
    ∃ t : Act4, cs = t.cells ∧ t.kd < 256 := by
  obtain ⟨ys, n, _, _, hlen, hyl, hf⟩ := DataW.trod_struct Try.underlying35 h
  rw [cellsOfAct] at hlen
  match cs, hlen, ys, hyl with
  | [c0, c1, c2, c3], _, [y0, y1, y2, y3], _ =>
    have f0 : DataW.trod enc Try.prog W base sp hd n 5 (([c0, c1, c2, c3].drop 0).take (Try.prog.cellsOf 5)) = some y0 := hf 0 _ rfl
    have f1 : DataW.trod enc Try.prog W base sp hd n 3 (([c0, c1, c2, c3].drop 1).take (Try.prog.cellsOf 3)) = some y1 := hf 1 _ rfl
    have f2 : DataW.trod enc Try.prog W base sp hd n 2 (([c0, c1, c2, c3].drop 2).take (Try.prog.cellsOf 2)) = some y2 := hf 2 _ rfl
    have f3 : DataW.trod enc Try.prog W base sp hd n 2 (([c0, c1, c2, c3].drop 3).take (Try.prog.cellsOf 2)) = some y3 := hf 3 _ rfl
    rw [cellsOfU8a] at f0
    rw [cellsOfInta] at f1
    rw [cellsOfI64] at f2 f3
    obtain ⟨kd, e0, _, w0⟩ := DataW.trod_int Try.underlying5 f0
    obtain ⟨ia, e1, _, _⟩ := DataW.trod_int Try.underlying3 f1
    obtain ⟨xx, e2, _, _⟩ := DataW.trod_int Try.underlying2 f2
    obtain ⟨yy, e3, _, _⟩ := DataW.trod_int Try.underlying2 f3
    simp only [List.drop_zero, List.drop_succ_cons, List.take_succ_cons, List.take_zero, List.cons.injEq, and_true] at e0 e1 e2 e3
    subst e0 e1 e2 e3
    have b0 := bounds_u8 w0
    obtain ⟨kn, rfl⟩ := Int.eq_ofNat_of_zero_le b0.1
    exact ⟨⟨kn, ia, xx, yy⟩, rfl, by show kn < 256; omega⟩

set_option maxRecDepth 100000 in
theorem acts_of {a : Option Addr} {len cap : Nat} {d : DataW H} {p : List MemPlace} (h : DataW.Trod enc Try.prog W base sp hd 22 (.slice a len cap) d p) : ∃ l, IsActs W a len l := by
  obtain ⟨fuel, hf⟩ := h
  rcases open_slice Try.underlying22 hf with ⟨hcs, _⟩ | ⟨x, l, c, m, n, D, Pl, hcs, _, hl, hm, hmm, _, hi⟩
  · simp [Value.cells] at hcs
    obtain ⟨rfl, rfl, rfl⟩ := hcs
    exact ⟨[], rfl, by simp, fun h => absurd rfl h, by simp⟩
  · simp [Value.cells] at hcs
    obtain ⟨rfl, rfl, rfl⟩ := hcs
    have hlm : len ≤ m := by rw [hmm]; split <;> omega
    rw [cellsOfAct] at hi
    have hex : ∀ i, i < m → ∃ t : Act4, (∀ j, j < 4 → W.cell? ((x.add (i * 4)).add j) = t.cells[j]?) ∧ t.kd < 256 := by
      intro i him
      obtain ⟨cs', hc, ht'⟩ := hi i him
      obtain ⟨t, rfl, hrest⟩ := act_of ht'
      exact ⟨t, (World.cells?_some hc).2.2, hrest⟩
    obtain ⟨T, hT⟩ := pick_act ⟨0, 0, 0, 0⟩ hex
    refine ⟨(List.range len).map T, by simp, by simpa [maxLen] using Nat.le_trans hl hm, fun hne => ?_, fun t ht => ?_⟩
    · have hp : 0 < len := by
        rcases Nat.eq_zero_or_pos len with h | h
        · subst h; simp at hne
        · exact h
      have hc0 := (hT 0 (by omega)).1 0 (by omega)
      have h00 : (T 0).cells[0]? = some (.int .u8 (T 0).kd) := rfl
      rw [h00, Nat.zero_mul] at hc0
      have hx : x = ⟨x.block, x.off, none⟩ := by
        have hs : x.spot = none := World.cell?_spot hc0
        rw [← hs]
      refine ⟨x.block, x.off, by rw [← hx], ?_, fun i hi' j u hu => ?_⟩
      · exact World.block_lt_of_cell? W _ hc0
      · rw [List.length_map, List.length_range] at hi'
        have e : ((List.range len).map T)[i]'(by simpa using hi') = T i := by simp
        rw [e] at hu
        have hj : j < 4 := (List.getElem?_eq_some_iff.1 hu).1
        have := (hT i (by omega)).1 j hj
        rw [hx, Addr.add_lit, Addr.add_lit] at this
        exact this.trans hu
    · obtain ⟨i, hi', rfl⟩ := List.mem_map.1 ht
      rw [List.mem_range] at hi'
      exact (hT i (by omega)).2
end
end Go.Proofs.Ytbpccjofopenoaa

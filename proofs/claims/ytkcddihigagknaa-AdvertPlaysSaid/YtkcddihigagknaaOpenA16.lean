/-
  What the reading of an argument tells of memory: a slice of acts of the law of boards.
  Conditions: none.
-/
import Derived.Test.YtkcddihigagknaaAdvT
import Derived.Test.YtkcddihigagknaaOpenB
import Derived.SliceStrings
namespace Go.Proofs.Ytkcddihigagknaa
open Go.ChangeShapes Go.WideShapes Go.ChangeAt Go.RowKit Go.Deep

/-- An act. -/
structure AcB where
  kd : Nat
  nd : Nat
  rl : Nat
def AcB.cells (t : AcB) : List Value := [.int .u8 (t.kd : Int), .int .u8 (t.nd : Int), .int .u8 (t.rl : Int)]
/-- Memory that reads as acts. -/
def RdAB (w : World) (A : Option Addr) (l : List AcB) : Prop :=
  l ≠ [] → ∃ b off, A = some ⟨b, off, none⟩ ∧ b < w.heap.size ∧ ∀ i (hi : i < l.length) j u, l[i].cells[j]? = some u → w.cell? ⟨b, off + i * 3 + j, none⟩ = some u
theorem RdAB.later {w w' : World} {A : Option Addr} {l : List AcB} (h : RdAB w A l) (hb : Below w.heap.size w w') : RdAB w' A l := fun hl => by
  obtain ⟨b, off, rfl, hlt, hc⟩ := h hl
  exact ⟨b, off, rfl, Nat.lt_of_lt_of_le hlt hb.size, fun i hi j u hu => (hb.cell (p := ⟨b, off + i * 3 + j, none⟩) hlt).trans (hc i hi j u hu)⟩
/-- What is known of an act. -/
structure AcB.Ok (t : AcB) : Prop where
  kd : t.kd < 256
  nd : t.nd < 256
  rl : t.rl < 256
/-- What is known of a slice of acts that came in. -/
def IsActsB (w : World) (A : Option Addr) (len : Nat) (l : List AcB) : Prop := len = l.length ∧ l.length ≤ 9223372036854775807 ∧ RdAB w A l ∧ ∀ t ∈ l, t.Ok

theorem cellsOfU8b : Try.prog.cellsOf 5 = 1 := by kernel_rfl
theorem cellsOfActb : Try.prog.cellsOf 31 = 3 := by kernel_rfl
theorem bound_u8b {x : Int} (h : (Lit.int .u8 x).wf = true) : ∃ n : Nat, x = n ∧ n < 256 := by
  have hb : 0 ≤ x ∧ x ≤ 255 := by
    simp [Lit.wf, IntKind.min, IntKind.max, IntKind.signed, IntKind.bits] at h
    omega
  exact ⟨x.toNat, by omega, by omega⟩
theorem pick_actb (d : AcB) {φ : Nat → AcB → Prop} {m : Nat} (h : ∀ i, i < m → ∃ t, φ i t) : ∃ T : Nat → AcB, ∀ i, i < m → φ i (T i) := by
  refine ⟨fun i => if hi : i < m then Classical.choose (h i hi) else d, fun i hi => ?_⟩
  have : (if hi : i < m then Classical.choose (h i hi) else d) = Classical.choose (h i hi) := dif_pos hi
  show φ i (if hi : i < m then Classical.choose (h i hi) else d)
  rw [this]
  exact Classical.choose_spec (h i hi)
section
variable {H : Type} {enc : TypeId × Value → H} {W : World} {base : Nat} {sp : Nat → Bool} {hd : Bool} {fuel : Nat}
set_option maxRecDepth 100000 in
theorem actb_of {cs : List Value} {x : DataW H × List MemPlace} (h : DataW.trod enc Try.prog W base sp hd fuel 31 cs = some x) :
    ∃ t : AcB, cs = t.cells ∧ t.Ok := by
  obtain ⟨ys, n, _, _, hlen, hyl, hf⟩ := DataW.trod_struct Try.underlying31 h
  rw [cellsOfActb] at hlen
  match cs, hlen, ys, hyl with
  | [c0, c1, c2], _, [y0, y1, y2], _ =>
    have f0 : DataW.trod enc Try.prog W base sp hd n 5 (([c0, c1, c2].drop 0).take (Try.prog.cellsOf 5)) = some y0 := hf 0 _ rfl
    have f1 : DataW.trod enc Try.prog W base sp hd n 5 (([c0, c1, c2].drop 1).take (Try.prog.cellsOf 5)) = some y1 := hf 1 _ rfl
    have f2 : DataW.trod enc Try.prog W base sp hd n 5 (([c0, c1, c2].drop 2).take (Try.prog.cellsOf 5)) = some y2 := hf 2 _ rfl
    rw [cellsOfU8b] at f0 f1 f2
    obtain ⟨kd, e0, _, w0⟩ := DataW.trod_int Try.underlying5 f0
    obtain ⟨nd, e1, _, w1⟩ := DataW.trod_int Try.underlying5 f1
    obtain ⟨rl, e2, _, w2⟩ := DataW.trod_int Try.underlying5 f2
    simp only [List.drop_zero, List.drop_succ_cons, List.take_succ_cons, List.take_zero, List.cons.injEq, and_true] at e0 e1 e2
    subst e0 e1 e2
    obtain ⟨kd, rfl, b0⟩ := bound_u8b w0
    obtain ⟨nd, rfl, b1⟩ := bound_u8b w1
    obtain ⟨rl, rfl, b2⟩ := bound_u8b w2
    exact ⟨⟨kd, nd, rl⟩, rfl, b0, b1, b2⟩

set_option maxRecDepth 100000 in
theorem actsb_of {a : Option Addr} {len cap : Nat} {d : DataW H} {p : List MemPlace} (h : DataW.Trod enc Try.prog W base sp hd 22 (.slice a len cap) d p) : ∃ l, IsActsB W a len l := by
  obtain ⟨fuel, hf⟩ := h
  rcases open_slice Try.underlying22 hf with ⟨hcs, _⟩ | ⟨x, l, c, m, n, D, Pl, hcs, _, hl, hm, hmm, _, hi⟩
  · simp [Value.cells] at hcs
    obtain ⟨rfl, rfl, rfl⟩ := hcs
    exact ⟨[], rfl, by simp, fun h => absurd rfl h, by simp⟩
  · simp [Value.cells] at hcs
    obtain ⟨rfl, rfl, rfl⟩ := hcs
    have hlm : len ≤ m := by rw [hmm]; split <;> omega
    rw [cellsOfActb] at hi
    have hex : ∀ i, i < m → ∃ t : AcB, (∀ j, j < 3 → W.cell? ((x.add (i * 3)).add j) = t.cells[j]?) ∧ t.Ok := by
      intro i him
      obtain ⟨cs', hc, ht'⟩ := hi i him
      obtain ⟨t, rfl, hrest⟩ := actb_of ht'
      exact ⟨t, (World.cells?_some hc).2.2, hrest⟩
    obtain ⟨T, hT⟩ := pick_actb ⟨0, 0, 0⟩ hex
    refine ⟨(List.range len).map T, by simp, by simpa [maxLen] using Nat.le_trans hl hm, fun hne => ?_, fun t ht => ?_⟩
    · have hp : 0 < len := by
        rcases Nat.eq_zero_or_pos len with h | h
        · subst h; simp at hne
        · exact h
      have hc0 := (hT 0 (by omega)).1 0 (by omega)
      have h00 : (T 0).cells[0]? = some (.int .u8 (T 0).kd) := rfl
      rw [h00, Nat.zero_mul] at hc0
      have hx : x = ⟨x.block, x.off, none⟩ := by
        have hs : x.spot = none := World.cell?_spot hc0
        rw [← hs]
      refine ⟨x.block, x.off, by rw [← hx], ?_, fun i hi' j u hu => ?_⟩
      · exact World.block_lt_of_cell? W _ hc0
      · rw [List.length_map, List.length_range] at hi'
        have e : ((List.range len).map T)[i]'(by simpa using hi') = T i := by simp
        rw [e] at hu
        have hj : j < 3 := (List.getElem?_eq_some_iff.1 hu).1
        have := (hT i (by omega)).1 j hj
        rw [hx, Addr.add_lit, Addr.add_lit] at this
        exact this.trans hu
    · obtain ⟨i, hi', rfl⟩ := List.mem_map.1 ht
      rw [List.mem_range] at hi'
      exact (hT i (by omega)).2
end
/-- An act's block. -/
def ActB16 (w : World) (D : Nat) (t : AcB) : Prop := w.heap[D]? = some (.cells #[.int .u8 (t.kd : Int), .int .u8 (t.nd : Int), .int .u8 (t.rl : Int)] 31 (0, 0))
theorem ActB16.lt {w : World} {D : Nat} {t : AcB} (h : ActB16 w D t) : D < w.heap.size := (Array.getElem?_eq_some_iff.1 h).1
theorem ActB16.cells {w : World} {D : Nat} {t : AcB} (h : ActB16 w D t) : w.cell? ⟨D, 0, none⟩ = some (.int .u8 (t.kd : Int)) ∧ w.cell? ⟨D, 1, none⟩ = some (.int .u8 (t.nd : Int)) ∧ w.cell? ⟨D, 2, none⟩ = some (.int .u8 (t.rl : Int)) :=
  ⟨by rw [cell_of_row w D 0 _ _ (0, 0) h]; rfl, by rw [cell_of_row w D 1 _ _ (0, 0) h]; rfl, by rw [cell_of_row w D 2 _ _ (0, 0) h]; rfl⟩
theorem ActB16.turns {w w' : World} {D : Nat} {t : AcB} {S : Nat → Prop} (h : ActB16 w D t) (ht : Turns S w w') (hn : ¬ S D) : ActB16 w' D t := (ht.block D h.lt hn).trans h
theorem ActB16.later {w w' : World} {D : Nat} {t : AcB} (h : ActB16 w D t) (hb : Below w.heap.size w w') : ActB16 w' D t := (hb.block D h.lt).trans h
end Go.Proofs.Ytkcddihigagknaa

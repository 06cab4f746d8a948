/-
  What the reading of an argument tells of memory: a slice of acts of the directory's law.
  Conditions: none.
-/
import Derived.Test.YtclnkboejbnfnaaGreatDoorWords
import Derived.Test.YtclnkboejbnfnaaGreatDoorProg
import Derived.Test.YtclnkboejbnfnaaGreatDoorRows
import Derived.ProofKit
import Derived.OpenShut
import Derived.ChangeOld
import Derived.SliceStrings
import Derived.Deep.Slices
namespace Go.Proofs.YtclnkboejbnfnaaGreatDoor
open Go.ChangeShapes Go.WideShapes Go.ChangeAt Go.RowKit Go.Deep

/-- An act. -/
structure Act7 where
  kd : Nat
  nm : ByteArray
  hs : ByteArray
def Act7.cells (t : Act7) : List Value := [.int .u8 (t.kd : Int), .string t.nm, .string t.hs]
/-- Memory that reads as acts. -/
def RdA7 (w : World) (A : Option Addr) (l : List Act7) : Prop :=
  l ≠ [] → ∃ b off, A = some ⟨b, off, none⟩ ∧ b < w.heap.size ∧ ∀ i (hi : i < l.length) j u, l[i].cells[j]? = some u → w.cell? ⟨b, off + i * 3 + j, none⟩ = some u
theorem RdA7.later {w w' : World} {A : Option Addr} {l : List Act7} (h : RdA7 w A l) (hb : Below w.heap.size w w') : RdA7 w' A l := fun hl => by
  obtain ⟨b, off, rfl, hlt, hc⟩ := h hl
  exact ⟨b, off, rfl, Nat.lt_of_lt_of_le hlt hb.size, fun i hi j u hu => (hb.cell (p := ⟨b, off + i * 3 + j, none⟩) hlt).trans (hc i hi j u hu)⟩
/-- What is known of a slice of acts that came in. -/
def IsActs7 (w : World) (A : Option Addr) (len : Nat) (l : List Act7) : Prop := len = l.length ∧ l.length ≤ 9223372036854775807 ∧ RdA7 w A l ∧ ∀ t ∈ l, t.kd < 256 ∧ t.nm.size ≤ 9223372036854775807 ∧ t.hs.size ≤ 9223372036854775807

theorem cellsOfU8e : Tryz.prog.cellsOf 5 = 1 := by kernel_rfl
theorem cellsOfStre : Tryz.prog.cellsOf 9 = 1 := by kernel_rfl
theorem cellsOfActe : Tryz.prog.cellsOf 55 = 3 := by kernel_rfl
theorem pick_acte (d : Act7) {φ : Nat → Act7 → Prop} {m : Nat} (h : ∀ i, i < m → ∃ t, φ i t) : ∃ T : Nat → Act7, ∀ i, i < m → φ i (T i) := by
  refine ⟨fun i => if hi : i < m then Classical.choose (h i hi) else d, fun i hi => ?_⟩
  have : (if hi : i < m then Classical.choose (h i hi) else d) = Classical.choose (h i hi) := dif_pos hi
  show φ i (if hi : i < m then Classical.choose (h i hi) else d)
  rw [this]
  exact Classical.choose_spec (h i hi)

section
variable {H : Type} {enc : TypeId × Value → H} {W : World} {base : Nat} {sp : Nat → Bool} {hd : Bool} {fuel : Nat}
set_option maxRecDepth 100000 in
theorem acte_of {cs : List Value} {x : DataW H × List MemPlace} (h : DataW.trod enc Tryz.prog W base sp hd fuel 55 cs = some x) :
    ∃ t : Act7, cs = t.cells ∧ t.kd < 256 ∧ t.nm.size ≤ 9223372036854775807 ∧ t.hs.size ≤ 9223372036854775807 := by
  obtain ⟨ys, n, _, _, hlen, hyl, hf⟩ := DataW.trod_struct Tryz.underlying55 h
  rw [cellsOfActe] at hlen
  match cs, hlen, ys, hyl with
  | [c0, c1, c2], _, [y0, y1, y2], _ =>
    have f0 : DataW.trod enc Tryz.prog W base sp hd n 5 (([c0, c1, c2].drop 0).take (Tryz.prog.cellsOf 5)) = some y0 := hf 0 _ rfl
    have f1 : DataW.trod enc Tryz.prog W base sp hd n 9 (([c0, c1, c2].drop 1).take (Tryz.prog.cellsOf 9)) = some y1 := hf 1 _ rfl
    have f2 : DataW.trod enc Tryz.prog W base sp hd n 9 (([c0, c1, c2].drop 2).take (Tryz.prog.cellsOf 9)) = some y2 := hf 2 _ rfl
    rw [cellsOfU8e] at f0
    rw [cellsOfStre] at f1 f2
    obtain ⟨kd, e0, _, w0⟩ := DataW.trod_int Tryz.underlying5 f0
    obtain ⟨nm, e1, _, w1⟩ := DataW.trod_string Tryz.underlying9 f1
    obtain ⟨hs, e2, _, w2⟩ := DataW.trod_string Tryz.underlying9 f2
    simp only [List.drop_zero, List.drop_succ_cons, List.take_succ_cons, List.take_zero, List.cons.injEq, and_true] at e0 e1 e2
    subst e0 e1 e2
    have b0 := bounds_u8 w0
    obtain ⟨kn, rfl⟩ := Int.eq_ofNat_of_zero_le b0.1
    exact ⟨⟨kn, nm, hs⟩, rfl, by show kn < 256; omega, Nat.le_trans w1 (by decide), Nat.le_trans w2 (by decide)⟩

set_option maxRecDepth 100000 in
theorem actes_of {a : Option Addr} {len cap : Nat} {d : DataW H} {p : List MemPlace} (h : DataW.Trod enc Tryz.prog W base sp hd 51 (.slice a len cap) d p) : ∃ l, IsActs7 W a len l := by
  obtain ⟨fuel, hf⟩ := h
  rcases open_slice Tryz.underlying51 hf with ⟨hcs, _⟩ | ⟨x, l, c, m, n, D, Pl, hcs, _, hl, hm, hmm, _, hi⟩
  · simp [Value.cells] at hcs
    obtain ⟨rfl, rfl, rfl⟩ := hcs
    exact ⟨[], rfl, by simp, fun h => absurd rfl h, by simp⟩
  · simp [Value.cells] at hcs
    obtain ⟨rfl, rfl, rfl⟩ := hcs
    have hlm : len ≤ m := by rw [hmm]; split <;> omega
    rw [cellsOfActe] at hi
    have hex : ∀ i, i < m → ∃ t : Act7, (∀ j, j < 3 → W.cell? ((x.add (i * 3)).add j) = t.cells[j]?) ∧ t.kd < 256 ∧ t.nm.size ≤ 9223372036854775807 ∧ t.hs.size ≤ 9223372036854775807 := by
      intro i him
      obtain ⟨cs', hc, ht'⟩ := hi i him
      obtain ⟨t, rfl, hrest⟩ := acte_of ht'
      exact ⟨t, (World.cells?_some hc).2.2, hrest⟩
    obtain ⟨T, hT⟩ := pick_acte ⟨0, ⟨#[]⟩, ⟨#[]⟩⟩ hex
    refine ⟨(List.range len).map T, by simp, by simpa [maxLen] using Nat.le_trans hl hm, fun hne => ?_, fun t ht => ?_⟩
    · have hp : 0 < len := by
        rcases Nat.eq_zero_or_pos len with h | h
        · subst h; simp at hne
        · exact h
      have hc0 := (hT 0 (by omega)).1 0 (by omega)
      have h00 : (T 0).cells[0]? = some (.int .u8 (T 0).kd) := rfl
      rw [h00, Nat.zero_mul] at hc0
      have hx : x = ⟨x.block, x.off, none⟩ := by
        have hs : x.spot = none := World.cell?_spot hc0
        rw [← hs]
      refine ⟨x.block, x.off, by rw [← hx], ?_, fun i hi' j u hu => ?_⟩
      · exact World.block_lt_of_cell? W _ hc0
      · rw [List.length_map, List.length_range] at hi'
        have e : ((List.range len).map T)[i]'(by simpa using hi') = T i := by simp
        rw [e] at hu
        have hj : j < 3 := (List.getElem?_eq_some_iff.1 hu).1
        have := (hT i (by omega)).1 j hj
        rw [hx, Addr.add_lit, Addr.add_lit] at this
        exact this.trans hu
    · obtain ⟨i, hi', rfl⟩ := List.mem_map.1 ht
      rw [List.mem_range] at hi'
      exact (hT i (by omega)).2
end
end Go.Proofs.YtclnkboejbnfnaaGreatDoor

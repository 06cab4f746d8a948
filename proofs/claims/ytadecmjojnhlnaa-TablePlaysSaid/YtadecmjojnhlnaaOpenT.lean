/-
  What the reading of an argument tells of memory: a slice of acts of the law of tables.
  Conditions: none.
-/
import Derived.Test.YtadecmjojnhlnaaTabP
import Derived.Test.YtadecmjojnhlnaaOpenB
import Derived.SliceStrings
namespace Go.Proofs.Ytadecmjojnhlnaa
open Go.ChangeShapes Go.WideShapes Go.ChangeAt Go.RowKit Go.Deep

/-- An act. -/
structure AcT where
  kd : Nat
  cl : Nat
  nm : Nat
  er : Nat
  A : Option Addr
  c : Nat
  ss : List ByteArray
def AcT.cells (t : AcT) : List Value := [.int .u8 (t.kd : Int), .int .u8 (t.cl : Int), .int .u64 (t.nm : Int), .int .u8 (t.er : Int), .slice t.A t.ss.length t.c]
/-- Memory that reads as acts. -/
def RdAT (w : World) (A : Option Addr) (l : List AcT) : Prop :=
  l ≠ [] → ∃ b off, A = some ⟨b, off, none⟩ ∧ b < w.heap.size ∧ ∀ i (hi : i < l.length) j u, l[i].cells[j]? = some u → w.cell? ⟨b, off + i * 5 + j, none⟩ = some u
theorem RdAT.later {w w' : World} {A : Option Addr} {l : List AcT} (h : RdAT w A l) (hb : Below w.heap.size w w') : RdAT w' A l := fun hl => by
  obtain ⟨b, off, rfl, hlt, hc⟩ := h hl
  exact ⟨b, off, rfl, Nat.lt_of_lt_of_le hlt hb.size, fun i hi j u hu => (hb.cell (p := ⟨b, off + i * 5 + j, none⟩) hlt).trans (hc i hi j u hu)⟩
/-- What is known of an act. -/
structure AcT.Ok (w : World) (t : AcT) : Prop where
  kd : t.kd < 256
  cl : t.cl < 256
  nm : t.nm < 18446744073709551616
  er : t.er < 256
  tx : Txt15 w t.A t.c t.ss
/-- What is known of a slice of acts that came in. -/
def IsActsT (w : World) (A : Option Addr) (len : Nat) (l : List AcT) : Prop := len = l.length ∧ l.length ≤ 9223372036854775807 ∧ RdAT w A l ∧ ∀ t ∈ l, t.Ok w

theorem cellsOfU8t : Try.prog.cellsOf 5 = 1 := by kernel_rfl
theorem cellsOfU64t : Try.prog.cellsOf 27 = 1 := by kernel_rfl
theorem cellsOfStrt : Try.prog.cellsOf 9 = 1 := by kernel_rfl
theorem cellsOfTxt : Try.prog.cellsOf 28 = 1 := by kernel_rfl
theorem cellsOfActt : Try.prog.cellsOf 30 = 5 := by kernel_rfl
theorem bound_u8t {x : Int} (h : (Lit.int .u8 x).wf = true) : ∃ n : Nat, x = n ∧ n < 256 := by
  have hb : 0 ≤ x ∧ x ≤ 255 := by
    simp [Lit.wf, IntKind.min, IntKind.max, IntKind.signed, IntKind.bits] at h
    omega
  exact ⟨x.toNat, by omega, by omega⟩
theorem bound_u64t {x : Int} (h : (Lit.int .u64 x).wf = true) : ∃ n : Nat, x = n ∧ n < 18446744073709551616 := by
  have hb : 0 ≤ x ∧ x ≤ 18446744073709551615 := by
    simp [Lit.wf, IntKind.min, IntKind.max, IntKind.signed, IntKind.bits] at h
    omega
  exact ⟨x.toNat, by omega, by omega⟩
theorem pick_actt (d : AcT) {φ : Nat → AcT → Prop} {m : Nat} (h : ∀ i, i < m → ∃ t, φ i t) : ∃ T : Nat → AcT, ∀ i, i < m → φ i (T i) := by
  refine ⟨fun i => if hi : i < m then Classical.choose (h i hi) else d, fun i hi => ?_⟩
  have : (if hi : i < m then Classical.choose (h i hi) else d) = Classical.choose (h i hi) := dif_pos hi
  show φ i (if hi : i < m then Classical.choose (h i hi) else d)
  rw [this]
  exact Classical.choose_spec (h i hi)
section
variable {H : Type} {enc : TypeId × Value → H} {W : World} {base : Nat} {sp : Nat → Bool} {hd : Bool} {fuel : Nat}
theorem txt15_of {v : Value} {x : DataW H × List MemPlace} (hf : DataW.trod enc Try.prog W base sp hd fuel 28 [v] = some x) : ∃ A c ss, v = .slice A ss.length c ∧ Txt15 W A c ss := by
  rcases open_strings Try.underlying28 Try.underlying9 cellsOfStrt hf with ⟨hcs, _⟩ | ⟨x, l, c, zs, hcs, _, hl, hm, hz, _, hcell, hwz⟩
  · simp at hcs
    subst hcs
    exact ⟨none, 0, [], rfl, Txt15.none _⟩
  · simp at hcs
    subst hcs
    have hlen : l ≤ zs.length := by rw [hz]; split <;> omega
    have hlt : (zs.take l).length = l := by rw [List.length_take]; omega
    have hx : 0 < zs.length → x = ⟨x.block, x.off, none⟩ := by
      intro hi
      have hs : x.spot = none := World.cell?_spot (hcell 0 hi)
      rw [← hs]
    have hm' : c ≤ 9223372036854775807 := by simpa [maxLen] using hm
    refine ⟨some x, c, zs.take l, by rw [hlt], fun hne => ?_, by omega, hm', fun h => by cases h⟩
    have hp : 0 < zs.length := by
      rcases Nat.eq_zero_or_pos zs.length with h | h
      · exact absurd (by rw [List.eq_nil_of_length_eq_zero h]; simp) hne
      · exact h
    refine ⟨x.block, x.off, by rw [← hx hp], ?_, fun j hj => ?_⟩
    · have := World.block_lt_of_cell? W _ (hcell 0 hp)
      rwa [add_block] at this
    · have hj' : j < zs.length := by omega
      have hc := hcell j hj'
      rw [hx hp, Addr.add_lit] at hc
      rw [hc]
      simp [List.getD_eq_getElem?_getD, List.getElem?_eq_getElem hj']

set_option maxRecDepth 100000 in
theorem actt_of {cs : List Value} {x : DataW H × List MemPlace} (h : DataW.trod enc Try.prog W base sp hd fuel 30 cs = some x) :
    ∃ t : AcT, cs = t.cells ∧ t.Ok W := by
  obtain ⟨ys, n, _, _, hlen, hyl, hf⟩ := DataW.trod_struct Try.underlying30 h
  rw [cellsOfActt] at hlen
  match cs, hlen, ys, hyl with
  | [c0, c1, c2, c3, c4], _, [y0, y1, y2, y3, y4], _ =>
    have f0 : DataW.trod enc Try.prog W base sp hd n 5 (([c0, c1, c2, c3, c4].drop 0).take (Try.prog.cellsOf 5)) = some y0 := hf 0 _ rfl
    have f1 : DataW.trod enc Try.prog W base sp hd n 5 (([c0, c1, c2, c3, c4].drop 1).take (Try.prog.cellsOf 5)) = some y1 := hf 1 _ rfl
    have f2 : DataW.trod enc Try.prog W base sp hd n 27 (([c0, c1, c2, c3, c4].drop 2).take (Try.prog.cellsOf 27)) = some y2 := hf 2 _ rfl
    have f3 : DataW.trod enc Try.prog W base sp hd n 5 (([c0, c1, c2, c3, c4].drop 3).take (Try.prog.cellsOf 5)) = some y3 := hf 3 _ rfl
    have f4 : DataW.trod enc Try.prog W base sp hd n 28 (([c0, c1, c2, c3, c4].drop 4).take (Try.prog.cellsOf 28)) = some y4 := hf 4 _ rfl
    rw [cellsOfU8t] at f0 f1 f3
    rw [cellsOfU64t] at f2
    rw [cellsOfTxt] at f4
    obtain ⟨kd, e0, _, w0⟩ := DataW.trod_int Try.underlying5 f0
    obtain ⟨cl, e1, _, w1⟩ := DataW.trod_int Try.underlying5 f1
    obtain ⟨nm, e2, _, w2⟩ := DataW.trod_int Try.underlying27 f2
    obtain ⟨er, e3, _, w3⟩ := DataW.trod_int Try.underlying5 f3
    simp only [List.drop_zero, List.drop_succ_cons, List.take_succ_cons, List.take_zero, List.cons.injEq, and_true] at e0 e1 e2 e3 f4
    obtain ⟨A, c, ss, rfl, htx⟩ := txt15_of f4
    subst e0 e1 e2 e3
    obtain ⟨kd, rfl, b0⟩ := bound_u8t w0
    obtain ⟨cl, rfl, b1⟩ := bound_u8t w1
    obtain ⟨nm, rfl, b2⟩ := bound_u64t w2
    obtain ⟨er, rfl, b3⟩ := bound_u8t w3
    exact ⟨⟨kd, cl, nm, er, A, c, ss⟩, rfl, b0, b1, b2, b3, htx⟩

set_option maxRecDepth 100000 in
theorem actts_of {a : Option Addr} {len cap : Nat} {d : DataW H} {p : List MemPlace} (h : DataW.Trod enc Try.prog W base sp hd 22 (.slice a len cap) d p) : ∃ l, IsActsT W a len l := by
  obtain ⟨fuel, hf⟩ := h
  rcases open_slice Try.underlying22 hf with ⟨hcs, _⟩ | ⟨x, l, c, m, n, D, Pl, hcs, _, hl, hm, hmm, _, hi⟩
  · simp [Value.cells] at hcs
    obtain ⟨rfl, rfl, rfl⟩ := hcs
    exact ⟨[], rfl, by simp, fun h => absurd rfl h, by simp⟩
  · simp [Value.cells] at hcs
    obtain ⟨rfl, rfl, rfl⟩ := hcs
    have hlm : len ≤ m := by rw [hmm]; split <;> omega
    rw [cellsOfActt] at hi
    have hex : ∀ i, i < m → ∃ t : AcT, (∀ j, j < 5 → W.cell? ((x.add (i * 5)).add j) = t.cells[j]?) ∧ t.Ok W := by
      intro i him
      obtain ⟨cs', hc, ht'⟩ := hi i him
      obtain ⟨t, rfl, hrest⟩ := actt_of ht'
      exact ⟨t, (World.cells?_some hc).2.2, hrest⟩
    obtain ⟨T, hT⟩ := pick_actt ⟨0, 0, 0, 0, none, 0, []⟩ hex
    refine ⟨(List.range len).map T, by simp, by simpa [maxLen] using Nat.le_trans hl hm, fun hne => ?_, fun t ht => ?_⟩
    · have hp : 0 < len := by
        rcases Nat.eq_zero_or_pos len with h | h
        · subst h; simp at hne
        · exact h
      have hc0 := (hT 0 (by omega)).1 0 (by omega)
      have h00 : (T 0).cells[0]? = some (.int .u8 (T 0).kd) := rfl
      rw [h00, Nat.zero_mul] at hc0
      have hx : x = ⟨x.block, x.off, none⟩ := by
        have hs : x.spot = none := World.cell?_spot hc0
        rw [← hs]
      refine ⟨x.block, x.off, by rw [← hx], ?_, fun i hi' j u hu => ?_⟩
      · exact World.block_lt_of_cell? W _ hc0
      · rw [List.length_map, List.length_range] at hi'
        have e : ((List.range len).map T)[i]'(by simpa using hi') = T i := by simp
        rw [e] at hu
        have hj : j < 5 := (List.getElem?_eq_some_iff.1 hu).1
        have := (hT i (by omega)).1 j hj
        rw [hx, Addr.add_lit, Addr.add_lit] at this
        exact this.trans hu
    · obtain ⟨i, hi', rfl⟩ := List.mem_map.1 ht
      rw [List.mem_range] at hi'
      exact (hT i (by omega)).2
end
end Go.Proofs.Ytadecmjojnhlnaa

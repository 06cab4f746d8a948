/-
  What the reading of an argument tells of memory: a slice of users.
  Conditions: none.
-/
import Derived.Test.YtclnkboejbnfnaaGreatDoorOpenU
namespace Go.Proofs.YtclnkboejbnfnaaGreatDoor
open Go.ChangeShapes Go.WideShapes Go.ChangeAt Go.RowKit Go.Deep

/-- Memory that reads as users. -/
def RdU7 (w : World) (A : Option Addr) (l : List Us) : Prop :=
  l ≠ [] → ∃ b off, A = some ⟨b, off, none⟩ ∧ b < w.heap.size ∧ ∀ i (hi : i < l.length) j u, l[i].cells[j]? = some u → w.cell? ⟨b, off + i * 5 + j, none⟩ = some u
theorem RdU7.later {w w' : World} {A : Option Addr} {l : List Us} (h : RdU7 w A l) (hb : Below w.heap.size w w') : RdU7 w' A l := fun hl => by
  obtain ⟨b, off, rfl, hlt, hc⟩ := h hl
  exact ⟨b, off, rfl, Nat.lt_of_lt_of_le hlt hb.size, fun i hi j u hu => (hb.cell (p := ⟨b, off + i * 5 + j, none⟩) hlt).trans (hc i hi j u hu)⟩
/-- What is known of a slice of users that came in. -/
def IsUsers (w : World) (A : Option Addr) (len : Nat) (l : List Us) : Prop := len = l.length ∧ l.length ≤ 9223372036854775807 ∧ RdU7 w A l ∧ ∀ u ∈ l, u.Ok w

theorem cellsOfUser7 : Tryz.prog.cellsOf 26 = 5 := by kernel_rfl
theorem pick_user (d : Us) {φ : Nat → Us → Prop} {m : Nat} (h : ∀ i, i < m → ∃ t, φ i t) : ∃ T : Nat → Us, ∀ i, i < m → φ i (T i) := by
  refine ⟨fun i => if hi : i < m then Classical.choose (h i hi) else d, fun i hi => ?_⟩
  have : (if hi : i < m then Classical.choose (h i hi) else d) = Classical.choose (h i hi) := dif_pos hi
  show φ i (if hi : i < m then Classical.choose (h i hi) else d)
  rw [this]
  exact Classical.choose_spec (h i hi)
theorem weights_all {H : Type} {P : Program} {e : TypeId} : ∀ {ds : List (DataW H)} {d : DataW H}, d ∈ ds → ∀ n ∈ d.weights P e, n ∈ DataW.weightsAll P e ds
  | x :: r, d, h, n, hn => by
    rw [DataW.weightsAll]
    rcases List.mem_cons.1 h with rfl | h
    · exact List.mem_append_left _ hn
    · exact List.mem_append_right _ (weights_all h n hn)

section
variable {H : Type} {enc : TypeId × Value → H} {W : World} {base : Nat} {sp : Nat → Bool} {hd : Bool}
set_option maxRecDepth 100000 in
theorem users_of {a : Option Addr} {len cap : Nat} {d : DataW H} {p : List MemPlace} (h : DataW.Trod enc Tryz.prog W base sp hd 22 (.slice a len cap) d p) (hw : ∀ n ∈ d.weights Tryz.prog 22, n ≤ reachBytes) : ∃ l, IsUsers W a len l := by
  obtain ⟨fuel, hf⟩ := h
  rcases open_slice Tryz.underlying22 hf with ⟨hcs, _⟩ | ⟨x, l, c, m, n, D, Pl, hcs, _, hl, hm, hmm, hx, hi⟩
  · simp [Value.cells] at hcs
    obtain ⟨rfl, rfl, rfl⟩ := hcs
    exact ⟨[], rfl, by simp, fun h => absurd rfl h, by simp⟩
  · simp [Value.cells] at hcs
    obtain ⟨rfl, rfl, rfl⟩ := hcs
    have hlm : len ≤ m := by rw [hmm]; split <;> omega
    have hd1 := (Prod.mk.inj hx).1
    rw [cellsOfUser7] at hi
    have hex : ∀ i, i < len → ∃ t : Us, (∀ j, j < 5 → W.cell? ((x.add (i * 5)).add j) = t.cells[j]?) ∧ t.Ok W := by
      intro i him
      obtain ⟨cs', hc, ht'⟩ := hi i (by omega)
      obtain ⟨t, rfl, hrest⟩ := user_of ht' (fun k hk => hw k (by
        rw [hd1, DataW.weights, Tryz.underlying22]
        exact List.mem_cons_of_mem _ (List.mem_append_left _ (weights_all (List.mem_map.2 ⟨i, List.mem_range.2 him, rfl⟩) k hk))))
      have h3 := (World.cells?_some hc).2.2
      exact ⟨t, fun j hj => by rw [h3 j hj]; simp, hrest⟩
    obtain ⟨T, hT⟩ := pick_user ⟨⟨#[]⟩, ⟨#[]⟩, ⟨#[]⟩, false, none, [], 0⟩ hex
    refine ⟨(List.range len).map T, by simp, by simpa [maxLen] using Nat.le_trans hl hm, fun hne => ?_, fun t ht => ?_⟩
    · have hp : 0 < len := by
        rcases Nat.eq_zero_or_pos len with h | h
        · subst h; simp at hne
        · exact h
      have hc0 := (hT 0 hp).1 0 (by omega)
      have h00 : (T 0).cells[0]? = some (.string (T 0).nm) := rfl
      rw [h00, Nat.zero_mul] at hc0
      have hx : x = ⟨x.block, x.off, none⟩ := by
        have hs : x.spot = none := World.cell?_spot hc0
        rw [← hs]
      refine ⟨x.block, x.off, by rw [← hx], ?_, fun i hi' j u hu => ?_⟩
      · exact World.block_lt_of_cell? W _ hc0
      · rw [List.length_map, List.length_range] at hi'
        have e : ((List.range len).map T)[i]'(by simpa using hi') = T i := by simp
        rw [e] at hu
        have hj : j < 5 := (Array.getElem?_eq_some_iff.1 hu).1
        have := (hT i hi').1 j hj
        rw [hx, Addr.add_lit, Addr.add_lit] at this
        exact this.trans hu
    · obtain ⟨i, hi', rfl⟩ := List.mem_map.1 ht
      rw [List.mem_range] at hi'
      exact (hT i hi').2
end
end Go.Proofs.YtclnkboejbnfnaaGreatDoor

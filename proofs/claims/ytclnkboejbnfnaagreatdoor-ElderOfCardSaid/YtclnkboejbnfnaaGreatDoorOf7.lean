/-
  Rows of users that a law stores into; users copied into a new row; what is bare.
  Conditions: each theorem's own.
-/
import Derived.Test.YtclnkboejbnfnaaGreatDoorElderOfR
import Derived.Test.YtclnkboejbnfnaaGreatDoorElderOfS
namespace Go.Proofs.YtclnkboejbnfnaaGreatDoor
open Go.RowKit Go.Maps Go.Sort Go.Shelf

/-- Users' cells, in a row. -/
def ucells (l : List Us) : List Value := l.flatMap fun u => u.cells.toList
theorem ucells_length (l : List Us) : (ucells l).length = l.length * 5 := by
  induction l with
  | nil => rfl
  | cons u l ih =>
    have : ucells (u :: l) = u.cells.toList ++ ucells l := rfl
    rw [this, List.length_append, ih, List.length_cons]
    have : u.cells.toList.length = 5 := rfl
    omega
theorem ucells_at (l : List Us) (i j : Nat) (hi : i < l.length) (hj : j < 5) : (ucells l)[i * 5 + j]? = l[i].cells[j]? := by
  induction l generalizing i with
  | nil => exact absurd hi (Nat.not_lt_zero _)
  | cons u l ih =>
    have e : ucells (u :: l) = u.cells.toList ++ ucells l := rfl
    have h5 : u.cells.toList.length = 5 := rfl
    rw [e]
    cases i with
    | zero =>
      rw [List.getElem?_append_left (by omega), Nat.zero_mul, Nat.zero_add]
      simp
    | succ i =>
      rw [List.getElem?_append_right (by omega), h5, show (i + 1) * 5 + j - 5 = i * 5 + j by omega]
      exact ih i (by simpa using hi)
theorem RdU7.src {w : World} {A : Option Addr} {l : List Us} (h : RdU7 w A l) (c : Nat) : Src Tryz.prog 5 22 (.slice A l.length c) l.length (ucells l) w := by
  have hk : Tryz.prog.underlying 22 = some (.slice 26) := Tryz.underlying22
  by_cases hl : l = []
  · subst hl
    cases A with
    | none => exact Src.ofNil w hk c
    | some ad => exact Src.ofSlice w hk ad 0 c [] rfl (fun j u hu => by simp at hu) (fun u hu => by cases hu)
  · obtain ⟨b, off, rfl, _, hc⟩ := h hl
    refine Src.ofSlice w hk ⟨b, off, none⟩ l.length c _ (ucells_length l) (fun j u hu => ?_) (fun u hu => ?_)
    · have hlt : j < (ucells l).length := (List.getElem?_eq_some_iff.1 hu).1
      rw [ucells_length] at hlt
      have hi : j / 5 < l.length := by omega
      have hj : j / 5 * 5 + j % 5 = j := by omega
      have h5 : j % 5 < 5 := by omega
      have := ucells_at l (j / 5) (j % 5) hi h5
      rw [hj, hu] at this
      have h2 := hc (j / 5) hi (j % 5) u this.symm
      rw [Addr.add_lit]
      rwa [show off + j / 5 * 5 + j % 5 = off + j by omega] at h2
    · unfold ucells at hu
      rw [List.mem_flatMap] at hu
      obtain ⟨x, _, hx⟩ := hu
      simp only [Us.cells, List.mem_cons, List.not_mem_nil, or_false] at hx
      rcases hx with rfl | rfl | rfl | rfl | rfl <;> rfl
theorem owns_users {w : World} {b0 n c : Nat} {A : Option Addr} {l : List Us} (ho : w.ownsRow b0 26 5 (.slice A n c) n (ucells l)) (hn : n = l.length) : RdU7 w A l := by
  intro hl
  have hp : 0 < l.length := List.length_pos_iff.2 hl
  obtain ⟨g, cap, hv, _, hg⟩ := ho.form (by omega)
  injection hv with hA _ hc
  subst hA hc
  refine ⟨g, 0, rfl, hg, fun i hi j u hu => ?_⟩
  have h5 : j < 5 := by
    have := (Array.getElem?_eq_some_iff.1 hu).1
    exact this
  have := ho.cellAt (i * 5 + j) (by omega)
  rw [ucells_at l i j hi h5, hu] at this
  rwa [Nat.zero_add]

theorem bare7_same {u : Us} (h : chk6 1 u = 0) : sameU (bare7 (u.nm.data.toList, u.hs.data.toList)) u = true := by
  unfold chk6 at h
  rw [if_pos rfl] at h
  have hb : bare6 u = true := err5_zero (n := 12) (by decide) (first6_zero h _ (by simp))
  unfold bare6 sameU upU at hb
  unfold sameU bare7
  simp only [Bool.and_eq_true, decide_eq_true_eq] at hb ⊢
  obtain ⟨⟨⟨⟨_, _⟩, h3⟩, h4⟩, h5⟩ := hb
  exact ⟨⟨⟨⟨tx7_back _, tx7_back _⟩, h3.symm⟩, h4.symm⟩, h5.symm⟩

/-- A loop that stores into a row of users, beside a directory; at the place o of each user lies a text. -/
structure Lo7 (w : World) (B : Nat) (p : Option Nat) (L : Row7) (v : Value) (n o : Nat) (W : World) : Prop where
  bel : Below w.heap.size w W
  dir : Dir7 W B p L
  row : ∃ xs, W.ownsRow 0 26 5 v n xs ∧ ∀ i, i < n → ∃ s, xs[i * 5 + o]? = some (.string s)
  far : ∀ k, v.ownBlock = some k → w.heap.size ≤ k ∧ B ≠ k ∧ p ≠ some k
theorem Lo7.below {w W W' : World} {B : Nat} {p : Option Nat} {L : Row7} {v : Value} {n o : Nat} (h : Lo7 w B p L v n o W) (hb : Below W.heap.size W W') : Lo7 w B p L v n o W' := by
  obtain ⟨xs, ho, hx⟩ := h.row
  exact ⟨below_next h.bel hb, h.dir.later hb, ⟨xs, (Turns.of_below hb (fun _ => False)).owns ho (fun _ _ f => f), hx⟩, h.far⟩
theorem Lo7.form {w W : World} {B : Nat} {p : Option Nat} {L : Row7} {A : Option Addr} {n c o : Nat} (h : Lo7 w B p L (.slice A n c) n o W) (hn : 0 < n) : ∃ g, A = some ⟨g, 0, none⟩ := by
  obtain ⟨xs, ho, _⟩ := h.row
  obtain ⟨g, cap, hv, _, _⟩ := ho.form hn
  injection hv with hA
  exact ⟨g, hA⟩
theorem Lo7.store {w W : World} {B : Nat} {p : Option Nat} {L : Row7} {g n c o : Nat} (h : Lo7 w B p L (.slice (some ⟨g, 0, none⟩) n c) n o W) (ho5 : o < 5) (k : Nat) (hk : k < n) (s : ByteArray) :
    (∃ x, W.cell? ⟨g, k * 5 + o, none⟩ = some (.string x)) ∧ W.frozen? ⟨g, k * 5 + o, none⟩ = false ∧ Lo7 w B p L (.slice (some ⟨g, 0, none⟩) n c) n o (W.setCell ⟨g, k * 5 + o, none⟩ (.string s)) := by
  obtain ⟨xs, ho, hx⟩ := h.row
  obtain ⟨h1, h2, h3⟩ := h.far g rfl
  have hc := ho.cellAt (k * 5 + o) (by omega)
  obtain ⟨x, hxk⟩ := hx k hk
  rw [hxk] at hc
  have ht : Turns (fun i => i = g) W (W.setCell ⟨g, k * 5 + o, none⟩ (.string s)) := (Turns.refl (fun i => i = g) W).setCell (p := ⟨g, k * 5 + o, none⟩) (fun _ => rfl) _
  refine ⟨⟨x, hc⟩, ho.frozenAt _, h.bel.setCell (p := ⟨g, k * 5 + o, none⟩) h1 _, h.dir.turns ht h2 (fun b hb e => h3 (by rw [hb, e])), ⟨_, (ho.stored (k * 5 + o) (.string s)).1, fun i hi => ?_⟩, h.far⟩
  rw [List.getElem?_set]
  split
  · split
    · exact ⟨s, rfl⟩
    · next he hlt =>
      obtain ⟨y, hy⟩ := hx i hi
      have := (List.getElem?_eq_some_iff.1 hy).1
      omega
  · exact hx i hi
theorem Lo7.of_cells {w W : World} {B : Nat} {p : Option Nat} {L : Row7} {A : Option Addr} {l : List Us} {n c : Nat} (hb : Below w.heap.size w W) (hd : Dir7 W B p L) (ho : W.ownsRow 0 26 5 (.slice A n c) n (ucells l)) (hn : n = l.length)
    (hf : ∀ k, (Value.slice A n c).ownBlock = some k → w.heap.size ≤ k ∧ B ≠ k ∧ p ≠ some k) (o : Nat) (ho2 : o < 2) : Lo7 w B p L (.slice A n c) n o W := by
  refine ⟨hb, hd, ⟨_, ho, fun i hi => ?_⟩, hf⟩
  rw [ucells_at l i o (by omega) (by omega)]
  rcases o with _ | _ | o
  · exact ⟨_, rfl⟩
  · exact ⟨_, rfl⟩
  · omega
theorem users7_cells (L : Row7) : L.flatMap usr7 = ucells (L.map bare7) := by
  unfold ucells
  rw [List.flatMap_map]
  rfl
theorem rowU_length (l : List Us) : (rowU l).length = l.length := List.length_map _
end Go.Proofs.YtclnkboejbnfnaaGreatDoor

/-
  The law's few tells whether acts are few and little; plain facts on rows that are filtered; users that are read out of a row.
  Conditions: each theorem's own.
-/
import Derived.Test.YtclnkboejbnfnaaGreatDoorElderOwn
import Derived.Test.YtclnkboejbnfnaaGreatDoorOpenE
namespace Go.Proofs.YtclnkboejbnfnaaGreatDoor
open Go.RowKit Go.Maps Go.Sort Go.Shelf

/-- An act is little; acts are few, and little. -/
def little7 (t : Act7) : Bool := decide (t.nm.size ≤ 50) && decide (t.hs.size ≤ 50)
def few7 (l : List Act7) : Bool := l.all little7 && decide (l.length ≤ 60)

theorem filter_at {α : Type} (q : α → Bool) : ∀ (ls : List α) (k : Nat) (hk : k < ls.length), q ls[k] = true → (ls.filter q)[((ls.take k).filter q).length]? = some ls[k]
  | [], _, hk, _ => absurd hk (Nat.not_lt_zero _)
  | x :: ls, 0, _, h => by
    have : q x = true := h
    simp [this]
  | x :: ls, k + 1, hk, h => by
    have ih := filter_at q ls k (by simpa using hk) (by simpa using h)
    rw [List.take_succ_cons, List.filter_cons, List.filter_cons]
    cases q x <;> simp [ih]
theorem filter_step {α : Type} (q : α → Bool) (ls : List α) (k : Nat) (hk : k < ls.length) : ((ls.take (k + 1)).filter q).length = ((ls.take k).filter q).length + if q ls[k] then 1 else 0 := by
  rw [List.take_succ_eq_append_getElem hk, List.filter_append, List.length_append]
  cases h : q ls[k] <;> simp [h]

/-- The slice v reads as these users. -/
def Us7 (w : World) (v : Value) (L : Row7) : Prop := ∃ A c, v = .slice A L.length c ∧ ∀ j (h : j < L.length), ∃ g, A = some ⟨g, 0, none⟩ ∧ ∀ i u, (usr7 L[j])[i]? = some u → w.cell? ⟨g, j * 5 + i, none⟩ = some u
theorem Us7.later {w w' : World} {v : Value} {L : Row7} (h : Us7 w v L) (hb : Below w.heap.size w w') : Us7 w' v L := by
  obtain ⟨A, c, e, hc⟩ := h
  exact ⟨A, c, e, fun j hj => by obtain ⟨g, e, h⟩ := hc j hj; exact ⟨g, e, fun i u hu => (hb.cell (p := ⟨g, j * 5 + i, none⟩) (World.block_lt_of_cell? w _ (h i u hu))).trans (h i u hu)⟩⟩
theorem Us7.of_users {w : World} {base : Nat} {v : Value} {L : Row7} (h : Users7 L base w v) : Us7 w v L := by
  have hs : ∃ A c, v = .slice A L.length c := by
    rcases h.2 with ⟨rfl, h0⟩ | ⟨g, cap, cur, rfl, _⟩
    · exact ⟨none, 0, by rw [h0]⟩
    · exact ⟨_, _, rfl⟩
  obtain ⟨A, c, rfl⟩ := hs
  refine ⟨A, c, rfl, fun j hj => ?_⟩
  rcases h.2 with ⟨_, h0⟩ | ⟨g, cap, cur, e1, _⟩
  · omega
  · injection e1 with e1
    subst e1
    refine ⟨g, rfl, fun i u hu => ?_⟩
    have hi : i < 5 := (List.getElem?_eq_some_iff.1 hu).1
    have := World.ownsRow.cells h (g := g) rfl (j * 5 + i) u (by rw [usr7_at L j i hj hi]; exact hu)
    rw [Addr.add_lit, Nat.zero_add] at this
    exact this
end Go.Proofs.YtclnkboejbnfnaaGreatDoor

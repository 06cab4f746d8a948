/-
  A user's clone, in memory of its own; the document's Same.
  Conditions: texts and rows are no longer than they may be.
-/
import Derived.Test.YtghmcbgejeanfaaDoorUserF
namespace Go.Proofs.YtghmcbgejeanfaaDoor
open Go.RowKit

theorem sclone6_calls (A : Option Addr) (n c : Nat) (ss : List ByteArray) (w : World) (hn : n = ss.length) (h1 : RdS w A ss) (hb : n ≤ 1000) (hnil : A = none → c = 0) (hc : n ≤ c) :
    Calls Tryd.prog 52 #[.slice A n c] w fun e w' => ∃ v', e = .returned v' ∧ w'.ownsRow w.heap.size 9 1 v' n (ss.map Value.string) ∧ Below w.heap.size w w' := by
  subst hn
  cases A with
  | none =>
    have h0 : ss = [] := by
      by_cases h : ss = []
      · exact h
      · obtain ⟨_, _, e, _⟩ := h1 h
        cases e
    subst h0
    exact (Tryd.slices_Clone_string_nil 0 c w).mono fun e w' ⟨he, hw⟩ => by
      subst hw
      exact ⟨_, he, World.ownsRow_nil _ _ _ _, Below.refl _ _⟩
  | some a =>
    by_cases h0 : ss = []
    · subst h0
      exact (Tryd.slices_Clone_string_zero a c w).mono fun e w' ⟨v', he, ho, _, hb⟩ => ⟨v', he, ho, hb⟩
    · obtain ⟨b, off, e, _, hcell⟩ := h1 h0
      injection e with e
      subst e
      have := Tryd.slices_Clone_string b off ss.length c ss w (Nat.le_refl _) (by omega) (rds_cells hcell)
      rw [List.take_length] at this
      exact this.mono fun e w' ⟨v', he, ho, _, hb⟩ => ⟨v', he, ho, hb⟩

/-- Five cells of a user, whole. -/
def Blk5 (w : World) (B : Nat) (a b c d e : Value) : Prop := w.heap[B]? = some (.cells #[a, b, c, d, e] 24 (0, 0))
theorem Blk5.lt {w : World} {B : Nat} {a b c d e : Value} (h : Blk5 w B a b c d e) : B < w.heap.size := (Array.getElem?_eq_some_iff.1 h).1
theorem Blk5.at_ {w : World} {B : Nat} {a b c d e : Value} (h : Blk5 w B a b c d e) (j : Nat) : w.cell? ⟨B, j, none⟩ = #[a, b, c, d, e][j]? := cell_of_row w B j _ _ (0, 0) h
theorem Blk5.free {w : World} {B : Nat} {a b c d e : Value} (h : Blk5 w B a b c d e) (j : Nat) : w.frozen? ⟨B, j, none⟩ = false := by
  have h' : w.heap[B]? = some (.cells #[a, b, c, d, e] 24 (0, 0)) := h
  simp [World.frozen?, h']
theorem Blk5.set4 {w : World} {B : Nat} {a b c d e : Value} (h : Blk5 w B a b c d e) (x : Value) : Blk5 (w.setCell ⟨B, 4, none⟩ x) B a b c d x := by
  have h' : w.heap[B]? = some (.cells #[a, b, c, d, e] 24 (0, 0)) := h
  simp [Blk5, World.setCell, Array.getElem?_modify, h']
theorem Blk5.other {w : World} {B C j : Nat} {a b c d e : Value} (h : Blk5 w B a b c d e) (hne : B ≠ C) (x : Value) : Blk5 (w.setCell ⟨C, j, none⟩ x) B a b c d e := by
  show (w.setCell ⟨C, j, none⟩ x).heap[B]? = _
  rw [Below.heap_setCell _ _ _ _ hne]
  exact h

/-- All five are stored. -/
def set5 (w : World) (B : Nat) (a b c d e : Value) : World := ((((w.setCell ⟨B, 0, none⟩ a).setCell ⟨B, 1, none⟩ b).setCell ⟨B, 2, none⟩ c).setCell ⟨B, 3, none⟩ d).setCell ⟨B, 4, none⟩ e
theorem Blk5.set5 {w : World} {B : Nat} {a b c d e : Value} (h : Blk5 w B a b c d e) (a' b' c' d' e' : Value) : Blk5 (set5 w B a' b' c' d' e') B a' b' c' d' e' := by
  have h' : w.heap[B]? = some (.cells #[a, b, c, d, e] 24 (0, 0)) := h
  simp [Blk5, Go.Proofs.YtghmcbgejeanfaaDoor.set5, World.setCell, Array.getElem?_modify, h']
theorem turns_set5 {S : Nat → Prop} {a0 w : World} (h : Turns S a0 w) (B : Nat) (hB : B < a0.heap.size → S B) (a b c d e : Value) : Turns S a0 (set5 w B a b c d e) :=
  ((((h.setCell (p := ⟨B, 0, none⟩) hB a).setCell (p := ⟨B, 1, none⟩) hB b).setCell (p := ⟨B, 2, none⟩) hB c).setCell (p := ⟨B, 3, none⟩) hB d).setCell (p := ⟨B, 4, none⟩) hB e
theorem owns_turns {S : Nat → Prop} {w w' : World} {b0 b1 : Nat} {e : TypeId} {size n : Nat} {v : Value} {xs : List Value} (ho : w.ownsRow b0 e size v n xs) (h1 : b1 ≤ b0) (ht : Turns S w w') (hS : ∀ k, b0 ≤ k → ¬ S k) : w'.ownsRow b1 e size v n xs := by
  refine ⟨ho.1, ?_⟩
  rcases ho.2 with h0 | ⟨g, cap, cur, rfl, hb, hg, rest⟩
  · exact .inl h0
  · exact .inr ⟨g, cap, cur, rfl, Nat.le_trans h1 hb, (ht.block g (Array.getElem?_eq_some_iff.1 hg).1 (hS g hb)).trans hg, rest⟩

set_option maxRecDepth 100000 in
theorem clone6_calls (u : Us) (w : World) (h : u.Ok w) (hl : u.gs.length ≤ 1000) : Calls Tryd.prog 21 #[u.v] w fun e w' => ∃ A c, e = .returned (Us.v { u with ga := A, gc := c }) ∧ w'.ownsRow w.heap.size 9 1 (.slice A u.gs.length c) u.gs.length (u.gs.map Value.string) ∧ Below w.heap.size w w' := by
  have HC : Hid (∀ W, Below w.heap.size w W → Calls Tryd.prog 52 #[.slice u.ga u.gs.length u.gc] W fun e w' => ∃ v', e = .returned v' ∧ w'.ownsRow W.heap.size 9 1 v' u.gs.length (u.gs.map Value.string) ∧ Below W.heap.size W w') := fun W hb => sclone6_calls _ _ _ _ W rfl (h.rd.below hb) hl h.nil h.len
  clear h
  unfold Us.v Us.cells
  obtain ⟨nm, hs, ml, dis, A, gs, c⟩ := u
  dsimp only at *
  generalize gs.map Value.string = vs at *
  generalize gs.length = n at *
  go_enter Tryd.func21, Tryd.ntmps21
  go_wp2_with fail
  with_reducible refine (HC.out _ (below_alloc (below_alloc (Below.refl _ _) _) _)).mono ?_
  rintro e w3 ⟨v', rfl, ho, hb⟩
  have hB : Blk5 w3 w.heap.size (.string nm) (.string hs) (.string ml) (.bool dis) (.slice A n c) := (hb.block w.heap.size (by simp; omega)).trans (by
    rw [Below.heap_alloc _ _ _ (by simp)]
    exact heap_alloc_new w _)
  have hR : Blk5 w3 (w.heap.size + 1) (.string ⟨#[]⟩) (.string ⟨#[]⟩) (.string ⟨#[]⟩) (.bool false) (.slice none 0 0) := (hb.block (w.heap.size + 1) (by simp)).trans (by
    have := heap_alloc_new (w.alloc (.cells #[.string nm, .string hs, .string ml, .bool dis, .slice A n c] 24)) (.cells #[.string ⟨#[]⟩, .string ⟨#[]⟩, .string ⟨#[]⟩, .bool false, .slice none 0 0] 24)
    simpa using this)
  obtain ⟨A', c', rfl⟩ : ∃ A' c', v' = .slice A' n c' := by
    rcases ho.2 with ⟨rfl, rfl⟩ | ⟨g, cap, cur, rfl, _⟩
    · exact ⟨_, _, rfl⟩
    · exact ⟨_, _, rfl⟩
  have hne : w.heap.size + 1 ≠ w.heap.size := by omega
  have hB4 := hB.set4 (.slice A' n c')
  have hR4 := hR.other (j := 4) hne (.slice A' n c')
  have HO := Lib.hid ho
  have HB := Lib.hid (below_next (below_alloc (below_alloc (Below.refl w.heap.size w) _) _) hb)
  have HR4 := Lib.hid hR4
  have c0 : _ = some (.string nm : Value) := hB.at_ 0
  have c1 : _ = some (.string hs : Value) := hB.at_ 1
  have c2 : _ = some (.string ml : Value) := hB.at_ 2
  have c3 : _ = some (.bool dis : Value) := hB.at_ 3
  have c4 : _ = some (.slice A n c : Value) := hB.at_ 4
  have f0 := hB.free
  have f1 := hR4.free
  have d0 : _ = some (.string nm : Value) := hB4.at_ 0
  have d1 : _ = some (.string hs : Value) := hB4.at_ 1
  have d2 : _ = some (.string ml : Value) := hB4.at_ 2
  have d3 : _ = some (.bool dis : Value) := hB4.at_ 3
  have d4 : _ = some (.slice A' n c' : Value) := hB4.at_ 4
  have r0 : _ = some (.string ⟨#[]⟩ : Value) := hR4.at_ 0
  have r1 : _ = some (.string ⟨#[]⟩ : Value) := hR4.at_ 1
  have r2 : _ = some (.string ⟨#[]⟩ : Value) := hR4.at_ 2
  have r3 : _ = some (.bool false : Value) := hR4.at_ 3
  have r4 : _ = some (.slice none 0 0 : Value) := hR4.at_ 4
  clear hb ho hB hR hB4 hR4
  go_wp2
  have HS := Lib.hid (HR4.out.set5 (.string nm) (.string hs) (.string ml) (.bool dis) (.slice A' n c'))
  have hT : Turns (fun i => i = w.heap.size ∨ i = w.heap.size + 1) w3 (set5 (w3.setCell ⟨w.heap.size, 4, none⟩ (.slice A' n c')) (w.heap.size + 1) (.string nm) (.string hs) (.string ml) (.bool dis) (.slice A' n c')) :=
    turns_set5 ((Turns.refl _ _).setCell (fun _ => .inl rfl) _) _ (fun _ => .inr rfl) _ _ _ _ _
  have hO := owns_turns (b1 := w.heap.size) HO.out (by simp; omega) hT (fun k hk hS => by
    simp at hk
    omega)
  have hBW : Below w.heap.size w (set5 (w3.setCell ⟨w.heap.size, 4, none⟩ (.slice A' n c')) (w.heap.size + 1) (.string nm) (.string hs) (.string ml) (.bool dis) (.slice A' n c')) :=
    HB.out.trans (hT.below_at HB.out.size (fun i hi => by omega))
  have q0 : _ = some (.string nm : Value) := HS.out.at_ 0
  have q1 : _ = some (.string hs : Value) := HS.out.at_ 1
  have q2 : _ = some (.string ml : Value) := HS.out.at_ 2
  have q3 : _ = some (.bool dis : Value) := HS.out.at_ 3
  have q4 : _ = some (.slice A' n c' : Value) := HS.out.at_ 4
  unfold set5 at hT hO hBW q0 q1 q2 q3 q4
  refine bodyPost_ret (v := .agg #[.string nm, .string hs, .string ml, .bool dis, .slice A' n c']) ?_ rfl ⟨A', c', rfl, hO, hBW⟩
  simp [results, Tryd.results21, go_sem, q0, q1, q2, q3, q4]
end Go.Proofs.YtghmcbgejeanfaaDoor

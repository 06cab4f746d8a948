/-
  What Put of package user writes, and the chapter's example.
  Conditions: texts and rows are no longer than they may be; the library's own variable MaxLen holds some number; the Writer is new.
-/
import Derived.Test.YtapagcljhjgcdaaGreatDoorUserD
import Derived.Test.YtapagcljhjgcdaaGreatDoorPlain
namespace Go.Proofs.YtapagcljhjgcdaaGreatDoor
open Go.RowKit

/-- A user's block, whole. -/
def UsB (w : World) (B : Nat) (u : Us) : Prop := w.heap[B]? = some (.cells #[.string u.nm, .string u.hs, .string u.ml, .bool u.dis, .slice u.ga u.gs.length u.gc] 26 (0, 0))
theorem UsB.at_ {w : World} {B : Nat} {u : Us} (h : UsB w B u) : UsAt w B u := by
  refine ⟨(Array.getElem?_eq_some_iff.1 h).1, ?_, ?_, ?_, ?_, ?_⟩
  all_goals
    rw [cell_of_row w B _ _ _ (0, 0) h]
    rfl
theorem UsB.new (w : World) (u : Us) : UsB (w.alloc (.cells #[.string u.nm, .string u.hs, .string u.ml, .bool u.dis, .slice u.ga u.gs.length u.gc] 26)) w.heap.size u := heap_alloc_new w _
theorem UsB.below {w W : World} {B : Nat} {u : Us} (h : UsB w B u) (hb : Below w.heap.size w W) : UsB W B u := (hb.block B (Array.getElem?_eq_some_iff.1 h).1).trans h

/-- A user that may be is little. -/
structure Us.Little (u : Us) : Prop where
  nm : u.nm.size ≤ 12
  hs : u.hs.size ≤ 12
  ml : u.ml.size ≤ 20
  len : u.gs.length ≤ 6
  all : ∀ s ∈ u.gs, s.size ≤ 12
theorem err5_zero {b : Bool} {n : Int} (hn : n ≠ 0) (h : err5 b n = 0) : b = true := by
  cases b with
  | true => rfl
  | false => exact absurd h hn
theorem first6_zero : ∀ {l : List Int}, first6 l = 0 → ∀ e ∈ l, e = 0
  | [], _, e, h => by cases h
  | x :: l, h, e, he => by
    unfold first6 at h
    by_cases hx : x = 0
    · rw [if_pos hx] at h
      rcases List.mem_cons.1 he with rfl | he
      · exact hx
      · exact first6_zero h e he
    · rw [if_neg hx] at h
      exact absurd h hx
theorem name5_size {s : ByteArray} (h : name5 s.data.toList = true) : s.size ≤ 12 := by
  unfold name5 pref5 at h
  simp only [Bool.and_eq_true, decide_eq_true_eq, size_list] at h
  exact h.1.1.2.1
theorem hash5_size {s : ByteArray} (h : hash5 s.data.toList = true) : s.size ≤ 12 := by
  unfold hash5 at h
  simp only [Bool.and_eq_true, decide_eq_true_eq, size_list] at h
  exact h.1.2
theorem fold6_size {s : ByteArray} (h : fold6 s = true) : s.size ≤ 20 := by
  unfold fold6 mail5 at h
  simp only [Bool.and_eq_true, Bool.or_eq_true, decide_eq_true_eq, size_list] at h
  rcases h with h | h
  · omega
  · exact h.1.1.1.1
theorem chk6_head {s : Int} {u : Us} (h : chk6 s u = 0) : know6 s = true ∧ name5 u.nm.data.toList = true ∧ hash5 u.hs.data.toList = true := by
  have h0 : first6 [err5 (know6 s) 6, err5 (name5 u.nm.data.toList) 10, err5 (hash5 u.hs.data.toList) 4] = 0 := by
    unfold chk6 at h
    by_cases h1 : s = 1
    · rw [if_pos h1] at h
      exact first6_zero h _ (by simp)
    · rw [if_neg h1] at h
      exact first6_zero h _ (by simp)
  exact ⟨err5_zero (n := 6) (by decide) (first6_zero h0 _ (by simp)), err5_zero (n := 10) (by decide) (first6_zero h0 _ (by simp)), err5_zero (n := 4) (by decide) (first6_zero h0 _ (by simp))⟩
theorem bare6_eq {u : Us} (h : bare6 u = true) : u.ml = ⟨#[]⟩ ∧ u.dis = false ∧ u.gs = [] := by
  unfold bare6 sameU upU at h
  simp only [Bool.and_eq_true, decide_eq_true_eq] at h
  exact ⟨h.1.1.2, h.1.2, h.2⟩
theorem chk6_one {u : Us} (h : chk6 1 u = 0) : bare6 u = true := by
  unfold chk6 at h
  rw [if_pos rfl] at h
  exact err5_zero (by decide) (first6_zero h (err5 (bare6 u) 12) (by simp))
theorem chk6_two {u : Us} (h : chk6 2 u = 0) : fold6 u.ml = true ∧ u.gs.length ≤ 6 ∧ names6 u.gs = true ∧ rise6 u.gs = true := by
  unfold chk6 at h
  rw [if_neg (by decide)] at h
  refine ⟨err5_zero (by decide) (first6_zero h (err5 (fold6 u.ml) 11) (by simp)), ?_, err5_zero (n := 10) (by decide) (first6_zero h (err5 (names6 u.gs) 10) (by simp)), err5_zero (by decide) (first6_zero h (err5 (rise6 u.gs) 9) (by simp))⟩
  exact of_decide_eq_true (err5_zero (by decide) (first6_zero h (err5 (decide (u.gs.length ≤ 6)) 7) (by simp)))
theorem chk6_little {s : Int} {u : Us} (h : chk6 s u = 0) : u.Little ∧ (s = 1 ∨ s = 2) := by
  obtain ⟨h1, h2, h3⟩ := chk6_head h
  have hs : s = 1 ∨ s = 2 := by simpa [know6] using h1
  refine ⟨?_, hs⟩
  rcases hs with rfl | rfl
  · obtain ⟨e1, _, e3⟩ := bare6_eq (chk6_one h)
    exact ⟨name5_size h2, hash5_size h3, by rw [e1]; exact Nat.zero_le _, by rw [e3]; exact Nat.zero_le _, fun s hs => by rw [e3] at hs; cases hs⟩
  · obtain ⟨e1, e2, e3, _⟩ := chk6_two h
    exact ⟨name5_size h2, hash5_size h3, fold6_size e1, e2, fun s hs => name5_size (List.all_eq_true.1 e3 s hs)⟩

/-- A user's bytes. -/
def userB (s : Int) (u : Us) : List UInt8 := textB u.nm ++ textB u.hs ++ (if s = 2 then textB u.ml ++ le u.dis.toNat 1 ++ rowB u.gs else [])
/-- What each operation makes. -/
def YPutA (B B5 : Nat) (u : Us) : Nat → Value → World → Prop
  | 0, v, _ => v = .pointer (some ⟨B, 0, none⟩)
  | 1, v, _ => v = .pointer (some ⟨B5, 0, none⟩)
  | 2, v, _ => v = .string u.nm
  | 3, v, _ => v = .pointer (some ⟨B, 0, none⟩)
  | 4, v, _ => v = .pointer (some ⟨B5, 1, none⟩)
  | 5, v, _ => v = .string u.hs
  | _, v, _ => v = .pointer (some ⟨B, 0, none⟩)
theorem YPutA_keep {B B5 : Nat} {u : Us} {W W' : World} (j : Nat) (z : Value) (h : YPutA B B5 u j z W) : YPutA B B5 u j z W' := by
  match j, h with
  | 0, h => exact h
  | 1, h => exact h
  | 2, h => exact h
  | 3, h => exact h
  | 4, h => exact h
  | 5, h => exact h
  | _ + 6, h => exact h
/-- What each operation makes. -/
def YPutB (B B5 : Nat) (u : Us) : Nat → Value → World → Prop
  | 0, v, _ => v = .pointer (some ⟨B, 0, none⟩)
  | 1, v, _ => v = .pointer (some ⟨B5, 2, none⟩)
  | 2, v, _ => v = .string u.ml
  | 3, v, _ => v = .pointer (some ⟨B, 0, none⟩)
  | 4, v, _ => v = .pointer (some ⟨B5, 3, none⟩)
  | 5, v, _ => v = .bool u.dis
  | 6, v, _ => v = .pointer (some ⟨B, 0, none⟩)
  | 7, v, _ => v = .pointer (some ⟨B5, 4, none⟩)
  | 8, v, _ => v = .slice u.ga u.gs.length u.gc
  | _, v, _ => v = .pointer (some ⟨B, 0, none⟩)
theorem YPutB_keep {B B5 : Nat} {u : Us} {W W' : World} (j : Nat) (z : Value) (h : YPutB B B5 u j z W) : YPutB B B5 u j z W' := by
  match j, h with
  | 0, h => exact h
  | 1, h => exact h
  | 2, h => exact h
  | 3, h => exact h
  | 4, h => exact h
  | 5, h => exact h
  | 6, h => exact h
  | 7, h => exact h
  | 8, h => exact h
  | _ + 9, h => exact h
/-- What has been written, step by step. -/
def pA6 (bs : List UInt8) (u : Us) : Nat → List UInt8
  | 0 => bs
  | 1 => bs ++ textB u.nm
  | _ => bs ++ textB u.nm ++ textB u.hs
def pB6 (bs : List UInt8) (u : Us) : Nat → List UInt8
  | 0 => bs
  | 1 => bs ++ textB u.ml
  | 2 => bs ++ textB u.ml ++ le u.dis.toNat 1
  | _ => bs ++ textB u.ml ++ le u.dis.toNat 1 ++ rowB u.gs
theorem SeqG.any {cs : List Nat} {St : Nat → World → Prop} {L : Nat → Bool} {W : World} {p : Prop} (h : SeqG cs St L W) (hp : ∀ m, St m W → p) : p := by
  obtain ⟨m, _, hs, _⟩ := h
  exact hp m hs
theorem SeqG.last {cs : List Nat} {St : Nat → World → Prop} {L : Nat → Bool} {W : World} (h : SeqG cs St L W) (hL : ∀ r, r < cs.length → L (cs.getD r 0) = true) : St cs.length W := by
  obtain ⟨m, hm, hs, hr⟩ := h
  have : m = cs.length := by
    by_cases e : m = cs.length
    · exact e
    · have h1 := hr m (by omega)
      rw [hL m (by omega)] at h1
      simp at h1
  rw [← this]
  exact hs

end Go.Proofs.YtapagcljhjgcdaaGreatDoor

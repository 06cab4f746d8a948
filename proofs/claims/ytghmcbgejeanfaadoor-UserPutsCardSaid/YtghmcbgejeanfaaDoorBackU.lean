/-
  What is written of a user is read again: Get of what Put wrote.
  Conditions: the library's own variable MaxLen holds some number.
-/
import Derived.Test.YtghmcbgejeanfaaDoorGetV
namespace Go.Proofs.YtghmcbgejeanfaaDoor
open Go.RowKit

theorem takeS_put6 (l r : List UInt8) : takeS ⟨l ++ r, 0⟩ l.length = (⟨r, 0⟩, l) := by
  unfold takeS
  rw [if_neg (by simp), List.drop_left, List.take_left]
theorem numS_put6 (x k : Nat) (r : List UInt8) : numS ⟨le x k ++ r, 0⟩ k = (⟨r, 0⟩, x % 256 ^ k) := by
  have h := takeS_put6 (le x k) r
  rw [le_length] at h
  unfold numS
  rw [h, val_le]
theorem truthS_put6 (b : Bool) (r : List UInt8) : truthS ⟨le b.toNat 1 ++ r, 0⟩ = (⟨r, 0⟩, b) := by
  unfold truthS
  rw [numS_put6]
  cases b <;> rfl
theorem lengthS_put6 (n : Nat) (r : List UInt8) (most : Int) (hn : n ≤ 65535) (hm : (n : Int) ≤ most) : lengthS ⟨le n 2 ++ r, 0⟩ most = (⟨r, 0⟩, n) := by
  unfold lengthS
  rw [numS_put6, Nat.mod_eq_of_lt (by omega), if_neg (by omega)]
theorem textS_put6 (s : ByteArray) (r : List UInt8) (most : Int) (hs : s.size ≤ 65535) (hm : (s.size : Int) ≤ most) : textS ⟨textB s ++ r, 0⟩ most = (⟨r, 0⟩, s.data.toList) := by
  unfold textS textB
  rw [List.append_assoc, lengthS_put6 _ _ _ hs hm]
  have h := takeS_put6 s.data.toList r
  rwa [bytes_length] at h
theorem bytes_back6 (s : ByteArray) : ByteArray.mk s.data.toList.toArray = s := by
  obtain ⟨⟨l⟩⟩ := s
  rfl
theorem rowGo_put6 (long : Int) : ∀ (ss acc : List ByteArray) (r : List UInt8), (∀ s ∈ ss, s.size ≤ 65535 ∧ (s.size : Int) ≤ long) → rowGo long ss.length ⟨textsB ss ++ r, 0⟩ acc = (⟨r, 0⟩, acc ++ ss)
  | [], acc, r, _ => by simp [rowGo, textsB]
  | s :: ss, acc, r, h => by
    have h1 := h s (List.mem_cons_self ..)
    have e : textsB (s :: ss) ++ r = textB s ++ (textsB ss ++ r) := by simp [textsB]
    rw [List.length_cons, e]
    unfold rowGo
    rw [textS_put6 s _ long h1.1 h1.2, if_neg (by simp), bytes_back6, rowGo_put6 long ss _ r (fun t ht => h t (List.mem_cons_of_mem _ ht)), List.append_assoc]
    rfl
theorem rowS_put6 (ss : List ByteArray) (r : List UInt8) (most long : Int) (hn : ss.length ≤ 65535) (hm : (ss.length : Int) ≤ most) (h : ∀ s ∈ ss, s.size ≤ 65535 ∧ (s.size : Int) ≤ long) : rowS ⟨rowB ss ++ r, 0⟩ most long = (⟨r, 0⟩, ss) := by
  unfold rowS rowB
  rw [List.append_assoc, lengthS_put6 _ _ _ hn hm, rowGo_put6 long ss [] r h, List.nil_append]

theorem userB_length {s : Int} {u : Us} (h : u.Little) : (userB s u).length ≤ 1000 := by
  have h1 := h.nm
  have h2 := h.hs
  have h3 := h.ml
  have h4 := rowB_little u h
  unfold userB
  split
  · simp only [List.length_append, textB_length, le_length]
    omega
  · simp only [List.length_append, textB_length, List.length_nil]
    omega
/-- The same user, in new memory. -/
def Back6 (w : World) (B : Nat) (u : Us) (e : Ending) (w' : World) : Prop := ∃ A c, e = .returned ({ u with ga := A, gc := c } : Us).v ∧ w'.ownsRow 0 9 1 (.slice A u.gs.length c) u.gs.length (u.gs.map Value.string) ∧ (∀ j, Value.ownBlock (.slice A u.gs.length c) = some j → w.heap.size ≤ j) ∧ Did w B ⟨[], 0⟩ w'

theorem get6_back (s : Int) (u : Us) (B : Nat) (w : World) (h : Rdr w B ⟨userB s u, 0⟩) (hc : chk6 s u = 0) (hm : Len5 w) (hBg : B ≠ 0) :
    Calls Tryd.prog 14 #[.pointer (some ⟨B, 0, none⟩), .int .i64 s] w (Back6 w B u) := by
  obtain ⟨hl, hs⟩ := chk6_little hc
  have hlen := userB_length (s := s) hl
  have n1 := hl.nm
  have n2 := hl.hs
  have n3 := hl.ml
  have n4 := hl.len
  have n5 := hl.all
  rcases hs with rfl | rfl
  · obtain ⟨e1, e2, e3⟩ := bare6_eq (chk6_one hc)
    obtain ⟨nm, hs, ml, dis, ga, gs, gc⟩ := u
    dsimp only at e1 e2 e3 n1 n2 n3 n4 n5
    subst e1 e2 e3
    have g1 : textS ⟨userB 1 ⟨nm, hs, ⟨#[]⟩, false, ga, [], gc⟩, 0⟩ 65535 = (⟨textB hs ++ [], 0⟩, nm.data.toList) := by
      show textS ⟨textB nm ++ textB hs ++ [], 0⟩ 65535 = _
      rw [List.append_assoc]
      exact textS_put6 nm _ 65535 (by omega) (by omega)
    have g2 : textS ⟨textB hs ++ [], 0⟩ 65535 = (⟨[], 0⟩, hs.data.toList) := textS_put6 hs _ 65535 (by omega) (by omega)
    have ec : chk6 1 (one6 nm.data.toList hs.data.toList) = 0 := hc
    have g3 : failS ⟨[], 0⟩ (chk6 1 (one6 nm.data.toList hs.data.toList)) = ⟨[], 0⟩ := by rw [ec]; rfl
    refine (get6_one B _ w h (Nat.le_trans hlen (by omega)) hm hBg nm.data.toList hs.data.toList _ _ _ g1 g2 g3 (by rw [bytes_length]; omega) (by rw [bytes_length]; omega)).mono ?_
    rintro e w' ⟨A, c, he, ho, hn, hd⟩
    rw [if_pos rfl] at he
    exact ⟨A, c, he, ho, hn, hd⟩
  · obtain ⟨nm, hs, ml, dis, ga, gs, gc⟩ := u
    dsimp only at n1 n2 n3 n4 n5
    have g1 : textS ⟨userB 2 ⟨nm, hs, ml, dis, ga, gs, gc⟩, 0⟩ 65535 = (⟨textB hs ++ (textB ml ++ (le dis.toNat 1 ++ (rowB gs ++ []))), 0⟩, nm.data.toList) := by
      have e : userB 2 ⟨nm, hs, ml, dis, ga, gs, gc⟩ = textB nm ++ (textB hs ++ (textB ml ++ (le dis.toNat 1 ++ (rowB gs ++ [])))) := by
        show textB nm ++ textB hs ++ (textB ml ++ le dis.toNat 1 ++ rowB gs) = _
        simp only [List.append_assoc, List.append_nil]
      rw [e]
      exact textS_put6 nm _ 65535 (by omega) (by omega)
    have g2 : textS ⟨textB hs ++ (textB ml ++ (le dis.toNat 1 ++ (rowB gs ++ []))), 0⟩ 65535 = (⟨textB ml ++ (le dis.toNat 1 ++ (rowB gs ++ [])), 0⟩, hs.data.toList) := textS_put6 hs _ 65535 (by omega) (by omega)
    have g3 : textS ⟨textB ml ++ (le dis.toNat 1 ++ (rowB gs ++ [])), 0⟩ 65535 = (⟨le dis.toNat 1 ++ (rowB gs ++ []), 0⟩, ml.data.toList) := textS_put6 ml _ 65535 (by omega) (by omega)
    have g4 : truthS ⟨le dis.toNat 1 ++ (rowB gs ++ []), 0⟩ = (⟨rowB gs ++ [], 0⟩, dis) := truthS_put6 dis _
    have g5 : rowS ⟨rowB gs ++ [], 0⟩ 65535 65535 = (⟨[], 0⟩, gs) := rowS_put6 gs [] 65535 65535 (by omega) (by omega) (fun s hs => by have := n5 s hs; omega)
    have ec : chk6 2 (two6 nm.data.toList hs.data.toList ml.data.toList dis gs) = 0 := hc
    have g6 : failS ⟨[], 0⟩ (chk6 2 (two6 nm.data.toList hs.data.toList ml.data.toList dis gs)) = ⟨[], 0⟩ := by rw [ec]; rfl
    have hlen2 : (textB nm ++ (textB hs ++ (textB ml ++ (le dis.toNat 1 ++ (rowB gs ++ []))))).length ≤ 1000 := by
      have e : userB 2 ⟨nm, hs, ml, dis, ga, gs, gc⟩ = textB nm ++ (textB hs ++ (textB ml ++ (le dis.toNat 1 ++ (rowB gs ++ [])))) := by
        show textB nm ++ textB hs ++ (textB ml ++ le dis.toNat 1 ++ rowB gs) = _
        simp only [List.append_assoc, List.append_nil]
      rw [← e]
      exact hlen
    simp only [List.length_append] at hlen2
    refine (get6_two B _ w h (Nat.le_trans hlen (by omega)) hm hBg nm.data.toList hs.data.toList ml.data.toList dis gs _ _ _ _ _ _ g1 g2 g3 g4 g5 g6 ?_ ?_ ?_ ?_ (by rw [bytes_length]; omega) (by rw [bytes_length]; omega) (by rw [bytes_length]; omega) (fun s hs => by have := n5 s hs; omega)).mono ?_
    · simp only [List.length_append]; omega
    · simp only [List.length_append]; omega
    · simp only [List.length_append]; omega
    · simp only [List.length_append]; omega
    · rintro e w' ⟨A, c, he, ho, hn, hd⟩
      rw [if_pos rfl] at he
      exact ⟨A, c, he, ho, hn, hd⟩
end Go.Proofs.YtghmcbgejeanfaaDoor

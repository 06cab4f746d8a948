/-
  What the Writer's Bytes and Row do: all bytes, in new memory; a row of texts, put behind.
  Conditions: all that is written stays below 2^40 bytes; each text has at most 65535 bytes.
-/
import Derived.Test.YtkcddihigagknaaWriteB
namespace Go.Proofs.Ytkcddihigagknaa
open Go.RowKit

set_option maxRecDepth 100000 in
theorem bytes_calls (B : Nat) (v : Value) (bs : List UInt8) (w : World) (h : Wtr w B v bs) (hroom : bs.length ≤ 1099511627776) :
    Calls Try.prog 28 #[.pointer (some ⟨B, 0, none⟩)] w (Fresh w bs) := by
  have hc := h.cell
  have HR := Lib.hid (Rd.of_own h.2)
  clear h
  go_enter Try.func28, Try.ntmps28
  go_wp2_with fail
  with_reducible refine (clone_calls v bs w HR.out hroom).mono ?_
  rintro e w1 ⟨v1, rfl, ho, hb, ht⟩
  obtain ⟨A, c, rfl⟩ := owns_shape ho
  have HO := Lib.hid ho
  have HB := Lib.hid hb
  have HT := Lib.hid ht
  clear ho hb ht
  go_wp2
  go_ret
  exact ⟨_, rfl, HO.out, HB.out, HT.out⟩

/-- A slice that reads as texts, nil let in. -/
def RdS (w : World) (A : Option Addr) (ss : List ByteArray) : Prop :=
  ss ≠ [] → ∃ b off, A = some ⟨b, off, none⟩ ∧ b < w.heap.size ∧ ∀ j (hj : j < ss.length), w.cell? ⟨b, off + j, none⟩ = some (.string ss[j])
theorem RdS.turns {S : Nat → Prop} {w w' : World} {A : Option Addr} {ss : List ByteArray} (h : RdS w A ss) (ht : Turns S w w') (hn : ss ≠ [] → ∀ a, A = some a → ¬ S a.block) : RdS w' A ss := by
  intro hne
  obtain ⟨b, off, rfl, hb, hc⟩ := h hne
  exact ⟨b, off, rfl, Nat.lt_of_lt_of_le hb ht.size, fun j hj => (ht.cell (p := ⟨b, off + j, none⟩) hb (hn hne ⟨b, off, none⟩ rfl)).trans (hc j hj)⟩

/-- A text with its length, as it is written. -/
def textB (s : ByteArray) : List UInt8 := le s.size 2 ++ s.data.toList
def textsB (ss : List ByteArray) : List UInt8 := ss.flatMap textB
theorem textB_length (s : ByteArray) : (textB s).length = s.size + 2 := by
  simp only [textB, List.length_append, le_length, bytes_length]; omega
theorem textsB_snoc (ss : List ByteArray) (k : Nat) (hk : k < ss.length) : textsB (ss.take (k + 1)) = textsB (ss.take k) ++ textB ss[k] := by
  unfold textsB
  rw [List.take_succ_eq_append_getElem hk, List.flatMap_append, List.flatMap_singleton]
theorem textsB_length (ss : List ByteArray) (h : ∀ s ∈ ss, s.size ≤ 65535) : (textsB ss).length ≤ 65537 * ss.length := by
  induction ss with
  | nil => simp [textsB]
  | cons s ss ih =>
    have h1 := ih (fun t ht => h t (List.mem_cons_of_mem _ ht))
    have h2 := h s (List.mem_cons_self ..)
    have h3 : (textsB (s :: ss)).length = (textB s).length + (textsB ss).length := by simp [textsB]
    rw [h3, textB_length, List.length_cons]
    omega
theorem textsB_take_length (ss : List ByteArray) (k : Nat) (h : ∀ s ∈ ss, s.size ≤ 65535) (hk : k ≤ 65535) : (textsB (ss.take k)).length ≤ 4294967295 := by
  have := textsB_length (ss.take k) (fun s hs => h s (List.mem_of_mem_take hs))
  have h2 : (ss.take k).length ≤ k := List.length_take_le _ _
  omega
def rowB (ss : List ByteArray) : List UInt8 := le ss.length 2 ++ textsB ss

end Go.Proofs.Ytkcddihigagknaa

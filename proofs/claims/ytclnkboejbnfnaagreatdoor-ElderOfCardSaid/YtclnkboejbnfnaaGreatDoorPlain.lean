/-
  Plain facts on bytes: a number's bytes tell the number; rows of texts with the same bytes are the same.
  Conditions: lengths below 65536.
-/
import Derived.Test.YtclnkboejbnfnaaGreatDoorWriteC
namespace Go.Proofs.YtclnkboejbnfnaaGreatDoor
open Go.RowKit

theorem le_cons (x k : Nat) : le x (k + 1) = UInt8.ofNat x :: le (x / 256) k := by
  induction k with
  | zero => simp [le]
  | succ k ih =>
    rw [le, ih]
    show _ = UInt8.ofNat x :: (le (x / 256) k ++ [UInt8.ofNat (x / 256 / 256 ^ k)])
    rw [Nat.div_div_eq_div_mul, ← Nat.pow_succ']
    rfl
/-- A number's bytes, the lowest first, as a number. -/
def val : List UInt8 → Nat
  | [] => 0
  | b :: l => b.toNat + 256 * val l
theorem val_le (k : Nat) : ∀ x, val (le x k) = x % 256 ^ k := by
  induction k with
  | zero => intro x; simp [le, val, Nat.mod_one]
  | succ k ih =>
    intro x
    rw [le_cons, val, ih, Nat.pow_succ', Nat.mod_mul]
    simp
theorem le_inj {x y k : Nat} (hx : x < 256 ^ k) (hy : y < 256 ^ k) (h : le x k = le y k) : x = y := by
  have := congrArg val h
  rwa [val_le, val_le, Nat.mod_eq_of_lt hx, Nat.mod_eq_of_lt hy] at this
theorem textB_inj {s t : ByteArray} {r q : List UInt8} (hs : s.size ≤ 65535) (ht : t.size ≤ 65535) (h : textB s ++ r = textB t ++ q) : s = t ∧ r = q := by
  simp only [textB, List.append_assoc] at h
  obtain ⟨h1, h2⟩ := List.append_inj h (by rw [le_length, le_length])
  have hz : s.size = t.size := le_inj (k := 2) (by omega) (by omega) h1
  obtain ⟨h3, h4⟩ := List.append_inj h2 (by rw [bytes_length, bytes_length, hz])
  exact ⟨ByteArray.ext (Array.toList_inj.1 h3), h4⟩
theorem textsB_inj : ∀ {ss ts : List ByteArray}, (∀ s ∈ ss, s.size ≤ 65535) → (∀ s ∈ ts, s.size ≤ 65535) → ss.length = ts.length → textsB ss = textsB ts → ss = ts
  | [], [], _, _, _, _ => rfl
  | s :: ss, t :: ts, h1, h2, hl, h => by
    have h' : textB s ++ textsB ss = textB t ++ textsB ts := h
    obtain ⟨rfl, h3⟩ := textB_inj (h1 s (List.mem_cons_self ..)) (h2 t (List.mem_cons_self ..)) h'
    rw [textsB_inj (fun x hx => h1 x (List.mem_cons_of_mem _ hx)) (fun x hx => h2 x (List.mem_cons_of_mem _ hx)) (by simpa using hl) h3]
theorem rowB_inj {ss ts : List ByteArray} (h1 : ∀ s ∈ ss, s.size ≤ 65535) (h2 : ∀ s ∈ ts, s.size ≤ 65535) (l1 : ss.length ≤ 65535) (l2 : ts.length ≤ 65535) (h : rowB ss = rowB ts) : ss = ts := by
  obtain ⟨h3, h4⟩ := List.append_inj h (by rw [le_length, le_length])
  exact textsB_inj h1 h2 (le_inj (k := 2) (by omega) (by omega) h3) h4
theorem textB_inj1 {s t : ByteArray} (hs : s.size ≤ 65535) (ht : t.size ≤ 65535) (h : textB s = textB t) : s = t :=
  (textB_inj (r := []) (q := []) hs ht (by rw [h])).1
theorem rowB_length (ss : List ByteArray) (h : ∀ s ∈ ss, s.size ≤ 65535) (hl : ss.length ≤ 65535) : (rowB ss).length ≤ 4294967299 := by
  have := textsB_take_length ss ss.length h hl
  rw [List.take_length] at this
  simp only [rowB, List.length_append, le_length]
  omega
end Go.Proofs.YtclnkboejbnfnaaGreatDoor

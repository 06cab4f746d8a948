/-
  A board as a row of bytes (plain): which bits are in which, who lacks what, what is noted, a board's bytes.
  Conditions: none.
-/
import Derived.Test.YtkcddihigagknaaWords
namespace Go.Proofs.Ytkcddihigagknaa

/-- Are all bits of one in the other one? -/
def has16 (r a : Nat) : Bool := (r &&& a) == a
theorem has16_iff {r a : Nat} : has16 r a = true ↔ ∀ j, a.testBit j = true → r.testBit j = true := by
  unfold has16
  rw [beq_iff_eq]
  constructor
  · intro h j hj
    have h1 := congrArg (fun x => x.testBit j) h
    simp only [Nat.testBit_and, hj, Bool.and_true] at h1
    exact h1
  · intro h
    refine Nat.eq_of_testBit_eq fun j => ?_
    rw [Nat.testBit_and]
    cases ha : a.testBit j with
    | false => simp
    | true => simp [h j ha]
theorem has16_both (r a b : Nat) : has16 r (a ||| b) = (has16 r a && has16 r b) := by
  rw [Bool.eq_iff_iff, Bool.and_eq_true, has16_iff, has16_iff, has16_iff]
  constructor
  · intro h
    exact ⟨fun j hj => h j (by simp [hj]), fun j hj => h j (by simp [hj])⟩
  · intro ⟨h1, h2⟩ j hj
    rw [Nat.testBit_or, Bool.or_eq_true] at hj
    rcases hj with hj | hj
    · exact h1 j hj
    · exact h2 j hj
theorem has16_low {r a : Nat} (ha : a < 256) : has16 r a = true ↔ ∀ j, j < 8 → a.testBit j = true → r.testBit j = true := by
  rw [has16_iff]
  constructor
  · intro h j _ hj
    exact h j hj
  · intro h j hj
    by_cases hl : j < 8
    · exact h j hl hj
    · have h1 : (2 : Nat) ^ 8 ≤ 2 ^ j := Nat.pow_le_pow_right (by decide) (by omega)
      rw [Nat.testBit_lt_two_pow (by omega)] at hj
      cases hj
theorem bit16 (a k : Nat) : a.testBit k = decide (a / 2 ^ k % 2 = 1) := Nat.testBit_eq_decide_div_mod_eq

/-- A node's release. -/
def of16 (L : List UInt8) (node : Nat) : Nat := (L.getD node 0).toNat
/-- Who lacks bits of r, of the first k. -/
def lacks16 (L : List UInt8) (r k : Nat) : List UInt8 := ((List.range k).filter fun i => !has16 (of16 L i) r).map UInt8.ofNat
theorem lacks16_zero (L : List UInt8) (r : Nat) : lacks16 L r 0 = [] := rfl
theorem lacks16_yes {L : List UInt8} {r k : Nat} (h : has16 (of16 L k) r = true) : lacks16 L r (k + 1) = lacks16 L r k := by
  unfold lacks16
  rw [List.range_succ, List.filter_append, List.map_append]
  simp [h]
theorem lacks16_no {L : List UInt8} {r k : Nat} (h : has16 (of16 L k) r = false) : lacks16 L r (k + 1) = lacks16 L r k ++ [UInt8.ofNat k] := by
  unfold lacks16
  rw [List.range_succ, List.filter_append, List.map_append]
  simp [h]
theorem lacks16_len (L : List UInt8) (r k : Nat) : (lacks16 L r k).length ≤ k := by
  unfold lacks16
  rw [List.length_map]
  exact Nat.le_trans (List.length_filter_le _ _) (by simp)
/-- Has each of the first k all bits of r? -/
def allK16 (L : List UInt8) (r k : Nat) : Bool := (List.range k).all fun i => has16 (of16 L i) r
theorem allK16_succ (L : List UInt8) (r k : Nat) : allK16 L r (k + 1) = (allK16 L r k && has16 (of16 L k) r) := by
  unfold allK16
  rw [List.range_succ, List.all_append]
  simp
theorem allK16_both (L : List UInt8) (a b k : Nat) : allK16 L (a ||| b) k = (allK16 L a k && allK16 L b k) := by
  induction k with
  | zero => rfl
  | succ k ih =>
    rw [allK16_succ, allK16_succ, allK16_succ, ih, has16_both]
    cases allK16 L a k <;> cases allK16 L b k <;> cases has16 (of16 L k) a <;> cases has16 (of16 L k) b <;> rfl
theorem lacks16_none (L : List UInt8) (r k : Nat) : decide ((lacks16 L r k).length = 0) = allK16 L r k := by
  induction k with
  | zero => rfl
  | succ k ih =>
    rw [allK16_succ, ← ih]
    cases h : has16 (of16 L k) r with
    | true => rw [lacks16_yes h]; simp
    | false => rw [lacks16_no h]; simp
theorem lacks16_noneI (L : List UInt8) (r k : Nat) : (((lacks16 L r k).length : Int) == 0) = allK16 L r k := by
  rw [← lacks16_none]
  by_cases h : (lacks16 L r k).length = 0
  · rw [h]; rfl
  · simp [h]

/-- May there be so many nodes? -/
def may16 (n : Int) : Bool := n == 3 || (n == 5 || n == 7)
theorem may16_cases {n : Int} (h : may16 n = true) : n = 3 ∨ n = 5 ∨ n = 7 := by
  simpa [may16] using h
/-- Is a release noted? -/
def takes16 (L : List UInt8) (node r : Nat) : Bool := decide (node < L.length) && (decide (1 ≤ r) && decide (r ≤ 3))
def note16 (L : List UInt8) (node r : Nat) : List UInt8 := if takes16 L node r = true then L.set node (UInt8.ofNat r) else L
def err16 (L : List UInt8) (node r : Nat) : Nat := if takes16 L node r = true then 0 else 1
theorem note16_length (L : List UInt8) (node r : Nat) : (note16 L node r).length = L.length := by
  unfold note16
  split
  · simp
  · rfl
theorem ofNat_toNat16 {r : Nat} (h : r < 256) : (UInt8.ofNat r).toNat = r := by
  simp
  omega
theorem of16_note (L : List UInt8) {node r : Nat} (hr : r < 256) (i : Nat) : of16 (note16 L node r) i = if takes16 L node r = true ∧ i = node then r else of16 L i := by
  unfold of16 note16
  by_cases h : takes16 L node r = true
  · rw [if_pos h]
    have hn : node < L.length := by unfold takes16 at h; simp at h; exact h.1
    by_cases e : i = node
    · subst e
      rw [if_pos ⟨h, rfl⟩]
      rw [List.getD_eq_getElem?_getD, List.getElem?_set_self hn]
      exact ofNat_toNat16 hr
    · rw [if_neg (fun k => e k.2), List.getD_eq_getElem?_getD, List.getElem?_set_ne (fun k => e k.symm), ← List.getD_eq_getElem?_getD]
  · rw [if_neg h, if_neg (fun k => h k.1)]
/-- What is known of a board. -/
structure Good16 (L : List UInt8) : Prop where
  may : may16 L.length = true
  low : ∀ x ∈ L, x.toNat ≤ 3
theorem Good16.len {L : List UInt8} (h : Good16 L) : 0 < L.length ∧ L.length ≤ 7 := by
  rcases may16_cases h.may with e | e | e <;> omega
theorem Good16.new {n : Nat} (h : may16 n = true) : Good16 (List.replicate n 0) := ⟨by simpa using h, fun x hx => by rw [List.eq_of_mem_replicate hx]; decide⟩
theorem Good16.note {L : List UInt8} (h : Good16 L) (node : Nat) {r : Nat} (hr : r < 256) : Good16 (note16 L node r) := by
  refine ⟨by rw [note16_length]; exact h.may, fun x hx => ?_⟩
  unfold note16 at hx
  split at hx
  · rename_i ht
    rcases List.mem_or_eq_of_mem_set hx with hx | rfl
    · exact h.low x hx
    · rw [ofNat_toNat16 hr]
      unfold takes16 at ht
      simp at ht
      omega
  · exact h.low x hx
theorem Good16.of {L : List UInt8} (h : Good16 L) (i : Nat) : of16 L i ≤ 3 := by
  unfold of16
  rw [List.getD_eq_getElem?_getD]
  cases e : L[i]? with
  | none => exact Nat.zero_le _
  | some x => exact h.low x (List.mem_of_getElem? e)
/-- A board's bytes. -/
def boardB (L : List UInt8) : List UInt8 := UInt8.ofNat L.length :: L
end Go.Proofs.Ytkcddihigagknaa

/-
  Plain facts on sealed bytes: a number's bytes as bits; bits turned one by one; sealed bytes with some bits turned within 32 in a row have another sum.
  Conditions: none.
-/
import Derived.Test.YtnfiaibfhfpmjaaPlain
import Derived.Test.YtnfiaibfhfpmjaaCrcMath
namespace Go.Proofs.Ytnfiaibfhfpmjaa

theorem val_bits : ∀ (l : List UInt8) (j : Nat), (val l).testBit j = bt l j
  | [], j => by simp [val, bt]
  | b :: l, j => by
    have hb : b.toNat < 2 ^ 8 := b.toNat_lt
    rw [val, Nat.add_comm, show 256 = 2 ^ 8 from rfl, Nat.testBit_two_pow_mul_add _ hb]
    by_cases h : j < 8
    · rw [if_pos h]
      unfold bt
      rw [Nat.div_eq_of_lt h, Nat.mod_eq_of_lt h]
      rfl
    · rw [if_neg h, val_bits l]
      unfold bt
      obtain ⟨k, rfl⟩ : ∃ k, j = k + 8 := ⟨j - 8, by omega⟩
      rw [Nat.add_sub_cancel, Nat.add_div_right k (by omega), Nat.add_mod_right]
      rfl
theorem R_four (r : BitVec 32) (m : List UInt8) (h : m.length = 4) : R r m = stps 32 (r ^^^ BitVec.ofNat 32 (val m)) := by
  rw [R_bits, h, stps_bits 32 _ _ (shr32 _)]
  exact Rf_congr 32 _ _ _ (fun i hi => by rw [BitVec.getLsbD_ofNat, val_bits]; simp; omega)
/-- Sealed bytes. -/
def sealB (l : List UInt8) : List UInt8 := l ++ le (crc l).toNat 4
theorem sealB_length (l : List UInt8) : (sealB l).length = l.length + 4 := by simp [sealB, le_length]
theorem val_le4 (x : BitVec 32) : val (le x.toNat 4) = x.toNat := by
  rw [val_le]
  exact Nat.mod_eq_of_lt x.isLt
/-- Which bytes are sealed ones. -/
def okB (s : List UInt8) : Bool := decide (4 ≤ s.length) && decide (val (s.drop (s.length - 4)) = (crc (s.take (s.length - 4))).toNat)
theorem R_ok (s : List UInt8) (h : okB s = true) : R (~~~ 0#32) s = stps 32 (~~~ 0#32) := by
  simp only [okB, Bool.and_eq_true, decide_eq_true_eq] at h
  obtain ⟨h1, h2⟩ := h
  have e : R (~~~ 0#32) s = R (R (~~~ 0#32) (s.take (s.length - 4))) (s.drop (s.length - 4)) := by rw [← R_append, List.take_append_drop]
  rw [e, R_four _ _ (by rw [List.length_drop]; omega), h2, BitVec.ofNat_toNat, BitVec.setWidth_eq]
  congr 1
  unfold crc more
  generalize R (~~~ 0#32) (s.take (s.length - 4)) = x
  apply BitVec.eq_of_getLsbD_eq
  intro i hi
  rw [BitVec.getLsbD_xor, BitVec.getLsbD_not, BitVec.getLsbD_not, BitVec.getLsbD_zero, decide_eq_true hi]
  cases x.getLsbD i <;> rfl
theorem okB_seal (l : List UInt8) : okB (sealB l) = true := by
  have h4 : (le (crc l).toNat 4).length = 4 := le_length _ _
  have e : (sealB l).length - 4 = l.length := by rw [sealB_length]; omega
  simp only [okB, Bool.and_eq_true, decide_eq_true_eq]
  refine ⟨by rw [sealB_length]; omega, ?_⟩
  rw [e, sealB, List.drop_left, List.take_left, val_le4]
/-- The bits that are turned. -/
def pat (at_ : Nat) (turn : BitVec 32) (j : Nat) : Bool := decide (at_ ≤ j) && decide (j < at_ + 32) && turn.getLsbD (j - at_)
theorem turned (s s' : List UInt8) (at_ : Nat) (turn : BitVec 32) (hl : s'.length = s.length) (hat : at_ + 32 ≤ 8 * s.length) (hb : ∀ j, j < 8 * s.length → bt s' j = (bt s j ^^ pat at_ turn j))
    (h1 : okB s = true) (h2 : okB s' = true) : turn = 0#32 := by
  have e1 := R_ok s h1
  have e2 := R_ok s' h2
  rw [R_bits] at e1 e2
  rw [hl, Rf_congr _ _ _ (fun j => bt s j ^^ pat at_ turn j) hb] at e2
  have e3 := Rf_xor (8 * s.length) (~~~ 0#32) 0#32 (bt s) (pat at_ turn)
  rw [BitVec.xor_zero, e2, e1] at e3
  have e4 : Rf 0#32 (pat at_ turn) (8 * s.length) = 0#32 := by
    have := congrArg (fun x => stps 32 (~~~ 0#32) ^^^ x) e3
    simp only [← BitVec.xor_assoc, BitVec.xor_self, BitVec.zero_xor] at this
    exact this.symm
  obtain ⟨rest, hr⟩ : ∃ rest, 8 * s.length = at_ + 32 + rest := ⟨8 * s.length - (at_ + 32), by omega⟩
  rw [hr] at e4
  exact burst at_ rest turn _ (fun j => rfl) e4

/-- One bit turned. -/
def flip1 (s : List UInt8) (j : Nat) : List UInt8 := s.set (j / 8) (s.getD (j / 8) 0 ^^^ UInt8.ofNat (2 ^ (j % 8)))
theorem flip1_length (s : List UInt8) (j : Nat) : (flip1 s j).length = s.length := by simp [flip1]
theorem bt_flip1 (s : List UInt8) (j i : Nat) (hj : j < 8 * s.length) : bt (flip1 s j) i = (bt s i ^^ decide (i = j)) := by
  unfold bt flip1
  rw [List.getD_eq_getElem?_getD, List.getElem?_set]
  by_cases h : j / 8 = i / 8
  · rw [if_pos h, if_pos (by omega), h]
    simp only [Option.getD_some]
    have h2 : (UInt8.ofNat (2 ^ (j % 8))).toNat = 2 ^ (j % 8) := by
      have : 2 ^ (j % 8) < 256 := Nat.pow_lt_pow_right (n := 8) (by omega) (by omega)
      simp only [UInt8.toNat_ofNat']
      exact Nat.mod_eq_of_lt this
    rw [UInt8.toNat_xor, Nat.testBit_xor, h2, Nat.testBit_two_pow]
    congr 1
    rw [decide_eq_decide]
    omega
  · rw [if_neg h, List.getD_eq_getElem?_getD, decide_eq_false (by intro e; subst e; exact h rfl), Bool.xor_false]
/-- The first k of the bits turned. -/
def flips (s : List UInt8) (at_ : Nat) (turn : BitVec 32) : Nat → List UInt8
  | 0 => s
  | k + 1 => if turn.getLsbD k then flip1 (flips s at_ turn k) (at_ + k) else flips s at_ turn k
theorem flips_length (s : List UInt8) (at_ : Nat) (turn : BitVec 32) (k : Nat) : (flips s at_ turn k).length = s.length := by
  induction k with
  | zero => rfl
  | succ k ih => rw [flips]; split <;> simp [flip1_length, ih]
theorem bt_flips (s : List UInt8) (at_ : Nat) (turn : BitVec 32) (k : Nat) (hk : at_ + k ≤ 8 * s.length) (i : Nat) :
    bt (flips s at_ turn k) i = (bt s i ^^ (decide (at_ ≤ i) && decide (i < at_ + k) && turn.getLsbD (i - at_))) := by
  induction k with
  | zero =>
    have : (decide (at_ ≤ i) && decide (i < at_ + 0)) = false := by simp
    rw [this]; simp [flips]
  | succ k ih =>
    have ih := ih (by omega)
    rw [flips]
    split
    · rename_i ht
      rw [bt_flip1 _ _ _ (by rw [flips_length]; omega), ih]
      by_cases e : i = at_ + k
      · subst e; simp [ht]
      · have : decide (i < at_ + (k + 1)) = decide (i < at_ + k) := by rw [decide_eq_decide]; omega
        rw [this]; simp [e]
    · rename_i ht
      rw [ih]
      by_cases e : i = at_ + k
      · subst e; simp [ht]
      · have : decide (i < at_ + (k + 1)) = decide (i < at_ + k) := by rw [decide_eq_decide]; omega
        rw [this]
theorem flips_told (l : List UInt8) (at_ : Nat) (turn : BitVec 32) (hat : at_ + 32 ≤ 8 * (sealB l).length) (ht : turn ≠ 0#32) : okB (flips (sealB l) at_ turn 32) = false := by
  cases h : okB (flips (sealB l) at_ turn 32) with
  | false => rfl
  | true => exact absurd (turned (sealB l) _ at_ turn (flips_length _ _ _ _) hat (fun j _ => bt_flips _ _ _ _ hat j) (okB_seal l) h) ht
end Go.Proofs.Ytnfiaibfhfpmjaa

/-
  Plain facts on registers of 32 bits that are moved bit by bit: they add up by exclusive or, and no turned bits within 32 in a row go unseen.
  Conditions: none.
-/
import Init
namespace Go.Proofs.Ytnfiaibfhfpmjaa

def poly : BitVec 32 := 0xedb88320#32
/-- A register moved by one bit. -/
def stp (r : BitVec 32) : BitVec 32 := (r >>> 1) ^^^ (if r.getLsbD 0 then poly else 0#32)
def stps : Nat → BitVec 32 → BitVec 32
  | 0, r => r
  | k + 1, r => stp (stps k r)

theorem stp_xor (a b : BitVec 32) : stp (a ^^^ b) = stp a ^^^ stp b := by
  unfold stp
  rw [BitVec.ushiftRight_xor_distrib, BitVec.getLsbD_xor]
  apply BitVec.eq_of_getLsbD_eq
  intro i _
  simp only [BitVec.getLsbD_xor]
  cases a.getLsbD 0 <;> cases b.getLsbD 0 <;> simp only [Bool.xor_false, Bool.xor_true, Bool.not_true, Bool.not_false, Bool.false_eq_true, if_true, if_false, BitVec.getLsbD_zero] <;>
    cases (a >>> 1).getLsbD i <;> cases (b >>> 1).getLsbD i <;> cases poly.getLsbD i <;> rfl
theorem stp_zero : stp 0#32 = 0#32 := by decide
theorem stps_xor (k : Nat) (a b : BitVec 32) : stps k (a ^^^ b) = stps k a ^^^ stps k b := by
  induction k with
  | zero => rfl
  | succ k ih => rw [stps, ih, stp_xor]; rfl
theorem stps_zero (k : Nat) : stps k 0#32 = 0#32 := by
  induction k with
  | zero => rfl
  | succ k ih => rw [stps, ih, stp_zero]
theorem stps_succ (k : Nat) (r : BitVec 32) : stps (k + 1) r = stps k (stp r) := by
  induction k with
  | zero => rfl
  | succ k ih => rw [stps, ih]; rfl
theorem stps_add (j k : Nat) (r : BitVec 32) : stps (j + k) r = stps k (stps j r) := by
  induction k with
  | zero => rfl
  | succ k ih => rw [← Nat.add_assoc, stps, ih]; rfl
theorem stp_eq_zero (a : BitVec 32) (h : stp a = 0#32) : a = 0#32 := by
  have h31 := congrArg (fun x : BitVec 32 => x.getLsbD 31) h
  have h0 : a.getLsbD 0 = false := by
    cases hb : a.getLsbD 0 with
    | false => rfl
    | true =>
      simp only [stp, hb, if_true, BitVec.getLsbD_xor, BitVec.getLsbD_ushiftRight, BitVec.getLsbD_zero] at h31
      rw [BitVec.getLsbD_of_ge a (1 + 31) (by omega)] at h31
      exact absurd h31 (by decide)
  apply BitVec.eq_of_getLsbD_eq
  intro i hi
  rw [BitVec.getLsbD_zero]
  cases i with
  | zero => exact h0
  | succ i =>
    have := congrArg (fun x : BitVec 32 => x.getLsbD i) h
    simp only [stp, h0, Bool.false_eq_true, if_false, BitVec.xor_zero, BitVec.getLsbD_ushiftRight, BitVec.getLsbD_zero] at this
    rwa [Nat.add_comm] at this
theorem stps_eq_zero (k : Nat) (a : BitVec 32) (h : stps k a = 0#32) : a = 0#32 := by
  induction k with
  | zero => exact h
  | succ k ih => exact ih (stp_eq_zero _ h)

/-- One bit, in the lowest place. -/
def bit (b : Bool) : BitVec 32 := if b then 1#32 else 0#32
/-- Bits, put in one by one. -/
def Rf : BitVec 32 → (Nat → Bool) → Nat → BitVec 32
  | r, _, 0 => r
  | r, f, n + 1 => Rf (stp (r ^^^ bit (f 0))) (fun i => f (i + 1)) n
theorem Rf_congr : ∀ (n : Nat) (r : BitVec 32) (f g : Nat → Bool), (∀ i, i < n → f i = g i) → Rf r f n = Rf r g n
  | 0, _, _, _, _ => rfl
  | n + 1, r, f, g, h => by
    rw [Rf, Rf, h 0 (by omega)]
    exact Rf_congr n _ _ _ (fun i hi => h (i + 1) (by omega))
theorem Rf_add : ∀ (m n : Nat) (r : BitVec 32) (f : Nat → Bool), Rf r f (m + n) = Rf (Rf r f m) (fun i => f (m + i)) n
  | 0, n, r, f => by
    rw [Nat.zero_add]
    exact Rf_congr n _ _ _ (fun i _ => by rw [Nat.zero_add])
  | m + 1, n, r, f => by
    rw [show m + 1 + n = (m + n) + 1 by omega, Rf, Rf_add m n, Rf]
    exact Rf_congr n _ _ _ (fun i _ => by show f (m + i + 1) = f (m + 1 + i); congr 1; omega)
theorem bit_xor (a b : Bool) : bit (a ^^ b) = bit a ^^^ bit b := by cases a <;> cases b <;> decide
theorem Rf_xor : ∀ (n : Nat) (a b : BitVec 32) (f g : Nat → Bool), Rf (a ^^^ b) (fun i => f i ^^ g i) n = Rf a f n ^^^ Rf b g n
  | 0, _, _, _, _ => rfl
  | n + 1, a, b, f, g => by
    rw [Rf, Rf, Rf, ← Rf_xor n, bit_xor, ← stp_xor]
    have : a ^^^ b ^^^ (bit (f 0) ^^^ bit (g 0)) = a ^^^ bit (f 0) ^^^ (b ^^^ bit (g 0)) := by
      simp only [BitVec.xor_assoc]
      congr 1
      rw [← BitVec.xor_assoc, ← BitVec.xor_assoc, BitVec.xor_comm b]
    rw [this]
theorem Rf_none : ∀ (n : Nat) (r : BitVec 32), Rf r (fun _ => false) n = stps n r
  | 0, _ => rfl
  | n + 1, r => by
    rw [Rf, Rf_none n, stps_succ]
    simp [bit]
theorem low_split (x : BitVec 32) : x = bit (x.getLsbD 0) ^^^ ((x >>> 1) <<< 1) := by
  apply BitVec.eq_of_getLsbD_eq
  intro i hi
  rw [BitVec.getLsbD_xor, BitVec.getLsbD_shiftLeft, BitVec.getLsbD_ushiftRight]
  cases i with
  | zero => cases hb : x.getLsbD 0 <;> simp [bit]
  | succ i =>
    have : (bit (x.getLsbD 0)).getLsbD (i + 1) = false := by
      cases x.getLsbD 0 <;> simp [bit, BitVec.getLsbD_one]
    rw [this, show 1 + (i + 1 - 1) = i + 1 by omega]
    simp [hi]
theorem stp_up (x : BitVec 32) : stp ((x >>> 1) <<< 1) = x >>> 1 := by
  unfold stp
  have h0 : ((x >>> 1) <<< 1).getLsbD 0 = false := by simp
  rw [h0]
  simp only [Bool.false_eq_true, if_false, BitVec.xor_zero]
  apply BitVec.eq_of_getLsbD_eq
  intro i hi
  simp only [BitVec.getLsbD_ushiftRight, BitVec.getLsbD_shiftLeft]
  by_cases h : i < 31
  · have h1 : 1 + i < 32 := by omega
    have h2 : 1 + i - 1 = i := by omega
    have h3 : ¬ (1 + i < 1) := by omega
    simp [h1]
  · have : i = 31 := by omega
    subst this
    simp
theorem stps_bits : ∀ (n : Nat) (r x : BitVec 32), x >>> n = 0#32 → stps n (r ^^^ x) = Rf r (fun i => x.getLsbD i) n
  | 0, r, x, h => by
    have : x = 0#32 := by simpa using h
    subst this
    simp [stps, Rf]
  | n + 1, r, x, h => by
    rw [stps_succ, Rf]
    have e : stp (r ^^^ x) = stp (r ^^^ bit (x.getLsbD 0)) ^^^ (x >>> 1) := by
      conv => lhs; rw [low_split x]
      rw [← BitVec.xor_assoc, stp_xor, stp_up]
    rw [e, stps_bits n _ (x >>> 1) (by rw [← BitVec.shiftRight_add, Nat.add_comm]; exact h)]
    exact Rf_congr n _ _ _ (fun i _ => by rw [BitVec.getLsbD_ushiftRight, Nat.add_comm])

/-- The register behind bytes. -/
def R (r : BitVec 32) (l : List UInt8) : BitVec 32 := l.foldl (fun r c => stps 8 (r ^^^ BitVec.ofNat 32 c.toNat)) r
theorem R_append (r : BitVec 32) (l m : List UInt8) : R r (l ++ m) = R (R r l) m := by simp [R]
theorem R_snoc (r : BitVec 32) (l : List UInt8) (c : UInt8) : R r (l ++ [c]) = stps 8 (R r l ^^^ BitVec.ofNat 32 c.toNat) := by simp [R]
/-- The sum of bytes whose sum is told, and these. -/
def more (s : BitVec 32) (l : List UInt8) : BitVec 32 := ~~~ (R (~~~ s) l)
theorem more_more (s : BitVec 32) (l m : List UInt8) : more (more s l) m = more s (l ++ m) := by
  unfold more; rw [BitVec.not_not, R_append]
theorem more_nil (s : BitVec 32) : more s [] = s := by unfold more R; simp
def crc (l : List UInt8) : BitVec 32 := more 0#32 l

/-- By a table of what each byte does. -/
theorem by_table (r : BitVec 32) (c : Nat) :
    stps 8 (r ^^^ BitVec.ofNat 32 c) = (r >>> 8) ^^^ stps 8 (BitVec.ofNat 32 ((r.toNat % 256) ^^^ c)) := by
  have hx : r ^^^ BitVec.ofNat 32 c = ((r >>> 8) <<< 8) ^^^ BitVec.ofNat 32 ((r.toNat % 256) ^^^ c) := by
    apply BitVec.eq_of_getLsbD_eq
    intro i hi
    have e2 : BitVec.getLsbD (BitVec.ofNat 32 ((r.toNat % 256) ^^^ c)) i = ((r.toNat % 256).testBit i ^^ c.testBit i) := by
      rw [BitVec.getLsbD_ofNat, Nat.testBit_xor]; simp [hi]
    have e3 : (r.toNat % 256).testBit i = (decide (i < 8) && r.toNat.testBit i) := Nat.testBit_mod_two_pow r.toNat 8 i
    rw [BitVec.getLsbD_xor, BitVec.getLsbD_xor, e2, e3, BitVec.getLsbD_shiftLeft, BitVec.getLsbD_ushiftRight, BitVec.getLsbD_ofNat]
    have e4 : r.toNat.testBit i = r.getLsbD i := rfl
    by_cases h : i < 8
    · simp [h, hi, e4]
    · have h2 : 8 + (i - 8) = i := by omega
      simp [h, hi, e4, h2]
  rw [hx, stps_xor]
  congr 1
  have gen : ∀ k, k ≤ 8 → stps k ((r >>> 8) <<< 8) = (r >>> 8) <<< (8 - k) := by
    intro k
    induction k with
    | zero => intro _; rfl
    | succ k ih =>
      intro hk
      rw [stps, ih (by omega)]
      have hs : (r >>> 8) <<< (8 - k) = (((r >>> 8) <<< (8 - k)) >>> 1) <<< 1 := by
        apply BitVec.eq_of_getLsbD_eq
        intro i hi
        simp only [BitVec.getLsbD_shiftLeft, BitVec.getLsbD_ushiftRight]
        by_cases h1 : i < 1
        · have h2 : i < 8 - k := by omega
          simp [h1, h2]
        · have h2 : 1 + (i - 1) = i := by omega
          simp [h1, h2, hi]
      rw [hs, stp_up]
      apply BitVec.eq_of_getLsbD_eq
      intro i hi
      simp only [BitVec.getLsbD_shiftLeft, BitVec.getLsbD_ushiftRight]
      by_cases h31 : i = 31
      · subst h31
        rw [BitVec.getLsbD_of_ge r (8 + (31 - (8 - (k + 1)))) (by omega)]
        simp
      · have h1 : 1 + i < 32 := by omega
        by_cases h2 : i < 8 - (k + 1)
        · have h3 : 1 + i < 8 - k := by omega
          rw [decide_eq_true h2, decide_eq_true h3]
          simp
        · have h3 : ¬ 1 + i < 8 - k := by omega
          have h4 : 8 + (1 + i - (8 - k)) = 8 + (i - (8 - (k + 1))) := by omega
          rw [decide_eq_false h2, decide_eq_false h3, h4, decide_eq_true h1, decide_eq_true hi]
  have := gen 8 (Nat.le_refl _)
  simpa using this

/-- Bit j of bytes, each byte's lowest first. -/
def bt (l : List UInt8) (j : Nat) : Bool := (l.getD (j / 8) 0).toNat.testBit (j % 8)
theorem byte_bits (r : BitVec 32) (c : UInt8) : stps 8 (r ^^^ BitVec.ofNat 32 c.toNat) = Rf r (fun i => c.toNat.testBit i) 8 := by
  have hc : c.toNat < 256 := c.toNat_lt
  rw [stps_bits]
  · exact Rf_congr 8 _ _ _ (fun i hi => by rw [BitVec.getLsbD_ofNat]; simp; omega)
  · apply BitVec.eq_of_toNat_eq
    rw [BitVec.toNat_ushiftRight, BitVec.toNat_ofNat, Nat.shiftRight_eq_div_pow]
    simp
    omega
theorem R_bits (r : BitVec 32) (l : List UInt8) : R r l = Rf r (bt l) (8 * l.length) := by
  induction h : l.length generalizing l with
  | zero =>
    have := List.eq_nil_of_length_eq_zero h
    subst this
    rfl
  | succ n ih =>
    obtain ⟨m, c, rfl⟩ : ∃ m c, l = m ++ [c] := by
      rcases List.eq_nil_or_concat l with e | ⟨m, c, e⟩
      · subst e; simp at h
      · exact ⟨m, c, by simpa using e⟩
    have hm : m.length = n := by simpa using h
    rw [R_snoc, byte_bits, ih m hm, Nat.mul_succ, Rf_add]
    have e1 : Rf r (bt (m ++ [c])) (8 * n) = Rf r (bt m) (8 * n) := Rf_congr _ _ _ _ (fun i hi => by
      unfold bt
      rw [List.getD_eq_getElem?_getD, List.getD_eq_getElem?_getD, List.getElem?_append_left (by omega)])
    rw [e1]
    refine Rf_congr 8 _ _ _ (fun i hi => ?_)
    show c.toNat.testBit i = bt (m ++ [c]) (8 * n + i)
    unfold bt
    rw [show (8 * n + i) / 8 = m.length by omega, show (8 * n + i) % 8 = i by omega]
    simp
theorem shr32 (x : BitVec 32) : x >>> 32 = 0#32 := by
  apply BitVec.eq_of_getLsbD_eq
  intro i _
  rw [BitVec.getLsbD_ushiftRight, BitVec.getLsbD_zero, BitVec.getLsbD_of_ge x (32 + i) (by omega)]
/-- A burst within 32 bits is seen. -/
theorem burst (at_ rest : Nat) (turn : BitVec 32) (f : Nat → Bool) (hf : ∀ j, f j = (decide (at_ ≤ j) && decide (j < at_ + 32) && turn.getLsbD (j - at_))) (h : Rf 0#32 f (at_ + 32 + rest) = 0#32) : turn = 0#32 := by
  rw [Rf_add, Rf_add] at h
  have e1 : Rf 0#32 f at_ = 0#32 := by
    rw [Rf_congr at_ _ _ (fun _ => false) (fun i hi => by rw [hf]; simp; omega), Rf_none, stps_zero]
  have e2 : Rf 0#32 (fun i => f (at_ + i)) 32 = stps 32 turn := by
    rw [Rf_congr 32 _ _ (fun i => turn.getLsbD i) (fun i hi => by show f (at_ + i) = turn.getLsbD i; rw [hf]; simp [hi]), ← stps_bits 32 0#32 turn (shr32 turn), BitVec.zero_xor]
  rw [e1, e2, Rf_congr rest _ _ (fun _ => false) (fun i hi => by rw [hf]; simp; omega), Rf_none] at h
  exact stps_eq_zero _ _ (stps_eq_zero _ _ h)
end Go.Proofs.Ytnfiaibfhfpmjaa

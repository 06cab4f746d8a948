/-
  Plain facts on lists of bytes: parts between one byte, a domain's labels gone through byte by byte, an order of texts.
  Conditions: none.
-/
import Derived.Lib.IndexBytes
import Derived.Lib.SplitLaws
import Derived.Lib.CountLaws
import Derived.Lib.Bytealg
namespace Go.Proofs.YtclnkboejbnfnaaGreatDoor

/-- The parts of a list between the bytes c. -/
def parts5 (c : UInt8) : List UInt8 → List (List UInt8)
  | [] => [[]]
  | x :: l => if x = c then [] :: parts5 c l else (x :: (parts5 c l).headD []) :: (parts5 c l).tail

theorem parts_ne (c : UInt8) (l : List UInt8) : ∃ p ps, parts5 c l = p :: ps := by
  cases l with
  | nil => exact ⟨_, _, rfl⟩
  | cons x l =>
    unfold parts5
    split
    · exact ⟨_, _, rfl⟩
    · exact ⟨_, _, rfl⟩

theorem parts_step (c : UInt8) : ∀ l : List UInt8, (Lib.indexByte l c = -1 → parts5 c l = [l]) ∧
    (∀ i : Nat, Lib.indexByte l c = i → parts5 c l = l.take i :: parts5 c (l.drop (i + 1)))
  | [] => ⟨fun _ => rfl, fun i h => by simp [Lib.indexByte] at h⟩
  | x :: l => by
    obtain ⟨h1, h2⟩ := parts_step c l
    have hg := Lib.indexByte_ge l c
    unfold Lib.indexByte
    by_cases e : x = c
    · subst e
      refine ⟨fun h => by simp at h, fun i h => ?_⟩
      simp at h
      obtain rfl : i = 0 := by omega
      simp [parts5]
    · have e' : (x == c) = false := by simpa using e
      rw [e']
      by_cases hm : Lib.indexByte l c = -1
      · refine ⟨fun _ => ?_, fun i h => by simp [hm] at h⟩
        simp [parts5, e, h1 hm]
      · have hm' : (Lib.indexByte l c == -1) = false := by simpa using hm
        rw [hm']
        refine ⟨fun h => by simp at h; omega, fun i h => ?_⟩
        simp at h
        obtain ⟨j, hj⟩ := Int.eq_ofNat_of_zero_le (show 0 ≤ Lib.indexByte l c by omega)
        obtain rfl : i = j + 1 := by omega
        simp [parts5, e, h2 j hj]

theorem split_parts (c : UInt8) : ∀ (n : Nat) (l : List UInt8), l.length ≤ n → Lib.splitK [c] 0 (Lib.count l [c]) l = parts5 c l
  | n, l, hn => by
    obtain ⟨h1, h2⟩ := parts_step c l
    have hi := Lib.index_one l c
    by_cases hm : Lib.indexByte l c = -1
    · rw [Lib.count_miss (hi.trans hm), h1 hm]; rfl
    · have hg := Lib.indexByte_ge l c
      obtain ⟨i, hj⟩ := Int.eq_ofNat_of_zero_le (show 0 ≤ Lib.indexByte l c by omega)
      have hr := Lib.index_room l [c] (by rw [hi, hj]; omega)
      rw [hi, hj] at hr
      simp at hr
      cases n with
      | zero => omega
      | succ n =>
        have hc : Lib.count l [c] = 1 + Lib.count (l.drop (i + 1)) [c] := by
          have := Lib.count_hit (s := l) (sub := [c]) (i := i) (by simp) (hi.trans hj)
          simpa using this
        rw [hc, Nat.add_comm, h2 i hj, ← split_parts c n (l.drop (i + 1)) (by simp; omega)]
        have hne : (Lib.index l [c] == -1) = false := by rw [hi, hj]; simp
        rw [Lib.splitK, hne]
        simp [hi, hj]

/-- A label: bytes that p asks for, one at least. -/
def labP5 (p : UInt8 → Bool) (l : List UInt8) : Bool := decide (1 ≤ l.length) && l.all p
/-- Labels with one stop between each two, two at least. -/
def dom5 (p : UInt8 → Bool) (l : List UInt8) : Bool := (parts5 46 l).all (labP5 p) && decide (2 ≤ (parts5 46 l).length)
/-- The same, byte by byte: how many stops there were, how long the last label is. -/
def scan5 (p : UInt8 → Bool) : List UInt8 → Nat → Nat → Bool
  | [], st, lg => decide (1 ≤ st) && decide (1 ≤ lg)
  | x :: l, st, lg => if x = 46 then (if lg = 0 then false else scan5 p l (st + 1) 0) else if p x then scan5 p l st (lg + 1) else false

theorem scan5_parts (p : UInt8 → Bool) : ∀ (l : List UInt8) (st lg : Nat) (q : List UInt8) (qs : List (List UInt8)), parts5 46 l = q :: qs →
    scan5 p l st lg = (q.all p && decide (1 ≤ lg + q.length) && qs.all (labP5 p) && decide (1 ≤ st + qs.length))
  | [], st, lg, q, qs, h => by
    simp [parts5] at h
    obtain ⟨rfl, rfl⟩ := h
    simp [scan5, Bool.and_comm]
  | x :: l, st, lg, q, qs, h => by
    obtain ⟨q', qs', h'⟩ := parts_ne 46 l
    rw [parts5, h'] at h
    unfold scan5
    by_cases e : x = 46
    · rw [if_pos e] at h ⊢
      simp at h
      obtain ⟨rfl, rfl⟩ := h
      by_cases hl : lg = 0
      · subst hl; simp
      · rw [if_neg hl, scan5_parts p l (st + 1) 0 q' qs' h']
        have z1 : decide (1 ≤ lg + ([] : List UInt8).length) = true := by simp; omega
        have z2 : decide (1 ≤ st + 1 + qs'.length) = true := by simp; omega
        have z3 : decide (1 ≤ st + (q' :: qs').length) = true := by simp; omega
        rw [z1, z2, z3]
        simp [labP5, Bool.and_comm]
    · rw [if_neg e] at h ⊢
      simp at h
      obtain ⟨rfl, rfl⟩ := h
      cases hp : p x with
      | false => simp [hp]
      | true =>
        rw [if_pos rfl, scan5_parts p l st (lg + 1) q' qs' h']
        have z1 : decide (1 ≤ lg + (x :: q').length) = true := by simp; omega
        have z2 : decide (1 ≤ lg + 1 + q'.length) = true := by simp; omega
        rw [z1, z2]
        simp [hp]

theorem scan5_dom (p : UInt8 → Bool) (l : List UInt8) : scan5 p l 0 0 = dom5 p l := by
  obtain ⟨q, qs, h⟩ := parts_ne 46 l
  rw [scan5_parts p l 0 0 q qs h, dom5, h]
  have : decide (1 ≤ 0 + qs.length) = decide (2 ≤ (q :: qs).length) := by simp
  rw [this]
  simp [labP5, Bool.and_comm, Bool.and_assoc, Bool.and_left_comm]

theorem cmp_anti : ∀ a b : List UInt8, Lib.compareBytes b a = - Lib.compareBytes a b
  | [], [] => rfl
  | [], _ :: _ => rfl
  | _ :: _, [] => rfl
  | x :: a, y :: b => by
    unfold Lib.compareBytes
    by_cases h1 : x < y
    · have h2 : ¬ y < x := by rw [UInt8.lt_iff_toNat_lt] at *; omega
      simp [h1, h2]
    · by_cases h2 : y < x
      · simp [h1, h2]
      · simp only [if_neg h1, if_neg h2]
        exact cmp_anti a b
theorem cmp_cases : ∀ a b : List UInt8, Lib.compareBytes a b = -1 ∨ Lib.compareBytes a b = 0 ∨ Lib.compareBytes a b = 1
  | [], [] => by simp [Lib.compareBytes]
  | [], _ :: _ => by simp [Lib.compareBytes]
  | _ :: _, [] => by simp [Lib.compareBytes]
  | x :: a, y :: b => by
    unfold Lib.compareBytes
    split
    · simp
    · split
      · simp
      · exact cmp_cases a b
theorem cmp_trans : ∀ a b c : List UInt8, Lib.compareBytes a b ≤ 0 → Lib.compareBytes b c ≤ 0 → Lib.compareBytes a c ≤ 0
  | [], _, [], _, _ => by simp [Lib.compareBytes]
  | [], _, _ :: _, _, _ => by simp [Lib.compareBytes]
  | _ :: _, [], _, h, _ => by simp [Lib.compareBytes] at h
  | _ :: _, _ :: _, [], _, h => by simp [Lib.compareBytes] at h
  | x :: a, y :: b, z :: c, h1, h2 => by
    unfold Lib.compareBytes at *
    simp only [UInt8.lt_iff_toNat_lt] at *
    by_cases e1 : x.toNat < y.toNat
    · by_cases e2 : y.toNat < z.toNat
      · rw [if_pos (by omega)]; omega
      · rw [if_neg e2] at h2
        by_cases e3 : z.toNat < y.toNat
        · rw [if_pos e3] at h2; omega
        · rw [if_pos (by omega)]; omega
    · rw [if_neg e1] at h1
      by_cases e2 : y.toNat < x.toNat
      · rw [if_pos e2] at h1; omega
      · rw [if_neg e2] at h1
        by_cases e3 : y.toNat < z.toNat
        · rw [if_pos (by omega)]; omega
        · rw [if_neg e3] at h2
          by_cases e4 : z.toNat < y.toNat
          · rw [if_pos e4] at h2; omega
          · rw [if_neg e4] at h2
            rw [if_neg (by omega), if_neg (by omega)]
            exact cmp_trans a b c h1 h2
end Go.Proofs.YtclnkboejbnfnaaGreatDoor

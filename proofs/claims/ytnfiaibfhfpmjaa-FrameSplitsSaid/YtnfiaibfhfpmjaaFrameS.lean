/-
  What a frame's head tells: how many bytes there are to be, or what is wrong first.
  Conditions: none.
-/
import Derived.Test.YtnfiaibfhfpmjaaFrame
namespace Go.Proofs.Ytnfiaibfhfpmjaa
open Go.RowKit

/-- The error's number of a head. -/
def saidE (l : List UInt8) : Int := if l.length < 10 then 2 else if l.getD 0 0 = 1 then 0 else 6
/-- How many bytes there are to be. -/
def saidN (l : List UInt8) : Nat := if saidE l = 0 then 10 + val ((l.drop 2).take 4) else 0
theorem val4 (l : List UInt8) (h : l.length ≤ 4) : val l < 4294967296 := by
  refine Nat.lt_of_lt_of_le (val_lt l) ?_
  have : 256 ^ l.length ≤ 256 ^ 4 := Nat.pow_le_pow_right (by omega) h
  simpa using this
theorem saidN_lt (l : List UInt8) : saidN l < 4294967306 := by
  unfold saidN
  split
  · have := val4 ((l.drop 2).take 4) (by rw [List.length_take]; omega)
    omega
  · omega
theorem ten {l : List UInt8} (h : 10 ≤ l.length) : ∃ b0 b1 b2 b3 b4 b5 t, l = b0 :: b1 :: b2 :: b3 :: b4 :: b5 :: t ∧ 4 ≤ t.length := by
  match l, h with
  | b0 :: b1 :: b2 :: b3 :: b4 :: b5 :: t, h => exact ⟨b0, b1, b2, b3, b4, b5, t, rfl, by simpa using h⟩
theorem numS_one (b : UInt8) (t : List UInt8) : numS ⟨b :: t, 0⟩ 1 = (⟨t, 0⟩, b.toNat) := by
  unfold numS takeS
  rw [if_neg (by simp)]
  simp [val]
theorem numS_four (b2 b3 b4 b5 : UInt8) (t : List UInt8) : numS ⟨b2 :: b3 :: b4 :: b5 :: t, 0⟩ 4 = (⟨t, 0⟩, val [b2, b3, b4, b5]) := by
  unfold numS takeS
  rw [if_neg (by simp)]
  simp

/-- A size and an error are told. -/
def Sized (n : Nat) (x : Int) (w : World) (e : Ending) (w' : World) : Prop := e = .returned (.tuple #[.int .u64 n, .int .i64 x]) ∧ Turns (fun _ => False) w w'
theorem fsaid_short (n : Nat) (A : Option Addr) (c : Nat) (w : World) (h : n < 10) : Calls Try.prog 29 #[.slice A n c] w (Sized 0 2 w) := by
  go_enter Try.func29, Try.ntmps29
  go_wp2
  go_ret2
  exact ⟨rfl, Turns.refl _ _⟩
theorem fsaid_long (u : Value) (l : List UInt8) (w : World) (hu : RdC w u l) (h : 10 ≤ l.length) (hm : l.length ≤ 9223372036854775807) : Calls Try.prog 29 #[u] w (Sized (saidN l) (saidE l) w) := by
  obtain ⟨g, off, c, rfl, hc1, hc2, hg, hcell⟩ := hu.form (by intro e; subst e; simp at h)
  have hr6 : Rd w (.slice (some ⟨g, off, none⟩) 6 c) (l.take 6) := by
    have := rd_sub (k := 0) (n := 6) (c := c) hg hcell (by omega)
    simpa using this
  have hE : saidE l = if l.getD 0 0 = 1 then 0 else 6 := by unfold saidE; rw [if_neg (by omega)]
  have hN : saidN l = if saidE l = 0 then 10 + val ((l.drop 2).take 4) else 0 := rfl
  generalize saidN l = N at *
  generalize saidE l = E at *
  obtain ⟨b0, b1, b2, b3, b4, b5, t, hl, ht⟩ := ten h
  have hz : l.getD 0 0 = b0 := by rw [hl]; rfl
  have h4 : (l.drop 2).take 4 = [b2, b3, b4, b5] := by rw [hl]; rfl
  have h6 : l.take 6 = [b0, b1, b2, b3, b4, b5] := by rw [hl]; rfl
  rw [hz] at hE
  rw [h4] at hN
  rw [h6] at hr6
  have hv := val4 [b2, b3, b4, b5] (by simp)
  have HR := Lib.hid hr6
  have n1 := numS_one b0 [b1, b2, b3, b4, b5]
  have n2 := numS_one b1 [b2, b3, b4, b5]
  have n3 := numS_four b2 b3 b4 b5 []
  have N1 := Lib.hid n1
  have N2 := Lib.hid n2
  have N3 := Lib.hid n3
  generalize val [b2, b3, b4, b5] = x at *
  have r1 : (St.mk [b0, b1, b2, b3, b4, b5] 0).bs.length ≤ 1099511627776 := by simp
  have r2 : (St.mk [b1, b2, b3, b4, b5] 0).bs.length ≤ 1099511627776 := by simp
  have r3 : (St.mk [b2, b3, b4, b5] 0).bs.length ≤ 1099511627776 := by simp
  have R1 := Lib.hid r1
  have R2 := Lib.hid r2
  have R3 := Lib.hid r3
  clear hr6 hcell hu hl ht hz h4 h6 n1 n2 n3 r1 r2 r3
  have HX := Lib.hid hE
  have HY := Lib.hid hN
  clear hE hN
  generalize l.length = n at *
  go_enter Try.func29, Try.ntmps29
  go_wp2_with fail
  with_reducible refine (of_calls _ [b0, b1, b2, b3, b4, b5] w HR.out (by simp)).mono ?_
  rintro e w1 ⟨RB, hRB, rfl, hd1, ht1⟩
  have HD1 := Lib.hid hd1
  have HT1 := Lib.hid ht1
  clear hd1 ht1 HR
  go_wp2_with fail
  with_reducible refine (rbyte_calls RB _ w1 HD1.out R1.out).mono ?_
  rw [N1.out]
  rintro e w2 ⟨rfl, hd2⟩
  have HD2 := Lib.hid hd2.rdr
  have HT2 : Hid (Turns (fun _ => False) w w2) := HT1.out.next hd2.2 (fun i hi hs => by omega)
  clear hd2 HD1 HT1 N1 R1
  by_cases hb : b0 = 1
  · subst hb
    have hE0 : Hid (E = 0) := by have := HX.out; rw [if_pos rfl] at this; exact this
    have hN0 : Hid (N = 10 + x) := by have := HY.out; rw [if_pos hE0.out] at this; exact this
    clear HX HY
    go_wp2_with fail
    with_reducible refine (rbyte_calls RB _ w2 HD2.out R2.out).mono ?_
    rw [N2.out]
    rintro e w3 ⟨rfl, hd3⟩
    have HD3 := Lib.hid hd3.rdr
    have HT3 : Hid (Turns (fun _ => False) w w3) := HT2.out.next hd3.2 (fun i hi hs => by omega)
    clear hd3 HD2 HT2 N2 R2
    go_wp2_with fail
    with_reducible refine (rfour_calls RB _ w3 HD3.out R3.out).mono ?_
    rw [N3.out]
    rintro e w4 ⟨rfl, hd4⟩
    have HT4 : Hid (Turns (fun _ => False) w w4) := HT3.out.next hd4.2 (fun i hi hs => by omega)
    clear hd4 HD3 HT3 N3 R3
    go_wp2
    go_ret2
    refine ⟨?_, HT4.out⟩
    rw [hE0.out, hN0.out]
    go_num
  · have hE0 : Hid (E = 6) := by have := HX.out; rw [if_neg hb] at this; exact this
    have hN0 : Hid (N = 0) := by have := HY.out; rw [hE0.out, if_neg (by decide)] at this; exact this
    have hne : ¬ (b0.toNat : Int) = 1 := by
      intro e
      apply hb
      apply UInt8.toNat_inj.1
      show b0.toNat = 1
      omega
    have hn1 : ((b0.toNat : Int) != 1) = true := by simpa using hne
    have hn2 : ((b0.toNat : Int) == 1) = false := by simpa using hne
    clear HX HY hne
    go_wp2
    go_ret2
    refine ⟨?_, HT2.out⟩
    rw [hE0.out, hN0.out]
    rfl
theorem fsaid_calls (u : Value) (l : List UInt8) (w : World) (hu : RdC w u l) (hm : l.length ≤ 9223372036854775807) : Calls Try.prog 29 #[u] w (Sized (saidN l) (saidE l) w) := by
  by_cases h : l.length < 10
  · have hE : saidE l = 2 := by unfold saidE; rw [if_pos h]
    have hN : saidN l = 0 := by unfold saidN; rw [hE]; rfl
    rw [hE, hN]
    obtain ⟨A, c, rfl⟩ := hu.shape
    exact fsaid_short _ A c w h
  · exact fsaid_long u l w hu (by omega) hm
end Go.Proofs.Ytnfiaibfhfpmjaa

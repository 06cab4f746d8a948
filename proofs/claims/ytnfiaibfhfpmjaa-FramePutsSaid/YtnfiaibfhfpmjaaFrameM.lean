/-
  A frame, as plain bytes: its head says how many bytes it has, its sum is its own, and its kind and body are there.
  Conditions: none.
-/
import Derived.Test.YtnfiaibfhfpmjaaFrameH
namespace Go.Proofs.Ytnfiaibfhfpmjaa
open Go.RowKit

theorem frameB_form (kind : Nat) (l : List UInt8) : ∃ tl, frameB kind l = 1 :: UInt8.ofNat kind :: (le l.length 4 ++ (l ++ tl)) ∧ tl.length = 4 := by
  refine ⟨le (crc (bareB kind l)).toNat 4, ?_, le_length _ _⟩
  have h1 : le 1 1 = [1] := by decide
  have h2 : le kind 1 = [UInt8.ofNat kind] := by
    show [] ++ [UInt8.ofNat (kind / 256 ^ 0)] = [UInt8.ofNat kind]
    simp
  show bareB kind l ++ le (crc (bareB kind l)).toNat 4 = _
  generalize le (crc (bareB kind l)).toNat 4 = tl
  unfold bareB
  rw [h1, h2]
  simp
theorem frame_got (kind : Nat) (l : List UInt8) (hk : kind < 256) (hl : l.length ≤ 65526) : fgetE (frameB kind l) = 0 ∧ bodyOf (frameB kind l) = l ∧ ((frameB kind l).getD 1 0).toNat = kind := by
  obtain ⟨tl, hf, ht⟩ := frameB_form kind l
  have hlen := frameB_length kind l
  have hok : okB (frameB kind l) = true := okB_seal (bareB kind l)
  generalize frameB kind l = fr at *
  have hd4 : (fr.drop 2).take 4 = le l.length 4 := by
    rw [hf]
    show (le l.length 4 ++ (l ++ tl)).take 4 = _
    rw [List.take_left' (le_length _ _)]
  have hz : fr.getD 0 0 = 1 := by rw [hf]; rfl
  have hE : saidE fr = 0 := by unfold saidE; rw [if_neg (by omega), hz, if_pos rfl]
  have hN : saidN fr = fr.length := by
    unfold saidN
    rw [if_pos hE, hd4, val_le, Nat.mod_eq_of_lt (by simp; omega)]
    omega
  have hF : fitsE fr = 0 := by
    unfold fitsE
    rw [if_neg (by omega), hE, if_neg (by simp), hN, if_neg (by omega), if_neg (by omega)]
  refine ⟨?_, ?_, ?_⟩
  · unfold fgetE; rw [hF, if_neg (by simp), hok]; rfl
  · unfold bodyOf
    have e : fr = (1 :: UInt8.ofNat kind :: (le l.length 4 ++ l)) ++ tl := by rw [hf]; simp
    have e2 : fr.take (fr.length - 4) = 1 :: UInt8.ofNat kind :: (le l.length 4 ++ l) := by
      rw [e, List.take_left' (by simp only [List.length_append, List.length_cons, le_length, ht]; omega)]
    rw [e2]
    show (le l.length 4 ++ l).drop 4 = l
    rw [List.drop_left' (le_length _ _)]
  · rw [hf]
    show (UInt8.ofNat kind).toNat = kind
    simp
    omega
end Go.Proofs.Ytnfiaibfhfpmjaa

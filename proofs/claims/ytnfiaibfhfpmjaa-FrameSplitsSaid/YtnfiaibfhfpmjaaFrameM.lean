/-
  A frame, as plain bytes: its head says how many bytes it has, its sum is its own, and its kind and body are there.
  Conditions: none.
-/
import Derived.Test.YtnfiaibfhfpmjaaFrameH
namespace Go.Proofs.Ytnfiaibfhfpmjaa
open Go.RowKit

theorem frameB_form (kind : Nat) (l : List UInt8) : ∃ tl, frameB kind l = 1 :: UInt8.ofNat kind :: (le l.length 4 ++ (l ++ tl)) ∧ tl.length = 4 := by
  refine ⟨le (crc (bareB kind l)).toNat 4, ?_, le_length _ _⟩
  have h1 : le 1 1 = [1] := by decide
  have h2 : le kind 1 = [UInt8.ofNat kind] := by
    show [] ++ [UInt8.ofNat (kind / 256 ^ 0)] = [UInt8.ofNat kind]
    simp
  show bareB kind l ++ le (crc (bareB kind l)).toNat 4 = _
  generalize le (crc (bareB kind l)).toNat 4 = tl
  unfold bareB
  rw [h1, h2]
  simp
theorem frame_got (kind : Nat) (l : List UInt8) (hk : kind < 256) (hl : l.length ≤ 65526) : fgetE (frameB kind l) = 0 ∧ bodyOf (frameB kind l) = l ∧ ((frameB kind l).getD 1 0).toNat = kind := by
  obtain ⟨tl, hf, ht⟩ := frameB_form kind l
  have hlen := frameB_length kind l
  have hok : okB (frameB kind l) = true := okB_seal (bareB kind l)
  generalize frameB kind l = fr at *
  have hd4 : (fr.drop 2).take 4 = le l.length 4 := by
    rw [hf]
    show (le l.length 4 ++ (l ++ tl)).take 4 = _
    rw [List.take_left' (le_length _ _)]
  have hz : fr.getD 0 0 = 1 := by rw [hf]; rfl
  have hE : saidE fr = 0 := by unfold saidE; rw [if_neg (by omega), hz, if_pos rfl]
  have hN : saidN fr = fr.length := by
    unfold saidN
    rw [if_pos hE, hd4, val_le, Nat.mod_eq_of_lt (by simp; omega)]
    omega
  have hF : fitsE fr = 0 := by
    unfold fitsE
    rw [if_neg (by omega), hE, if_neg (by simp), hN, if_neg (by omega), if_neg (by omega)]
  refine ⟨?_, ?_, ?_⟩
  · unfold fgetE; rw [hF, if_neg (by simp), hok]; rfl
  · unfold bodyOf
    have e : fr = (1 :: UInt8.ofNat kind :: (le l.length 4 ++ l)) ++ tl := by rw [hf]; simp
    have e2 : fr.take (fr.length - 4) = 1 :: UInt8.ofNat kind :: (le l.length 4 ++ l) := by
      rw [e, List.take_left' (by simp only [List.length_append, List.length_cons, le_length, ht]; omega)]
    rw [e2]
    show (le l.length 4 ++ l).drop 4 = l
    rw [List.drop_left' (le_length _ _)]
  · rw [hf]
    show (UInt8.ofNat kind).toNat = kind
    simp
    omega

/-- Frames, one behind the other, their kinds by places. -/
def frs : Nat → List (List UInt8) → List UInt8
  | _, [] => []
  | i, x :: t => frameB i x ++ frs (i + 1) t
theorem frs_snoc (l : List (List UInt8)) (x : List UInt8) : ∀ i, frs i (l ++ [x]) = frs i l ++ frameB (i + l.length) x := by
  induction l with
  | nil => intro i; simp [frs]
  | cons y t ih =>
    intro i
    show frameB i y ++ frs (i + 1) (t ++ [x]) = frameB i y ++ frs (i + 1) t ++ frameB (i + (t.length + 1)) x
    rw [ih, List.append_assoc, show i + 1 + t.length = i + (t.length + 1) by omega]
theorem frs_take (rs : List (List UInt8)) (k : Nat) (hk : k < rs.length) : frs 0 (rs.take (k + 1)) = frs 0 (rs.take k) ++ frameB k rs[k] := by
  rw [List.take_succ_eq_append_getElem hk, frs_snoc, List.length_take, Nat.zero_add, Nat.min_eq_left (by omega)]
theorem frs_drop (rs : List (List UInt8)) (k : Nat) (hk : k < rs.length) : frs k (rs.drop k) = frameB k rs[k] ++ frs (k + 1) (rs.drop (k + 1)) := by
  rw [List.drop_eq_getElem_cons hk, frs]
/-- What a head says. -/
def splitHead (l : List UInt8) : Int × Nat := (saidE l, saidN l)
theorem split_frame (kind : Nat) (l r : List UInt8) (hl : l.length ≤ 65526) : splitHead (frameB kind l ++ r) = (0, (frameB kind l).length) := by
  obtain ⟨tl, hf, ht⟩ := frameB_form kind l
  have hlen := frameB_length kind l
  have hz : (frameB kind l ++ r).getD 0 0 = 1 := by rw [hf]; rfl
  have hd4 : ((frameB kind l ++ r).drop 2).take 4 = le l.length 4 := by
    rw [hf]
    show ((le l.length 4 ++ (l ++ tl)) ++ r).take 4 = _
    rw [List.append_assoc, List.take_left' (le_length _ _)]
  have hE : saidE (frameB kind l ++ r) = 0 := by
    unfold saidE
    rw [if_neg (by rw [List.length_append]; omega), hz, if_pos rfl]
  have hN : saidN (frameB kind l ++ r) = (frameB kind l).length := by
    unfold saidN
    rw [if_pos hE, hd4, val_le, Nat.mod_eq_of_lt (by simp; omega)]
    omega
  unfold splitHead
  rw [hE, hN]
end Go.Proofs.Ytnfiaibfhfpmjaa

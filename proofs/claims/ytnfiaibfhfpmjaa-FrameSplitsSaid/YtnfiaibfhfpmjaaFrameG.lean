/-
  What a framer's Get and Split tell: what a frame has, or what is wrong first; the first frame and the rest.
  Conditions: the framer is nobody else's.
-/
import Derived.Test.YtnfiaibfhfpmjaaFrameS
namespace Go.Proofs.Ytnfiaibfhfpmjaa
open Go.RowKit

/-- The error's number of bytes that are not just as many as they say. -/
def fitsE (l : List UInt8) : Int := if 65536 < l.length then 3 else if saidE l ≠ 0 then saidE l else if l.length < saidN l then 2 else if saidN l < l.length then 3 else 0
/-- A number is told, and nothing that was there has turned. -/
def Errs (x : Int) (w : World) (e : Ending) (w' : World) : Prop := e = .returned (.int .i64 x) ∧ Turns (fun _ => False) w w'
theorem ffits_long (n : Nat) (A : Option Addr) (c : Nat) (w : World) (h : 65536 < n) (hm : n ≤ 9223372036854775807) : Calls Try.prog 22 #[.slice A n c] w (Errs 3 w) := by
  go_enter Try.func22, Try.ntmps22
  go_wp2
  go_ret
  exact ⟨rfl, Turns.refl _ _⟩
theorem ffits_calls (u : Value) (l : List UInt8) (w : World) (hu : RdC w u l) (hm : l.length ≤ 9223372036854775807) : Calls Try.prog 22 #[u] w (Errs (fitsE l) w) := by
  by_cases h : 65536 < l.length
  · have hE : fitsE l = 3 := by unfold fitsE; rw [if_pos h]
    rw [hE]
    obtain ⟨A, c, rfl⟩ := hu.shape
    exact ffits_long _ A c w h hm
  · have hF : fitsE l = if saidE l ≠ 0 then saidE l else if l.length < saidN l then 2 else if saidN l < l.length then 3 else 0 := by unfold fitsE; rw [if_neg h]
    have HC := Lib.hid (fsaid_calls u l w hu hm)
    have hNl := saidN_lt l
    obtain ⟨A, c, rfl⟩ := hu.shape
    clear hu
    generalize saidE l = E at *
    generalize saidN l = N at *
    generalize l.length = n at *
    generalize fitsE l = F at *
    by_cases h1 : E ≠ 0
    · rw [if_pos h1] at hF
      rw [hF]
      clear hF
      have e1 : (E != 0) = true := by simpa using h1
      have e2 : (E == 0) = false := by simpa using h1
      clear h1
      go_enter Try.func22, Try.ntmps22
      go_wp2_with fail
      with_reducible refine HC.out.mono ?_
      rintro e w1 ⟨rfl, ht⟩
      have HT := Lib.hid ht
      clear ht HC
      go_wp2
      go_ret
      exact ⟨rfl, HT.out⟩
    · rw [if_neg h1] at hF
      obtain rfl : E = 0 := by omega
      clear h1
      have hw : IntKind.u64.wrap (n : Int) = (n : Int) := by rw [IntKind.wrap_u64]; omega
      by_cases h2 : n < N
      · rw [if_pos h2] at hF
        subst hF
        go_enter Try.func22, Try.ntmps22
        go_wp2_with fail
        with_reducible refine HC.out.mono ?_
        rintro e w1 ⟨rfl, ht⟩
        have HT := Lib.hid ht
        clear ht HC
        go_wp2
        go_ret
        exact ⟨rfl, HT.out⟩
      · rw [if_neg h2] at hF
        by_cases h3 : N < n
        · rw [if_pos h3] at hF
          subst hF
          go_enter Try.func22, Try.ntmps22
          go_wp2_with fail
          with_reducible refine HC.out.mono ?_
          rintro e w1 ⟨rfl, ht⟩
          have HT := Lib.hid ht
          clear ht HC
          go_wp2
          go_ret
          exact ⟨rfl, HT.out⟩
        · rw [if_neg h3] at hF
          subst hF
          go_enter Try.func22, Try.ntmps22
          go_wp2_with fail
          with_reducible refine HC.out.mono ?_
          rintro e w1 ⟨rfl, ht⟩
          have HT := Lib.hid ht
          clear ht HC
          go_wp2
          go_ret
          exact ⟨rfl, HT.out⟩

/-- The error's number of Get. -/
def fgetE (l : List UInt8) : Int := if fitsE l ≠ 0 then fitsE l else if okB l then 0 else 5
/-- The body of a frame. -/
def bodyOf (l : List UInt8) : List UInt8 := (l.take (l.length - 4)).drop 6
/-- What Get tells. -/
def Gets (B : Nat) (l : List UInt8) (w : World) (e : Ending) (w' : World) : Prop :=
  ∃ v, e = .returned (.tuple #[.int .u8 (if fgetE l = 0 then ((l.getD 1 0).toNat : Int) else 0), v, .int .i64 (fgetE l)]) ∧ (if fgetE l = 0 then Rd w' v (bodyOf l) else v = .slice none 0 0) ∧ (∃ m, Tbl w' B m) ∧ Turns (fun i => i = B) w w'

theorem fits_zero {l : List UInt8} (h : fitsE l = 0) : ∃ b1 b2 b3 b4 b5 t, l = 1 :: b1 :: b2 :: b3 :: b4 :: b5 :: t ∧ t.length = 4 + val [b2, b3, b4, b5] ∧ l.length ≤ 65536 := by
  unfold fitsE at h
  split at h
  · omega
  rename_i h0
  split at h
  · omega
  rename_i h1
  split at h
  · omega
  rename_i h2
  split at h
  · omega
  rename_i h3
  have hs : saidE l = 0 := by omega
  have hlen : l.length = saidN l := by omega
  have h10 : 10 ≤ l.length := by
    unfold saidE at hs
    split at hs
    · omega
    · omega
  obtain ⟨b0, b1, b2, b3, b4, b5, t, rfl, ht⟩ := ten h10
  have hb : b0 = 1 := by
    unfold saidE at hs
    rw [if_neg (by omega)] at hs
    split at hs
    · rename_i hh; exact hh
    · omega
  subst hb
  unfold saidN at hlen
  rw [if_pos hs] at hlen
  refine ⟨b1, b2, b3, b4, b5, t, rfl, ?_, by omega⟩
  have : ((1 :: b1 :: b2 :: b3 :: b4 :: b5 :: t : List UInt8).drop 2).take 4 = [b2, b3, b4, b5] := rfl
  rw [this] at hlen
  simp at hlen
  omega

theorem fget_bad (B : Nat) (m : Bool) (u : Value) (l : List UInt8) (w : World) (h : Tbl w B m) (hu : RdC w u l) (hm : l.length ≤ 9223372036854775807) (hE : fitsE l ≠ 0) :
    Calls Try.prog 11 #[.pointer (some ⟨B, 0, none⟩), u] w (Gets B l w) := by
  have hG : fgetE l = fitsE l := by unfold fgetE; rw [if_pos hE]
  have hfin : ∀ w', Turns (fun _ => False) w w' → Gets B l w (.returned (.tuple #[.int .u8 0, .slice none 0 0, .int .i64 (fitsE l)])) w' := by
    intro w' ht
    refine ⟨.slice none 0 0, ?_, ?_, ⟨m, h.turns ht (fun f => f)⟩, ht.mono (fun _ _ f => f.elim)⟩
    · rw [hG, if_neg hE]
    · rw [hG, if_neg hE]
  have HC := Lib.hid (ffits_calls u l w hu hm)
  have HF := Lib.hid hfin
  obtain ⟨A, c, rfl⟩ := hu.shape
  clear hu hfin h hG
  generalize fitsE l = E at *
  generalize l.length = n at *
  have e1 : (E != 0) = true := by simpa using hE
  have e2 : (E == 0) = false := by simpa using hE
  clear hE
  go_enter Try.func11, Try.ntmps11
  go_wp2_with fail
  with_reducible refine HC.out.mono ?_
  rintro e w1 ⟨rfl, ht⟩
  have HT := Lib.hid (HF.out w1 ht)
  clear ht HC HF
  go_wp2
  go_ret3
  exact HT.out
end Go.Proofs.Ytnfiaibfhfpmjaa

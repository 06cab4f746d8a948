/-
  What a framer's Split tells: the frame with which bytes begin, and the rest, both in new memory; or what is wrong first.
  Conditions: none.
-/
import Derived.Test.YtnfiaibfhfpmjaaFrameH
import Derived.Deep.RegionWith
namespace Go.Proofs.Ytnfiaibfhfpmjaa
open Go.RowKit

/-- The error's number of Split. -/
def splitE (l : List UInt8) : Int := if saidE l ≠ 0 then saidE l else if 65536 < saidN l then 3 else if l.length < saidN l then 2 else 0
/-- What Split tells without an error. -/
def Splits (l1 l2 : List UInt8) (w : World) (e : Ending) (w' : World) : Prop :=
  ∃ v1 v2, e = .returned (.tuple #[v1, v2, .int .i64 0]) ∧ w'.ownsRow 0 5 1 v1 l1.length (cellsOf l1) ∧ w'.ownsRow 0 5 1 v2 l2.length (cellsOf l2) ∧ (∀ k, v1.ownBlock = some k → w.heap.size ≤ k) ∧ (∀ k, v2.ownBlock = some k → w.heap.size ≤ k) ∧ Turns (fun _ => False) w w'
/-- What it tells with one. -/
def Unsplit (x : Int) (w : World) (e : Ending) (w' : World) : Prop := e = .returned (.tuple #[.slice none 0 0, .slice none 0 0, .int .i64 x]) ∧ Turns (fun _ => False) w w'

theorem fsplit_bad (B : Nat) (u : Value) (l : List UInt8) (w : World) (hu : RdC w u l) (hm : l.length ≤ 9223372036854775807) (hE : splitE l ≠ 0) :
    Calls Try.prog 13 #[.pointer (some ⟨B, 0, none⟩), u] w (Unsplit (splitE l) w) := by
  have HC := Lib.hid (fsaid_calls u l w hu hm)
  have hNl := saidN_lt l
  have hS : splitE l = if saidE l ≠ 0 then saidE l else if 65536 < saidN l then 3 else if l.length < saidN l then 2 else 0 := rfl
  obtain ⟨A, c, rfl⟩ := hu.shape
  clear hu
  generalize saidE l = E at *
  generalize saidN l = N at *
  generalize l.length = n at *
  generalize splitE l = F at *
  by_cases h1 : E ≠ 0
  · rw [if_pos h1] at hS
    rw [hS]
    clear hS hE
    have e1 : (E != 0) = true := by simpa using h1
    have e2 : (E == 0) = false := by simpa using h1
    clear h1
    go_enter Try.func13, Try.ntmps13
    go_wp2_with fail
    with_reducible refine HC.out.mono ?_
    rintro e w1 ⟨rfl, ht⟩
    have HT := Lib.hid ht
    clear ht HC
    go_wp2
    go_ret3
    exact ⟨rfl, HT.out⟩
  · rw [if_neg h1] at hS
    obtain rfl : E = 0 := by omega
    clear h1
    by_cases h2 : 65536 < N
    · rw [if_pos h2] at hS
      subst hS
      clear hE
      go_enter Try.func13, Try.ntmps13
      go_wp2_with fail
      with_reducible refine HC.out.mono ?_
      rintro e w1 ⟨rfl, ht⟩
      have HT := Lib.hid ht
      clear ht HC
      go_wp2
      go_ret3
      exact ⟨rfl, HT.out⟩
    · rw [if_neg h2] at hS
      by_cases h3 : n < N
      · rw [if_pos h3] at hS
        subst hS
        clear hE
        have hw : IntKind.u64.wrap (n : Int) = (n : Int) := by rw [IntKind.wrap_u64]; omega
        go_enter Try.func13, Try.ntmps13
        go_wp2_with fail
        with_reducible refine HC.out.mono ?_
        rintro e w1 ⟨rfl, ht⟩
        have HT := Lib.hid ht
        clear ht HC
        go_wp2
        go_ret3
        exact ⟨rfl, HT.out⟩
      · rw [if_neg h3] at hS
        exact absurd hS hE

theorem split_zero {l : List UInt8} (h : splitE l = 0) : saidE l = 0 ∧ saidN l ≤ 65536 ∧ saidN l ≤ l.length ∧ 10 ≤ saidN l := by
  unfold splitE at h
  split at h
  · omega
  rename_i h1
  have h0 : saidE l = 0 := by omega
  split at h
  · omega
  split at h
  · omega
  refine ⟨h0, by omega, by omega, ?_⟩
  unfold saidN
  rw [if_pos h0]
  omega

set_option maxHeartbeats 1000000 in
theorem fsplit_ok (B : Nat) (u : Value) (l : List UInt8) (w : World) (hu : RdC w u l) (hm : l.length ≤ 1099511627776) (hE : splitE l = 0) :
    Calls Try.prog 13 #[.pointer (some ⟨B, 0, none⟩), u] w (Splits (l.take (saidN l)) (l.drop (saidN l)) w) := by
  obtain ⟨h0, h1, h2, h3⟩ := split_zero hE
  have hc := fsaid_calls u l w hu (by omega)
  rw [h0] at hc
  have HC := Lib.hid hc
  obtain ⟨g, off, c, rfl, hc1, hc2, hg, hcell⟩ := hu.form (by intro e; subst e; simp at h2; omega)
  have l1 : (l.take (saidN l)).length ≤ 1099511627776 := by rw [List.length_take]; omega
  have l2 : (l.drop (saidN l)).length ≤ 1099511627776 := by rw [List.length_drop]; omega
  have hr1 : Rd w (.slice (some ⟨g, off, none⟩) (saidN l) c) (l.take (saidN l)) := by
    have := rd_sub (k := 0) (n := saidN l) (c := c) hg hcell (by omega)
    simpa using this
  have hr2 : Rd w (.slice (some ⟨g, off + saidN l, none⟩) (l.length - saidN l) (c - saidN l)) (l.drop (saidN l)) := by
    have := rd_sub (k := saidN l) (n := l.length - saidN l) (c := c - saidN l) hg hcell (by omega)
    rwa [List.take_of_length_le (by rw [List.length_drop]; omega)] at this
  have hr3 : c = saidN l → Rd w (.slice (some ⟨g, off, none⟩) 0 0) (l.drop (saidN l)) := by
    intro e
    have hd : l.drop (saidN l) = [] := List.drop_of_length_le (by omega)
    rw [hd]
    exact ⟨_, _, rfl, fun f => absurd rfl f⟩
  have HR1 := Lib.hid hr1
  have HR2 := Lib.hid hr2
  have HR3 := Lib.hid hr3
  have L1 := Lib.hid l1
  have L2 := Lib.hid l2
  clear hr1 hr2 hr3 l1 l2 hc hcell hu h0 hE
  generalize l.take (saidN l) = p at *
  generalize l.drop (saidN l) = q at *
  generalize saidN l = N at *
  generalize l.length = n at *
  have hw : IntKind.u64.wrap (n : Int) = (n : Int) := by rw [IntKind.wrap_u64]; omega
  by_cases hcn : c = N
  · subst hcn
    have HR4 := Lib.hid (HR3.out rfl)
    clear HR3 HR2
    go_enter Try.func13, Try.ntmps13
    go_wp2_with fail
    with_reducible refine HC.out.mono ?_
    rintro e w1 ⟨rfl, ht⟩
    have HT := Lib.hid ht
    have HA := Lib.hid (HR1.out.still ht.drew)
    have HB := Lib.hid (HR4.out.still ht.drew)
    clear ht HC HR1 HR4
    go_wp2_with fail
    go_region_with (first
      | (go_at_call_of 30 (Value.slice (some ⟨g, off, none⟩) c c); (with_reducible refine (clone_calls _ p _ HA.out L1.out).mono ?_); rintro e w2 ⟨v2, rfl, ho2, hb2, ht2⟩; have HO2 := Lib.hid ho2; have HB2 := Lib.hid hb2; have HT2 := Lib.hid ht2; have HB3 := Lib.hid (HB.out.still ht2); obtain ⟨A2, c2, rfl⟩ := owns_shape ho2; clear ho2 hb2 ht2)
      | (go_at_call 30; (with_reducible refine (clone_calls _ q _ HB3.out L2.out).mono ?_); rintro e w3 ⟨v3, rfl, ho3, hb3, ht3⟩; obtain ⟨A3, c3, rfl⟩ := owns_shape ho3; have HF : Hid (Splits p q w (.returned (.tuple #[.slice A2 p.length c2, .slice A3 q.length c3, .int .i64 0])) w3) := ⟨_, _, rfl, ht3.owns HO2.out (fun _ _ f => f), ho3, fun k hk => Nat.le_trans HT.out.size (HB2.out k hk), fun k hk => Nat.le_trans HT.out.size (Nat.le_trans HT2.out.size (hb3 k hk)), (HT.out.drew.next HT2.out (fun _ _ f => f)).next ht3 (fun _ _ f => f)⟩; clear ho3 hb3 ht3 HO2 HB2 HT2 HB3))
    all_goals
      go_wp2
      go_ret3
      exact HF.out
  · clear HR3
    go_enter Try.func13, Try.ntmps13
    go_wp2_with fail
    with_reducible refine HC.out.mono ?_
    rintro e w1 ⟨rfl, ht⟩
    have HT := Lib.hid ht
    have HA := Lib.hid (HR1.out.still ht.drew)
    have HB := Lib.hid (HR2.out.still ht.drew)
    clear ht HC HR1 HR2
    go_wp2_with fail
    go_region_with (first
      | (go_at_call_of 30 (Value.slice (some ⟨g, off, none⟩) N c); (with_reducible refine (clone_calls _ p _ HA.out L1.out).mono ?_); rintro e w2 ⟨v2, rfl, ho2, hb2, ht2⟩; have HO2 := Lib.hid ho2; have HB2 := Lib.hid hb2; have HT2 := Lib.hid ht2; have HB3 := Lib.hid (HB.out.still ht2); obtain ⟨A2, c2, rfl⟩ := owns_shape ho2; clear ho2 hb2 ht2)
      | (go_at_call 30; (with_reducible refine (clone_calls _ q _ HB3.out L2.out).mono ?_); rintro e w3 ⟨v3, rfl, ho3, hb3, ht3⟩; obtain ⟨A3, c3, rfl⟩ := owns_shape ho3; have HF : Hid (Splits p q w (.returned (.tuple #[.slice A2 p.length c2, .slice A3 q.length c3, .int .i64 0])) w3) := ⟨_, _, rfl, ht3.owns HO2.out (fun _ _ f => f), ho3, fun k hk => Nat.le_trans HT.out.size (HB2.out k hk), fun k hk => Nat.le_trans HT.out.size (Nat.le_trans HT2.out.size (hb3 k hk)), (HT.out.drew.next HT2.out (fun _ _ f => f)).next ht3 (fun _ _ f => f)⟩; clear ho3 hb3 ht3 HO2 HB2 HT2 HB3))
    all_goals
      go_wp2
      go_ret3
      exact HF.out
end Go.Proofs.Ytnfiaibfhfpmjaa

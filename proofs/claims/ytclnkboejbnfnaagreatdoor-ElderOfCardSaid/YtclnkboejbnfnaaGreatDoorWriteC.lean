/-
  What the Writer's Bytes and Row do: all bytes, in new memory; a row of texts, put behind.
  Conditions: all that is written stays below 2^40 bytes; each text has at most 65535 bytes.
-/
import Derived.Test.YtclnkboejbnfnaaGreatDoorWriteB
namespace Go.Proofs.YtclnkboejbnfnaaGreatDoor
open Go.RowKit

set_option maxRecDepth 100000 in
theorem bytes_calls (B : Nat) (v : Value) (bs : List UInt8) (w : World) (h : Wtr w B v bs) (hroom : bs.length ≤ 1099511627776) :
    Calls Tryz.prog 55 #[.pointer (some ⟨B, 0, none⟩)] w (Fresh w bs) := by
  have hc := h.cell
  have HR := Lib.hid (Rd.of_own h.2)
  clear h
  go_enter Tryz.func55, Tryz.ntmps55
  go_wp2_with fail
  with_reducible refine (clone_calls v bs w HR.out hroom).mono ?_
  rintro e w1 ⟨v1, rfl, ho, hb, ht⟩
  obtain ⟨A, c, rfl⟩ := owns_shape ho
  have HO := Lib.hid ho
  have HB := Lib.hid hb
  have HT := Lib.hid ht
  clear ho hb ht
  go_wp2
  go_ret
  exact ⟨_, rfl, HO.out, HB.out, HT.out⟩

/-- A slice that reads as texts, nil let in. -/
def RdS (w : World) (A : Option Addr) (ss : List ByteArray) : Prop :=
  ss ≠ [] → ∃ b off, A = some ⟨b, off, none⟩ ∧ b < w.heap.size ∧ ∀ j (hj : j < ss.length), w.cell? ⟨b, off + j, none⟩ = some (.string ss[j])
theorem RdS.turns {S : Nat → Prop} {w w' : World} {A : Option Addr} {ss : List ByteArray} (h : RdS w A ss) (ht : Turns S w w') (hn : ss ≠ [] → ∀ a, A = some a → ¬ S a.block) : RdS w' A ss := by
  intro hne
  obtain ⟨b, off, rfl, hb, hc⟩ := h hne
  exact ⟨b, off, rfl, Nat.lt_of_lt_of_le hb ht.size, fun j hj => (ht.cell (p := ⟨b, off + j, none⟩) hb (hn hne ⟨b, off, none⟩ rfl)).trans (hc j hj)⟩

/-- A text with its length, as it is written. -/
def textB (s : ByteArray) : List UInt8 := le s.size 2 ++ s.data.toList
def textsB (ss : List ByteArray) : List UInt8 := ss.flatMap textB
theorem textB_length (s : ByteArray) : (textB s).length = s.size + 2 := by
  simp only [textB, List.length_append, le_length, bytes_length]; omega
theorem textsB_snoc (ss : List ByteArray) (k : Nat) (hk : k < ss.length) : textsB (ss.take (k + 1)) = textsB (ss.take k) ++ textB ss[k] := by
  unfold textsB
  rw [List.take_succ_eq_append_getElem hk, List.flatMap_append, List.flatMap_singleton]
theorem textsB_length (ss : List ByteArray) (h : ∀ s ∈ ss, s.size ≤ 65535) : (textsB ss).length ≤ 65537 * ss.length := by
  induction ss with
  | nil => simp [textsB]
  | cons s ss ih =>
    have h1 := ih (fun t ht => h t (List.mem_cons_of_mem _ ht))
    have h2 := h s (List.mem_cons_self ..)
    have h3 : (textsB (s :: ss)).length = (textB s).length + (textsB ss).length := by simp [textsB]
    rw [h3, textB_length, List.length_cons]
    omega
theorem textsB_take_length (ss : List ByteArray) (k : Nat) (h : ∀ s ∈ ss, s.size ≤ 65535) (hk : k ≤ 65535) : (textsB (ss.take k)).length ≤ 4294967295 := by
  have := textsB_length (ss.take k) (fun s hs => h s (List.mem_of_mem_take hs))
  have h2 : (ss.take k).length ≤ k := List.length_take_le _ _
  omega
def rowB (ss : List ByteArray) : List UInt8 := le ss.length 2 ++ textsB ss

set_option maxRecDepth 100000 in
set_option maxHeartbeats 1000000 in
theorem row_calls (B : Nat) (v : Value) (bs : List UInt8) (A : Option Addr) (N c : Nat) (ss : List ByteArray) (w : World) (h : Wtr w B v bs) (hc : N ≤ c) (hm : c ≤ 9223372036854775807)
    (hN : ss.length = min N 65535) (hr : RdS w A ss) (hA : ss ≠ [] → ∀ a, A = some a → ¬ (a.block = B ∨ v.ownBlock = some a.block)) (hs : ∀ s ∈ ss, s.size ≤ 65535) (hroom : bs.length ≤ 549755813888) :
    Calls Tryz.prog 76 #[.pointer (some ⟨B, 0, none⟩), .slice A N c] w (Wrote w B v (bs ++ rowB ss)) := by
  have HS := Lib.hid hs
  have hN1 : ss.length ≤ 65535 := by omega
  have hAt : ∀ k, k < ss.length → ∀ w', Went w B v (bs ++ (le ss.length 2 ++ textsB (ss.take k))) w' → ∃ (b off : Nat) (t : ByteArray), A = some ⟨b, off, none⟩ ∧ w'.cell? ⟨b, off + k, none⟩ = some (.string t) ∧ t.size ≤ 65535 ∧ textsB (ss.take (k + 1)) = textsB (ss.take k) ++ textB t := by
    intro k hk w' hw
    obtain ⟨v', _, _, ht⟩ := hw
    obtain ⟨b, off, rfl, hb, hcell⟩ := hr.turns ht hA (by intro e; subst e; simp at hk)
    exact ⟨b, off, ss[k], rfl, hcell k hk, hs _ (List.getElem_mem hk), textsB_snoc ss k hk⟩
  have HAt := Lib.hid hAt
  clear hr hA hs hAt
  have fin : ∀ w', Went w B v (bs ++ (le ss.length 2 ++ textsB (ss.take ss.length))) w' → Went w B v (bs ++ rowB ss) w' := by
    intro w' h
    rwa [List.take_length] at h
  have HF := Lib.hid fin
  clear fin
  rcases Nat.lt_or_ge 65535 N with hl | hl
  · have hn : ss.length = 65535 := by omega
    clear hN
    generalize ss.length = n at *
    have HM := Lib.hid hn
    clear hn
    go_enter Tryz.func76, Tryz.ntmps76
    go_wp2_with fail
    with_reducible refine (two_at B v bs _ n w h (by rw [HM.out]; simp) (by rw [HM.out]; omega) (by omega)).mono ?_
    rintro e w1 ⟨rfl, hw1⟩
    have HW1 := Lib.hid hw1
    clear hw1
    go_wp2
    have e1 : (65535 : Nat) = n := HM.out.symm
    have e2 : (65535 : Int) = (n : Int) := by rw [HM.out]; simp
    rw [e1, e2]
    clear e1 e2
    go_loopw [19] (fun i wr => ∃ k : Nat, k ≤ n ∧ i = .int .i64 k ∧ Went w B v (bs ++ (le n 2 ++ textsB (ss.take k))) wr) (fun i _ => n - (intOf i).toNat)
    case atStart => exact ⟨0, Nat.zero_le _, rfl, by simpa [textsB] using HW1.out⟩
    case round =>
      obtain ⟨k, hk, rfl, hwr⟩ := hrel
      by_cases hlt : k < n
      · obtain ⟨b, off, t, rfl, hcell, ht, hsn⟩ := HAt.out k hlt wr hwr
        have hlen : (textsB (ss.take k)).length ≤ 4294967295 := textsB_take_length ss k HS.out (by omega)
        have HSN := Lib.hid hsn
        have HL := Lib.hid hlen
        obtain ⟨v1, hv1, ho1, ht1⟩ := hwr
        have HV := Lib.hid hv1
        have HO := Lib.hid ho1
        have HT := Lib.hid ht1
        clear hsn hlen hv1 ho1 ht1 HAt HF
        go_wp2_with fail
        have hll := le_length n 2
        have hlb := HL.out
        have hrm : (bs ++ (le n 2 ++ textsB (ss.take k))).length + 65545 ≤ 1099511627776 := by simp only [List.length_append, hll]; omega
        have HRM := Lib.hid hrm
        have HTS := Lib.hid ht
        clear hrm
        with_reducible refine (text_calls B v1 _ t wr HV.out HTS.out HRM.out).mono ?_
        rintro e w2 ⟨rfl, hw2⟩
        have R : Went w B v (bs ++ (le n 2 ++ textsB (ss.take (k + 1)))) w2 := by
          have := Went.next HO.out HT.out hw2
          rw [HSN.out]
          simpa [textB, List.append_assoc] using this
        have HR := Lib.hid R
        clear R hw2 hll hlb hcell
        go_wp2
        go_roundw
        case rel => exact ⟨k + 1, by omega, by go_num, HR.out⟩
        case measure => simp [intOf]; omega
      · obtain rfl : k = n := by omega
        have hfin := HF.out wr hwr
        have HFN := Lib.hid hfin
        clear hfin hwr
        go_wp2
        go_ret
        exact ⟨rfl, HFN.out⟩
  · obtain rfl : ss.length = N := by omega
    clear hN
    generalize ss.length = n at *
    go_enter Tryz.func76, Tryz.ntmps76
    go_wp2_with fail
    with_reducible refine (two_calls B v bs n w h (by omega) (by omega)).mono ?_
    rintro e w1 ⟨rfl, hw1⟩
    have HW1 := Lib.hid hw1
    clear hw1
    go_wp2
    go_loopw [19] (fun i wr => ∃ k : Nat, k ≤ n ∧ i = .int .i64 k ∧ Went w B v (bs ++ (le n 2 ++ textsB (ss.take k))) wr) (fun i _ => n - (intOf i).toNat)
    case atStart => exact ⟨0, Nat.zero_le _, rfl, by simpa [textsB] using HW1.out⟩
    case round =>
      obtain ⟨k, hk, rfl, hwr⟩ := hrel
      by_cases hlt : k < n
      · obtain ⟨b, off, t, rfl, hcell, ht, hsn⟩ := HAt.out k hlt wr hwr
        have hlen : (textsB (ss.take k)).length ≤ 4294967295 := textsB_take_length ss k HS.out (by omega)
        have HSN := Lib.hid hsn
        have HL := Lib.hid hlen
        obtain ⟨v1, hv1, ho1, ht1⟩ := hwr
        have HV := Lib.hid hv1
        have HO := Lib.hid ho1
        have HT := Lib.hid ht1
        clear hsn hlen hv1 ho1 ht1 HAt HF
        go_wp2_with fail
        have hll := le_length n 2
        have hlb := HL.out
        have hrm : (bs ++ (le n 2 ++ textsB (ss.take k))).length + 65545 ≤ 1099511627776 := by simp only [List.length_append, hll]; omega
        have HRM := Lib.hid hrm
        have HTS := Lib.hid ht
        clear hrm
        with_reducible refine (text_calls B v1 _ t wr HV.out HTS.out HRM.out).mono ?_
        rintro e w2 ⟨rfl, hw2⟩
        have R : Went w B v (bs ++ (le n 2 ++ textsB (ss.take (k + 1)))) w2 := by
          have := Went.next HO.out HT.out hw2
          rw [HSN.out]
          simpa [textB, List.append_assoc] using this
        have HR := Lib.hid R
        clear R hw2 hll hlb hcell
        go_wp2
        go_roundw
        case rel => exact ⟨k + 1, by omega, by go_num, HR.out⟩
        case measure => simp [intOf]; omega
      · obtain rfl : k = n := by omega
        have hfin := HF.out wr hwr
        have HFN := Lib.hid hfin
        clear hfin hwr
        go_wp2
        go_ret
        exact ⟨rfl, HFN.out⟩
end Go.Proofs.YtclnkboejbnfnaaGreatDoor
